import PyProof.Rows.All
import Wide.All
import OpenK.AllK
import Wide.FinOn
import Lean
import PyProof.EqAt
import PyProof.EqKinds
import PyProof.TupleCall
import PySem.SetOps
import KE.KSortTup
import PyProof.Rows.SortShellK
import KE.KDictSum
import PyProof.Rows.StrJoin2
import PyProof.Rows.SumAny
import KE.KxText
import PyProof.ZipIter
import PyProof.Rows.FactsT2
import PyProof.Rows.ZipGen
import PyProof.StrOps2
import PyProof.ListRange
import PyProof.ListStr
import PyProof.FString5
import PyProof.AutoSeq1
import PyProof.MinMaxWalk
import PyProof.WalksMore
import PyProof.Rows.CallKwBuiltin
import KE.KMinKey
import KE.KLam
import PyProof.TupleIter
import PySem.Challenge.RW_corepetals_k14_way_at_its_edges
open And renaming intro->iH
open Array renaming filterMap->jd,getD->gp,getD_eq_getD_getElem?->bR,getElem?_eq_some_iff->c9,getElem?_replicate->iu,getElem?_setIfInBounds_ne->gb,getElem?_setIfInBounds_self_of_lt->fg,getElem?_toList->aN,length_toList->aP,mem_of_getElem?->e7,mem_toList_iff->dH,perm_iff_toList_perm->cI,replicate->fK,size_append->dJ,size_map->jm,size_push->dy,toList_append->cg,toList_push->b7,toList_reverse->fq,toList_setIfInBounds->h9
open Array.Perm renaming refl->je
open Bool renaming and_eq_false_iff->gg,and_eq_true->bb,eq_false_iff->eA,false_eq_true->aM,false_ne_true->dZ,not_eq_true'->dl,not_false->jn,not_true->fG,true_and->iz
open Classical renaming byContradiction->ba
open False renaming elim->c6
open ForInStep renaming done->be,yield->bq
open Int renaming toNat_natCast->cy
open LawfulBEq renaming eq_of_beq->fP
open LawfulMonad renaming pure_bind->iG
open List renaming Nodup->g6,Pairwise->jA,Perm->ju,all_eq_true->bY,all_map->ja,any_eq_true->dY,any_map->jc,append_assoc->aU,append_nil->a7,drop_append->fy,drop_append_of_le_length->eR,drop_eq_getElem_cons->cJ,drop_eq_nil_of_le->bG,drop_length->eO,drop_zero->fm,eq_nil_of_length_eq_zero->bX,ext_getElem->iQ,ext_getElem?->fb,filterMap_append->gh,filterMap_cons->cf,filter_congr->ga,filter_cons->fA,filter_eq_self->eG,flatten_append->dr,flatten_singleton->dR,forIn_cons->fJ,getD_eq_getElem?_getD->ak,getElem?_append_left->dA,getElem?_append_right->bU,getElem?_cons_succ->iI,getElem?_cons_zero->iP,getElem?_drop->g7,getElem?_eq_getElem->ag,getElem?_eq_none->bV,getElem?_eq_some_iff->aA,getElem?_map->aT,getElem?_set_ne->fh,getElem?_take_of_lt->fE,getElem_drop->fY,getElem_inj->iC,getElem_map->iR,getElem_mem->dX,getElem_of_mem->bd,getElem_take->fc,isEmpty_nil->iM,length->gz,length_append->aG,length_cons->bA,length_drop->bn,length_eq_zero_iff->fR,length_eraseIdx_of_lt->hJ,length_filter_le->d5,length_map->am,length_nil->dM,length_pos_iff->dq,length_range->cj,length_singleton->d3,length_take->aQ,lookup_cons->cu,lookup_cons_self->gk,map->hU,mapM_toArray->io,map_append->bE,map_congr_left->du,map_cons->bz,map_id->gD,map_map->bS,map_nil->eU,mem_append->aL,mem_append_left->cC,mem_append_right->bf,mem_cons->aK,mem_cons_of_mem->au,mem_cons_self->aq,mem_filter->bL,mem_filterMap->eT,mem_flatten->gv,mem_map->bW,mem_of_getElem?->ao,mem_of_mem_drop->cV,mem_of_mem_take->bD,mem_range->aX,mem_reverse->iO,mem_singleton->ay,mergeSort_perm->gI,nil_append->bN,nodup_append->da,nodup_cons->bM,nodup_nil->eM,not_mem_nil->fw,of_mem_zip->d9,pairwise_append->a9,pairwise_cons->aY,pairwise_iff_getElem->bQ,pairwise_lt_range->fZ,pairwise_map->de,pairwise_mergeSort->fT,pairwise_reverse->gj,pairwise_singleton->a4,perm_append_comm->cO,perm_append_singleton->g8,perm_middle->fx,range->a6,range_succ->gG,replicate->gW,reverse_perm->ip,size_toArray->ar,take->jv,take_add_one->cL,take_append_drop->bg,take_append_of_le_length->cM,take_length->dG,take_of_length_le->br,take_sublist->c7,take_sublist_take_left->gP,take_succ_cons->dw,take_zero->h8,zip_cons_cons->eV
open List.Pairwise renaming imp_of_mem->cQ,nil->e9,sublist->gl
open List.Perm renaming append_left->d4,append_right->dQ,refl->db
open MonadExcept renaming tryCatch->jq
open Ne renaming symm->cY
open Option renaming getD_none->iF,isSome_iff_exists->cr,map_eq_some_iff->b8
open Option.some renaming inj->aS
open Or renaming inl->bB,inr->ie
open PyProof.Rows renaming AllBare->ik,IntsAre->gK,IsTup->iB,Keyed->aJ,SortKind->eN,SortSt->cG,StrsAre->jb,arrOf->aO,callWith_type1->e8,elem'->d0,envOfC->gX,failedOf->fo,get?_update_seq->ef,lt_str->jw,mirror->dz,pairsOf->gy,pairsOf_toList->ic,pendingOf->bH,reverseSlice'_eq->cX,seqObj->bO,setArr->cz,setPending->ft,slot_tuple_getitem->ca,sortedHeap->gu,wpS_bind->ax,wpS_forRange->bK,wpS_get->gN,wpS_lift->hZ,wpS_modify->cH,wpS_mono->cW,wpS_pure->aB
open PyProof.Rows.F renaming entry_set_update_loop->fD,plain_set_update_loop->dO
open PyProof.Rows.SortSt renaming mk'->hX
open PySem renaming Around->a8,Builtin->cx,Comprehension->eD,Fin->gR,FuncData->cT,Heap->bj,Keyword->i6,NameKind->eX,Paired->bi,Program->aF,SetTable->aV,Shared->ah,Value->ad,World->aR,argBest->cN,assign->iV,assignEach->eC,attributeBase->ir,backTo->cD,backToKw->jj,behindInMarks->dU,binaryOp->eg,bootBuiltins->cb,builtinsNs->gT,cLine->cE,cellsFrom->eH,closureFor->gZ,codeAmong->gS,codeAny->eF,codeAny_builtin->ci,codeAny_mono->gJ,codeAny_of_tree->gF,compEnvC->gC,compTurn->eJ,compareOp->cA,concat_meets->iY,foldedSetIterable->bZ,getItem->iZ,holding->fv,keywordEach->gA,letOwnedTupleGo->eW,mainGlobals->aZ,mem_of_lookup->dN,model->aE,noFill_tuple_add->iE,ofAClassStatement->ff,pickOrder->gQ,plainId_quiet->cZ,pushCells->fQ,putSet_of->gq,pyIter->iW,pyNext->fi,rawInt->e6,recursionLimit->gV,relayAll->iK,setAddHashed->i7,setField->jo,setsByText->i9,sizeLine_eq->bh,sliceBounds->eP,standAt->fH,starEach->aC,strKind->dW,swapsWith->iD,unsupported->eQ,wpAny->aH,wpAny_Call_Name_kw->fM,wpAny_askSetting->cU,wpAny_bind->aa,wpAny_callSpecial?_slot->fO,wpAny_call_entry->dE,wpAny_execs_nil->gE,wpAny_forIn_list->iJ,wpAny_holding->bu,wpAny_ite_split->gH,wpAny_letGo->iq,wpAny_mono->cK,wpAny_newList->iy,wpAny_newObj_type->bC,wpAny_passesOwn->d8,wpAny_pure->ae,wpAny_pyIter_list->f8,wpAny_pyIter_tuple->ig,wpAny_rule->cS,wpAny_seqItems->eK,wpAny_setField_rec->cF,wpAny_setState_of->dg,wpAny_standAt->eZ,wpAny_storeSet_of->f7,wpAny_truthy_bool->dI,wpAny_tryCatch->fu,wpAny_typeOf->fW,wpAny_updateSeq->eY
open PySem.Around renaming under_plainId->bJ
open PySem.Builtin.Builtins renaming bindParams->gO
open PySem.Builtin.Frozenset renaming addrOf->iw
open PySem.Builtin.List renaming listExtendWith->gM,listLengthHint->gL,listSameRef->ix
open PySem.Builtin.Slice renaming sliceAdjust->fB,sliceApplied->fk,slicePlaces->d6
open PySem.Builtin.Str renaming strSliceIndices->bT
open PySem.Builtin.Tuple renaming tupleExact->b9,tupleItemsOf->gY
open PySem.Calls renaming Name_function_global->gU,call_function_entry->fC
open PySem.Code renaming compLoop->gx,compStart->fX
open PySem.F renaming args_tuple_add_2->fF,args_tuple_lt_2->iL,entry_extend_loop->ii,entry_tuple_add->fN,entry_tuple_lt->i8,plainAttrs_list->iS,plain_extend_loop->d7,plain_list_iadd->iN,plain_set_new->jh,slot_set_iter->ji,slot_tuple_add->fV,slot_tuple_lt->gi
open PySem.Heap renaming SameBut->dP,get?_push_of_some->af,get?_push_size->az,get?_update_other->bo,get?_update_self->cw,lt_size->aD,size_push->c8
open PySem.Heap.SameBut renaming refl->jC,update->cv
open PySem.NameKind renaming cell->gw,free->aW
open PySem.Obj renaming mapSeq->bI,putSet->dF
open PySem.Paired renaming length->cq
open PySem.PassesOwn renaming never->fL
open PySem.SeqAt renaming EqAt->cR,RcNeAt->cm
open PySem.SeqAt.EqAt renaming of_refs->jB,same->jf,str_str->g9
open PySem.SetTable renaming fill->jz,fits->jy,fresh->jl,grown->dh
open PySem.Value renaming int->js,isStrOf->eB,isStrOf_shape->eE,none->cB,ref->jt,str->iA,type->dD
open PySem.W renaming Frag->av,cellsFrom_some->iX,codeIn->fU,fnOf->er,keepIn->fj,kla_fn->jr,kla_obj->jg,methodObj->ij,mg_of->jx,nsIn->bF,tabObj->f9
open PySem.Walks renaming tuple->jp
open PySem.pickOrder renaming go->jD
open Sum renaming inl->iT,inr->iU
set_option Elab.async false
set_option linter.all false
set_option maxRecDepth 100000
namespace L2
open PySem PySem.Spec PyProof.Rows
abbrev Key:=Sum Int Str
def cJy:Key->ad->Bool
 |.inl k,v=>ad.isInt k v
 |.inr x,v=>eB x v
def keyH(w:aR):Key->Int
 |.inl k=>hashInt k
 |.inr x=>hashStr w x
theorem aQi:∀{k:Key}{v:ad},cJy k v=true->(∃i t,k=iT i/\v=js i t)\/(∃x t,k=iU x/\v=iA x t)
 |.inl i,v,h=>by
  obtain⟨t,e⟩:=ad.isInt_shape (k:=i) (v:=v) h;exact .inl ⟨i,t,rfl,e⟩
 |.inr x,v,h=>by
  obtain⟨t,e⟩:=eE (x:=x) (v:=v) h;exact .inr ⟨x,t,rfl,e⟩
theorem eZ9(a b:Int):decide ((iT a:Key)=iT b)=(a==b):=by
 by_cases e:a=b
 ·subst e;simp
 ·have h:¬ (iT a:Key)=iT b:=λq=>e (iT.inj q);rw[decide_eq_false h];exact(beq_eq_false_iff_ne.mpr e).symm
theorem eZa(a b:Str):decide ((iU a:Key)=iU b)=decide (a=b):=by
 by_cases e:a=b
 ·subst e;simp
 ·have h:¬ (iU a:Key)=iU b:=λq=>e (iU.inj q);rw[decide_eq_false h,decide_eq_false e]
theorem eZb(a:Int)(b:Str):decide ((iT a:Key)=iU b)=false:=decide_eq_false (λq=>nomatch q)
theorem eZc(a:Str)(b:Int):decide ((iU a:Key)=iT b)=false:=decide_eq_false (λq=>nomatch q)
def aJj(prog:aF)(w:aR):PySem.KeyKind prog w Key where
 is:=cJy
 hash:=keyH w
 inj:=λv a b ha hb=>by
  rcases aQi ha with⟨i,t,rfl,rfl⟩|⟨x,t,rfl,rfl⟩
  ·rcases aQi hb with⟨j,u,rfl,e⟩|⟨y,u,rfl,e⟩
   ·injection e with e1 _;rw[e1]
   ·exact nomatch e
  ·rcases aQi hb with⟨j,u,rfl,e⟩|⟨y,u,rfl,e⟩
   ·exact nomatch e
   ·injection e with e1 _;rw[e1]
 byValue:=λk v h=>by
  rcases aQi h with⟨i,t,rfl,rfl⟩|⟨x,t,rfl,rfl⟩ <;> rfl
 pyHash:=λhv h=>by
  rcases aQi hv with⟨i,t,rfl,rfl⟩|⟨x,t,rfl,rfl⟩
  ·exact wpAny_pyHash_int h
  ·exact wpAny_pyHash_str h
 eqBool:=λhu hv h=>by
  rcases aQi hu with⟨i,t,rfl,rfl⟩|⟨x,t,rfl,rfl⟩
  ·rcases aQi hv with⟨j,u,rfl,rfl⟩|⟨y,u,rfl,rfl⟩
   ·rw[eZ9] at h;exact wpAny_eqBool_int h
   ·rw[eZb] at h;exact cR.int_str i t y u _ _ _ _ h
  ·rcases aQi hv with⟨j,u,rfl,rfl⟩|⟨y,u,rfl,rfl⟩
   ·rw[eZc] at h;exact cR.str_int x t j u _ _ _ _ h
   ·rw[eZa] at h;exact wpAny_eqBool_str h
 «strs»:=λk x t v h=>by
  rcases aQi h with⟨i,u,rfl,e⟩|⟨y,u,rfl,e⟩
  ·exact nomatch e
  ·injection e with e1 _
   subst e1;cases v <;> rfl
inductive V where
 |non|bl (b:Bool)|int (i:Int)|str (x:Str)|byt (b:Array UInt8)|flt (b:UInt64)|ref (a:Addr)|ty (n:String)
 deriving DecidableEq
def RelV:V->ad->Prop
 |.non,u=>u=cB
 |.bl b,u=>u=ad.bool b
 |.int i,u=>∃t,u=js i t
 |.str x,u=>∃t,u=iA x t
 |.byt b,u=>∃t,u=ad.bytes b t
 |.flt b,u=>∃t,u=ad.float b t
 |.ref a,u=>u=jt a
 |.ty n,u=>u=dD n
abbrev Vals:List V->List ad->Prop:=bi RelV
theorem Vals.length{xs:List V}{us:List ad}(r:Vals xs us):xs.length=us.length:=cq r
theorem Vals.get:∀{xs:List V}{us:List ad}{i:Nat}{x:V},Vals xs us->xs[i]?=some x->∃u,us[i]?=some u/\RelV x u
 |_,_,_,_,.nil,e=>by simp at e
 |_,_,0,_,.cons r _,e=>by simp at e;subst e;exact⟨_,rfl,r⟩
 |_,_,i+1,x,.cons _ t,e=>by
  obtain⟨u,h1,h2⟩:=Vals.get (i:=i) (x:=x) t (by simpa using e)
  exact⟨u,by simpa using h1,h2⟩
theorem Vals.set{x:V}{u:ad}(r:RelV x u):∀{xs:List V}{us:List ad}(i:Nat),Vals xs us->Vals (xs.set i x) (us.set i u)
 |_,_,_,.nil=>.nil
 |_,_,0,.cons _ t=>.cons r t
 |_,_,i+1,.cons q t=>.cons q (Vals.set r i t)
theorem Vals.append:∀{xs ys:List V}{us ws:List ad},Vals xs us->Vals ys ws->Vals (xs++ys) (us++ws)
 |_,_,_,_,.nil,s=>s
 |_,_,_,_,.cons r t,s=>.cons r (Vals.append t s)
theorem Vals.take:∀{xs:List V}{us:List ad}(n:Nat),Vals xs us->Vals (xs.take n) (us.take n)
 |_,_,0,_=>.nil
 |_,_,_+1,.nil=>.nil
 |_,_,n+1,.cons r t=>.cons r (Vals.take n t)
theorem Vals.drop:∀{xs:List V}{us:List ad}(n:Nat),Vals xs us->Vals (xs.drop n) (us.drop n)
 |_,_,0,r=>r
 |_,_,_+1,.nil=>.nil
 |_,_,n+1,.cons _ t=>Vals.drop n t
def RelO:Option V->Option ad->Prop
 |some v,some u=>RelV v u
 |none,none=>True
 |_,_=>False
def KV{κ:Type}:List (κ×V)->List (κ×ad)->Prop:=bi λ(p:κ×V) (q:κ×ad)=>p.1=q.1/\RelV p.2 q.2
def kV:Key->V
 |.inl i=>.int i
 |.inr x=>.str x
inductive HO where
 |lst (xs:List V)
 |tup (xs:List V)
 |dK (kvs:List (Key×V))|dT (kvs:List (List Key×V))
 |set (S:Int->Bool) (n:Nat)
 |ins (C dx:Addr) (fs:List (Str×V))
 |own (x:Addr)
 |xd (fs:List (Str×V))
 |met (f x:Addr)
 |rng (lo hi:Int)
 |frz (o:Obj) (u:HO)
 |tbl (ps:Array ad)
 |ext (φ:bj->Prop)
abbrev Hp:=Addr->Option HO
def upd(H:Hp)(a:Addr)(o:HO):Hp:=λb=>if b=a then some o else H b
theorem aQ7{H:Hp}{a:Addr}{o:HO}:upd H a o a=some o:=by unfold upd;rw[if_pos rfl]
theorem upd_ne{H:Hp}{a b:Addr}{o:HO}(h:b≠a):upd H a o b=H b:=by unfold upd;rw[if_neg h]
theorem aZh{H:Hp}{a b:Addr}{o:HO}(h:H a=some o)(h':H b=none):a≠b:=by
 intro e;subst e;rw[h] at h';cases h'
section
variable(P:aF)(w:aR)
def ObjOk(H:Hp)(h:bj)(a:Addr):HO->Prop
 |.lst xs=>xs.length<=sizeLine/\∃(its:List ad) (n:Nat),Vals xs its/\h.get? a=some {cls:=.type "list",data:=.seq its.toArray n}
 |.tup xs=>xs.length<=sizeLine/\∃its:List ad,Vals xs its/\iB h a its.toArray/\∀o,h.get? a=some o->o.dict=none
 |.dK kvs=>kvs.length<=sizeLine/\(a==sysModules)=false/\∃vs,KV kvs vs/\h.DictOf (aJj P w) a vs
 |.dT kvs=>kvs.length<=sizeLine/\(a==sysModules)=false/\∃xs:List (List Key×Addr×ad),
   bi (λ(p:List Key×V) (q:List Key×Addr×ad)=>p.1=q.1/\H q.2.1=some (.tup (p.1.map kV))/\RelV p.2 q.2.2) kvs xs /\
   ∃o es ep,h.get? a=some o/\o.ExactDict/\o.data=.dict es ep/\es.toList=xs.map (entryOfKey (tupleKind (aJj P w)))/\(xs.map (·.1)).Nodup
 |.set S n=>h.SetOf (intKind P w) a S n
 |.ins C dx fs=>H dx=some (.own a)/\fs.length<=1000/\dx≠a/\h.get? a=some (PySem.W.instObj C dx) /\
   ∃mA,h.Ns1 dx mA/\(∀f,RelO (fs.lookup f) (mA f))/\PySem.Within mA (fs.map (·.1))
 |.own _=>∃o,h.get? a=some o
 |.xd fs=>∃mA,h.Ns1 a mA/\∀f,RelO (fs.lookup f) (mA f)
 |.rng lo hi=>∃t u v,h.get? a=some {cls:=.type "range",data:=.fields #[.int lo t,.int hi u,.int 1 v]}
 |.frz o u=>h.get? a=some o/\ObjOk H h a u
 |.tbl ps=>h.get? a=some {cls:=.none,data:=.fields ps}
 |.met f x=>h.get? a=some (ij (.ref f) (.ref x))
 |.ext φ=>φ h/\(∃o,h.get? a=some o)/\∀h1 h2:bj,φ h1->(∀o,h1.get? a=some o->h2.get? a=some o)->φ h2
def HOk(H:Hp)(h:bj):Prop:=∀a o,H a=some o->ObjOk P w H h a o
end
section
variable{P:aF}{w:aR}{H H':Hp}{h h':bj}{a:Addr}{o:HO}
theorem ObjOk.lt(x:ObjOk P w H h a o):a<h.objs.size:=by
 cases o with
 |lst xs=>obtain⟨_,_,_,_,e⟩:=x;exact aD e
 |tup xs=>obtain⟨_,_,_,p⟩:=x;exact p.1.lt
 |dK d=>obtain⟨_,_,_,_,o,_,_,e,_⟩:=x;exact aD e
 |dT d=>obtain⟨_,_,_,_,o,_,_,e,_⟩:=x;exact aD e
 |set S n=>obtain⟨o,_,_,_,e,_⟩:=x;exact aD e
 |ins C j fs=>obtain⟨_,_,_,e,_⟩:=x;exact aD e
 |own y=>obtain⟨_,e⟩:=x;exact aD e
 |xd fs=>obtain⟨_,⟨_,_,_,e,_⟩,_⟩:=x;exact aD e
 |rng lo hi=>obtain⟨_,_,_,e⟩:=x;exact aD e
 |frz i u=>obtain⟨e,_⟩:=x;exact aD e
 |tbl ps=>exact aD (show h.get? a=some _ from x)
 |met f y=>exact aD (show h.get? a=some _ from x)
 |ext φ=>obtain⟨_,⟨_,e⟩,_⟩:=x;exact aD e
theorem Paired.mapP{α β:Type}{F G:α->β->Prop}:∀{l₁:List α}{l₂:List β},bi F l₁ l₂->(∀a b,F a b->G a b)->bi G l₁ l₂
 |_,_,.nil,_=>.nil
 |_,_,.cons r t,f=>.cons (f _ _ r) (Paired.mapP t f)
theorem ObjOk.stay(x:ObjOk P w H h a o)(k:∀b u,(b=a\/H b=some (.own a))->h.get? b=some u->h'.get? b=some u)
  (ho:∀b,H b=some (.own a)->H' b=some (.own a)) (ht:∀b xs,H b=some (.tup xs)->H' b=some (.tup xs)):ObjOk P w H' h' a o:=by
 induction o with
 |lst xs=>obtain⟨z,its,n,r,e⟩:=x;exact⟨z,its,n,r,k _ _ (.inl rfl) e⟩
 |tup xs =>
  obtain⟨z,its,r,⟨i,e,c⟩,nd⟩:=x;exact⟨z,its,r,⟨i,k _ _ (.inl rfl) e,c⟩,λo q=>by rw[k _ _ (.inl rfl) e] at q;cases q;exact nd _ e⟩
 |dK J=>obtain⟨z,y,L,r,i,es,j,e,c⟩:=x;exact⟨z,y,L,r,i,es,j,k _ _ (.inl rfl) e,c⟩
 |dT J =>
  obtain⟨z,y,xs,r,i,es,j,e,c⟩:=x;exact⟨z,y,xs,Paired.mapP r λp q z=>⟨z.1,ht _ _ z.2.1,z.2.2⟩,i,es,j,k _ _ (.inl rfl) e,c⟩
 |set S n=>obtain⟨i,es,j,t,e,c⟩:=x;exact⟨i,es,j,t,k _ _ (.inl rfl) e,c⟩
 |ins C U fs =>
  obtain⟨d,z,ne,e,D,⟨B,es,j,O,c⟩,r⟩:=x;exact⟨ho _ d,z,ne,k _ _ (.inl rfl) e,D,⟨B,es,j,k _ _ (.inr d) O,c⟩,r⟩
 |own y=>obtain⟨i,e⟩:=x;exact⟨i,k _ _ (.inl rfl) e⟩
 |xd fs=>obtain⟨D,⟨B,es,j,e,c⟩,r⟩:=x;exact⟨D,⟨B,es,j,k _ _ (.inl rfl) e,c⟩,r⟩
 |rng lo hi=>obtain⟨t,u,v,e⟩:=x;exact⟨t,u,v,k _ _ (.inl rfl) e⟩
 |frz i u N=>obtain⟨e,q⟩:=x;exact⟨k _ _ (.inl rfl) e,N q⟩
 |tbl ps =>
  have e:h.get? a=some {cls:=.none,data:=.fields ps}:=x;show h'.get? a=some {cls:=.none,data:=.fields ps};exact k a _ (.inl rfl) e
 |met f y =>
  have e:h.get? a=some (ij (.ref f) (.ref y)):=x;show h'.get? a=some (ij (.ref f) (.ref y));exact k a _ (.inl rfl) e
 |ext φ=>obtain⟨p,⟨o,e⟩,st⟩:=x;exact⟨st _ _ p λo q=>k _ _ (.inl rfl) q,⟨o,k _ _ (.inl rfl) e⟩,st⟩
theorem bJr{g:bj}{arr:Array ad}{n:Nat}:∀o,(g.push {cls:=.type "tuple",data:=.seq arr n}).get? g.objs.size=some o->o.dict=none:=λo e=>by
 rw[az _ rfl] at e;cases e;rfl
theorem HOk.lt(x:HOk P w H h)(e:H a=some o):a<h.objs.size:=(x a o e).lt
theorem HOk.fresh(x:HOk P w H h)(e:h.objs.size<=a):H a=none:=by
 cases q:H a with
 |none=>rfl
 |some u=>exact absurd (Nat.lt_of_lt_of_le (x.lt q) e) (Nat.lt_irrefl _)
theorem HOk.kept(x:HOk P w H h)(k:∀b u,h.get? b=some u->h'.get? b=some u):HOk P w H h':=λa o e =>
 (x a o e).stay (λb u _ q=>k b u q) (λ_ q=>q) λ_ _ q=>q
theorem HOk.laid(x:HOk P w H h)(k:∀b u,h.get? b=some u->h'.get? b=some u)(hp:h.objs.size<=a)(new:ObjOk P w (upd H a o) h' a o):HOk P w (upd H a o) h':=λb u e=>by
 have d:=x.fresh hp
 by_cases i:b=a
 ·subst i;rw[aQ7] at e;cases e;exact new
 ·rw[upd_ne i] at e;exact(x b u e).stay (λc v _ q=>k c v q) (λc q=>by rw[upd_ne (aZh q d)];exact q) λc xs q=>by rw[upd_ne (aZh q d)];exact q
end
def Rd(H:Hp)(a:Addr)(u:HO):Prop:=H a=some u\/∃o,H a=some (.frz o u)
theorem Rd.ok{P:aF}{w:aR}{H:Hp}{h:bj}{a:Addr}{u:HO}(r:Rd H a u)(x:HOk P w H h):ObjOk P w H h a u:=by
 rcases r with r|⟨o,r⟩
 ·exact x a u r
 ·obtain⟨_,q⟩:=x a _ r;exact q
def Mut:Option HO->Prop
 |some (.lst _)=>True
 |some (.dK _)=>True
 |some (.dT _)=>True
 |some (.set _ _)=>True
 |some (.ins _ _ _)=>True
 |some (.ext _)=>True
 |_=>False
section
variable{P:aF}{w:aR}{H:Hp}{h h':bj}{x e:Addr}{o':HO}
theorem HOk.write(ok:HOk P w H h)(mu:Mut (H x))(he:e=x\/H e=some (.own x))(k:∀b u,b≠e->h.get? b=some u->h'.get? b=some u)(heo:∃u,h'.get? e=some u)
  (new:ObjOk P w (upd H x o') h' x o'):HOk P w (upd H x o') h':=λb u q=>by
 have i:∀c y,H c=some (.own y)->c≠x:=λc y r z=>by subst z;rw[r] at mu;exact mu
 have ntup:∀c xs,H c=some (.tup xs)->c≠x:=λc xs r z=>by subst z;rw[r] at mu;exact mu
 by_cases B:b=x
 ·subst B;rw[aQ7] at q;cases q;exact new
 ·rw[upd_ne B] at q
  by_cases d:b=e
  ·have q':H b=some (.own x):=by
    rcases he with z|z
    ·exact absurd (d.trans z) B
    ·rw[d];exact z
   rw[q] at q';cases q';obtain⟨v,D⟩:=heo;exact⟨v,by rw[d];exact D⟩
  ·refine(ok b u q).stay (λc v j r=>k c v ?_ r) (λc r=>by rw[upd_ne (i c b r)];exact r) λc xs r=>by rw[upd_ne (ntup c xs r)];exact r
   rcases j with rfl|j
   ·exact d
   ·rintro rfl;rcases he with z|z
    ·exact i c b j z
    ·rw[j] at z;cases z;exact B rfl
end
structure Un(fs ex:List Addr)(H H':Hp)(h h':bj):Prop where
 keep:∀b o,h.get? b=some o->H b=none->b∉fs->b∉ex->h'.get? b=some o
 slot:∀b o,h.get? b=some o->H b=none->b∈fs->b∉ex->∃sl,h'.get? b=some {o with slots:=sl}
 free:∀b o,h.get? b=some o->H b=none->b∉ex->H' b=none
 there:∀b o,h.get? b=some o->b∉ex->∃o',h'.get? b=some o'
 tups:∀b xs,H b=some (.tup xs)->H' b=some (.tup xs)
 frzs:∀b o u,H b=some (.frz o u)->H' b=some (.frz o u)
 tbls:∀b ps,H b=some (.tbl ps)->∃more,H' b=some (.tbl (ps++more))
section
variable{fs fs' ex ex':List Addr}{H H1 H2:Hp}{h h1 h2 h':bj}{a x e:Addr}{o:HO}
theorem Un.any(u:Un fs ex H H1 h h1){b:Addr}{ob:Obj}(q:h.get? b=some ob)(n:H b=none)(hx:b∉ex):∃sl,h1.get? b=some {ob with slots:=sl}:=by
 by_cases d:b∈fs
 ·exact u.slot b ob q n d hx
 ·exact⟨ob.slots,u.keep b ob q n d hx⟩
theorem Un.kept(k:∀b u,h.get? b=some u->h'.get? b=some u):Un fs ex H H h h' :=
 ⟨λb d q _ _ _=>k b d q,λb d q _ _ _=>⟨d.slots,k b d q⟩,λ_ _ _ n _=>n,λb d q _=>⟨d,k b d q⟩,λ_ _ q=>q,λ_ _ _ q=>q,λ_ ps q=>⟨#[],by rw[q];simp⟩⟩
theorem Un.refl:Un fs ex H H h h:=Un.kept λ_ _ q=>q
theorem Un.laid(k:∀b u,h.get? b=some u->h'.get? b=some u)(hp:h.objs.size<=a)(hn:H a=none):Un fs ex H (upd H a o) h h' where
 keep:=λb u q _ _ _=>k b u q
 slot:=λb u q _ _ _=>⟨u.slots,k b u q⟩
 free:=λb u q n _=>by rw[upd_ne (Nat.ne_of_lt (Nat.lt_of_lt_of_le (aD q) hp))];exact n
 there:=λb u q _=>⟨u,k b u q⟩
 tups:=λb xs q=>by rw[upd_ne (aZh q hn)];exact q
 frzs:=λb u xs q=>by rw[upd_ne (aZh q hn)];exact q
 tbls:=λb ps q=>⟨#[],by rw[upd_ne (aZh q hn),q];simp⟩
theorem Un.write(mu:Mut (H x))(he:e=x\/H e=some (.own x))(k:∀b u,b≠e->h.get? b=some u->h'.get? b=some u)(heo:∃u,h'.get? e=some u):Un fs ex H (upd H x o) h h':=by
 have i:∀b,H b=none->b≠x:=λb n z=>by subst z;rw[n] at mu;exact mu
 have j:∀b,H b=none->b≠e:=λb n z=>by
  subst z;rcases he with r|r
  ·exact i b n r
  ·rw[n] at r;cases r
 have hm:∀b u,H b=some u->¬ Mut (some u)->b≠x:=λb u q nm z=>by subst z;rw[q] at mu;exact nm mu
 refine⟨λb u q n _ _=>k b u (j b n) q,λb u q n _ _=>⟨u.slots,k b u (j b n) q⟩,λb u q n _=>by rw[upd_ne (i b n)];exact n,λb u q _=>?_,
  λb xs q=>by rw[upd_ne (hm b _ q λz=>z)];exact q,λb u xs q=>by rw[upd_ne (hm b _ q λz=>z)];exact q,λb ps q=>⟨#[],by rw[upd_ne (hm b _ q λz=>z),q];simp⟩⟩
 by_cases d:b=e
 ·subst d;exact heo
 ·exact⟨u,k b u d q⟩
end
def trk(h:bj)(H:Hp):List Addr:=(a6 h.objs.size).filter λa=>(H a).isSome
def hidT(h:bj)(H:Hp):bj:=PySem.W.hideAll h (trk h H)
theorem cZi(h:bj)(H:Hp):(hidT h H).objs.size=h.objs.size:=PySem.W.hideAll_size _ _
theorem cJz{h:bj}{H:Hp}{b:Addr}{o:Obj}(e:h.get? b=some o)(n:H b=none):(hidT h H).get? b=some o :=
 PySem.W.hideAll_get _ e λhm=>by
  have q:(H b).isSome=true:=(bL.mp hm).2;rw[n] at q;simp at q
theorem dXd{h:bj}{H:Hp}{b:Addr}{o:Obj}(e:(hidT h H).get? b=some o):h.get? b=some o/\H b=none:=by
 have d:h.get? b=some o:=PySem.W.of_hideAll (trk h H) e;refine⟨d,?_⟩;cases q:H b with
 |none=>rfl
 |some x =>
  have hm:b∈trk h H:=bL.mpr ⟨aX.mpr (aD d),by simp[q]⟩
  have z:(hidT h H).get? b=none:=PySem.W.hideAll_none (trk h H) hm;rw[z] at e;cases e
structure Mod(K:av)(mg:Str->Option ad)(base:bj):Prop where
 kin:K.In base
 glob:base.Ns aZ mg
 blt:∃mb,base.Ns gT mb/\∀x:Str,x ≠ "__name__"->mb x=cb x
 nolimit:base.NoLimit
structure Cx where
 prog:aF
 w:aR
 K:av
 mg:Str->Option ad
 base:bj
 A:a8
 N:List Str
 s₀:ah
 H₀:Hp
 env:Env
 outer:List Env
 stack:List Env
 ex:List Addr
 fn:Str->Bool
 calm:Bool
 pn:List (Addr×Obj)
 xe:ad->ah->Prop
def frs(l:List Env):List Addr:=l.filterMap (·.frame)
abbrev Cx.fs(X:Cx):List Addr:=frs X.outer
def Vis(sc:Scope)(x:Str):Prop:=sc.names.lookup x=some .local\/sc.names.lookup x=some .cell\/sc.names.lookup x=some .free
def Loc(sc:Scope)(x:Str):Prop:=sc.names.lookup x=some .local\/sc.names.lookup x=some .cell
def Look(env:Env)(h:bj)(m:Str->Option ad)(x:Str)(u:ad):Prop :=
 (env.kindOf x=some .local/\m x=some u)\/((env.kindOf x=some .cell\/env.kindOf x=some .free)/\∃c,env.cells.lookup x=some c/\h.IsCell c (some u))
structure Cx.Ok(X:Cx):Prop where
 mod:Mod X.K X.mg X.base
 kind:X.env.scope.kind=.function
 glob:X.env.globals=aZ
 blt:X.env.builtins=gT
 above:X.s₀.heap.objs.size<=X.env.locals
 inj:∀x y c,X.env.cells.lookup x=some c->X.env.cells.lookup y=some c->x=y
 has:∀x,(X.env.kindOf x=some .cell\/X.env.kindOf x=some .free)->∃c,X.env.cells.lookup x=some c
 cab:∀x c,X.fn x=true->X.env.cells.lookup x=some c->X.s₀.heap.objs.size<=c
 hd:X.calm=true->X.A.handled=none
 frames:X.A.frames=some X.stack
 gd:X.A.guards=some []
 stk:X.stack=X.outer\/(X.stack=X.env::X.outer/\X.env.frame=some X.env.locals)
 exf:∀b∈X.ex,b≠X.env.locals/\∀x c,X.env.cells.lookup x=some c->c≠b
 bs:∀b o,X.base.get? b=some o->X.s₀.heap.get? b=some o/\X.H₀ b=none
 bsz:X.base.objs.size<=X.s₀.heap.objs.size
 noex:∀b o,X.base.get? b=some o->b∉X.ex
 exfs:∀b∈X.ex,b∉X.fs
 funs:X.s₀.heap.FunFrames X.base X.outer
 frf:∀b∈X.fs,X.H₀ b=none
structure Inv(X:Cx)(pins:List (Addr×Obj))(σ:List (Option V))(H:Hp)(s:ah):Prop where
 ok:X.Ok
 os:s.os=X.s₀.os
 bare:ik s.gens
 base:Un X.fs X.ex X.H₀ H X.s₀.heap s.heap
 loc:∃m,s.heap.Ns X.env.locals m/\∀(i:Nat) (x:Str) (v:V),X.N[i]?=some x->σ[i]?=some (some v)->Vis X.env.scope x->∃u,RelV v u/\Look X.env s.heap m x u
 cell:∀x c,X.env.cells.lookup x=some c->∃v,s.heap.IsCell c v
 free:H X.env.locals=none
 freeC:∀x c,X.env.cells.lookup x=some c->H c=none
 pin:∀p∈X.pn++pins,s.heap.get? p.1=some p.2/\H p.1=none/\p.1≠X.env.locals/\p.1∉X.fs/\∀v,p.2.data≠.cell v
 hok:HOk X.prog X.w H s.heap
 len:σ.length=X.N.length
section
variable{X:Cx}{pins:List (Addr×Obj)}{σ:List (Option V)}{H H':Hp}{s:ah}{h':bj}
theorem Cx.Ok.nofr(ok:X.Ok){b:Addr}{o:Obj}(e:X.base.get? b=some o):b∉X.fs:=λd=>by
 have:=(ok.funs.mem d).1
 rw[e] at this;cases this
theorem Inv.bs(I:Inv X pins σ H s):∀b o,X.base.get? b=some o->s.heap.get? b=some o/\H b=none:=λb o e =>
 ⟨I.base.keep b o (I.ok.bs b o e).1 (I.ok.bs b o e).2 (I.ok.nofr e) (I.ok.noex b o e),I.base.free b o (I.ok.bs b o e).1 (I.ok.bs b o e).2 (I.ok.noex b o e)⟩
theorem Inv.bk(I:Inv X pins σ H s):∀b o,X.base.get? b=some o->s.heap.get? b=some o:=λb o e=>(I.bs b o e).1
theorem Inv.mod(I:Inv X pins σ H s):Mod X.K X.mg X.base:=I.ok.mod
theorem Inv.kIn(I:Inv X pins σ H s):X.K.In s.heap:=I.ok.mod.kin.keeps I.bk
theorem Inv.nolimit(I:Inv X pins σ H s):s.heap.NoLimit:=I.ok.mod.nolimit.keeps I.bk
theorem Inv.lt(I:Inv X pins σ H s):X.env.locals<s.heap.objs.size:=let ⟨_,d,_⟩:=I.loc;d.lt
theorem Inv.sz(I:Inv X pins σ H s):X.s₀.heap.objs.size<=s.heap.objs.size:=Nat.le_trans I.ok.above (Nat.le_of_lt I.lt)
theorem Inv.nofs(I:Inv X pins σ H s){a:Addr}(h:s.heap.objs.size<=a):a∉X.fs:=λi=>by
 obtain⟨_,o,d,_⟩:=I.ok.funs.mem i;exact absurd (Nat.lt_of_lt_of_le (aD d) (Nat.le_trans I.sz h)) (Nat.lt_irrefl _)
theorem Inv.cne(I:Inv X pins σ H s):∀x c,X.env.cells.lookup x=some c->c≠X.env.locals:=λx c e z=>by
 obtain⟨v,o,ho,hd⟩:=I.cell x c e;obtain⟨m,⟨o',es,j,d,i,_⟩,_⟩:=I.loc;rw[z,d] at ho;cases ho;rw[i] at hd;cases hd
theorem Inv.funs(I:Inv X pins σ H s):s.heap.FunFrames X.base X.outer:=by
 have all:∀(l:List Env),(∀b∈frs l,b∈X.fs)->X.s₀.heap.FunFrames X.base l->s.heap.FunFrames X.base l:=by
  intro l
  induction l with
  |nil=>intro _ _;trivial
  |cons env r v =>
   intro j N;obtain⟨O,⟨L,o,hf,J,D,hd⟩,B⟩:=N;have i:L∈X.fs:=j L (by unfold frs;rw[cf,hf];exact aq)
   obtain⟨sl,e⟩:=I.base.slot L o D (I.ok.frf L i) i λz=>I.ok.exfs L z i;exact⟨O,⟨L,_,hf,J,e,hd⟩,v (λb d=>j b (by unfold frs;rw[cf,hf];exact au _ d)) B⟩
 exact all X.outer (λ_ d=>d) I.ok.funs
theorem Inv.stack(I:Inv X pins σ H s):s.heap.FunFrames X.base X.stack:=by
 rcases I.ok.stk with e|⟨e,hf⟩
 ·rw[e];exact I.funs
 ·rw[e];obtain⟨m,d,_⟩:=I.loc;refine .cons (by rw[I.ok.kind];decide) hf d ?_ I.funs
  exact bj.get?_none_of_le (Nat.le_trans I.ok.bsz I.ok.above)
theorem Inv.stkSub(I:Inv X pins σ H s):∀b∈frs X.stack,b∈X.env.locals::X.fs:=λb d=>by
 rcases I.ok.stk with e|⟨e,hf⟩
 ·rw[e] at d;exact au _ d
 ·rw[e] at d;unfold frs at d;rw[cf,hf] at d;exact d
theorem Inv.stkFree(I:Inv X pins σ H s):∀b∈frs X.stack,H b=none:=λb d=>by
 rcases aK.mp (I.stkSub b d) with e|d
 ·rw[e];exact I.free
 ·obtain⟨_,o,i,_⟩:=I.ok.funs.mem d;exact I.base.free b o i (I.ok.frf b d) λz=>I.ok.exfs b z d
theorem Inv.step{g':Array GenState}{t':Nat}{d':Drawn}{ch:List Addr}(I:Inv X pins σ H s)
  (hch:∀b∈ch,(b∈X.ex\/X.s₀.heap.objs.size<=b)/\b≠X.env.locals/\(∀x c,X.env.cells.lookup x=some c->c≠b)/\∀p∈X.pn++pins,p.1≠b)
  (keep:∀b o,b≠X.env.locals->b∉X.fs->b∉ch->s.heap.get? b=some o->H b=none->h'.get? b=some o)
  (slot:∀b o,b≠X.env.locals->b∈X.fs->b∉ch->s.heap.get? b=some o->H b=none->∃sl,h'.get? b=some {o with slots:=sl}) (free:∀b o,b∉ch->s.heap.get? b=some o->H b=none->H' b=none)
  (there:∀b o,b∉ch->s.heap.get? b=some o->∃o',h'.get? b=some o')
  (tups:∀b xs,H b=some (.tup xs)->H' b=some (.tup xs)) (frzs:∀b o u,H b=some (.frz o u)->H' b=some (.frz o u)) (tbls:∀b ps,H b=some (.tbl ps)->∃more,H' b=some (.tbl (ps++more)))
  (ns:∀m,s.heap.Ns X.env.locals m->h'.Ns X.env.locals m) (hok:HOk X.prog X.w H' h') (hg:ik g') :
  Inv X pins σ H' {s with heap:=h',gens:=g',drawn:=d',toks:=t'}:=by
 have O:∀b o,X.s₀.heap.get? b=some o->b≠X.env.locals:=λb o e=>Nat.ne_of_lt (Nat.lt_of_lt_of_le (aD e) I.ok.above);have D:∀b o,X.s₀.heap.get? b=some o->b∉X.ex->b∉ch:=λb o e j L=>by
  rcases(hch b L).1 with z|z
  ·exact j z
  ·exact absurd (Nat.lt_of_lt_of_le (aD e) z) (Nat.lt_irrefl _)
 have cellK:∀x c,X.env.cells.lookup x=some c->∀v,s.heap.IsCell c v->h'.IsCell c v:=λx c e v ⟨o,N,hd⟩=>by
  have B:c∉ch:=λz=>(hch c z).2.2.1 x c e rfl
  by_cases hc:c∈X.fs
  ·obtain⟨sl,q⟩:=slot c o (I.cne x c e) hc B N (I.freeC x c e);exact⟨_,q,hd⟩
  ·exact⟨o,keep c o (I.cne x c e) hc B N (I.freeC x c e),hd⟩
 refine⟨I.ok,I.os,hg,⟨λb o e n L j=>?_,λb o e n L j=>?_,λb o e n j=>?_,λb o e j=>?_,λb xs e=>tups b xs (I.base.tups b xs e),λb o xs e=>frzs b o xs (I.base.frzs b o xs e),λb ps e=>?_⟩,?_,λx c e=>?_,?_,λx c e=>?_,λp hp=>?_,hok,I.len⟩
 ·exact keep b o (O b o e) L (D b o e j) (I.base.keep b o e n L j) (I.base.free b o e n j)
 ·obtain⟨sl,J⟩:=I.base.slot b o e n L j;obtain⟨Y,U⟩:=slot b _ (O b o e) L (D b o e j) J (I.base.free b o e n j);exact⟨Y,U⟩
 ·obtain⟨o',J⟩:=I.base.there b o e j;exact free b o' (D b o e j) J (I.base.free b o e n j)
 ·obtain⟨o',J⟩:=I.base.there b o e j;exact there b o' (D b o e j) J
 ·obtain⟨m1,J⟩:=I.base.tbls b ps e;obtain⟨m2,U⟩:=tbls b _ J;exact⟨m1++m2,by rw[U,Array.append_assoc]⟩
 ·obtain⟨m,hn,hl⟩:=I.loc;refine⟨m,ns m hn,λi x v J U e3=>?_⟩;obtain⟨u,r,l⟩:=hl i x v J U e3;refine⟨u,r,?_⟩;rcases l with l|⟨k,c,e,z⟩
  ·exact .inl l
  ·exact .inr ⟨k,c,e,cellK x c e _ z⟩
 ·obtain⟨v,z⟩:=I.cell x c e;exact⟨v,cellK x c e v z⟩
 ·obtain⟨m,⟨o,_,_,N,_⟩,_⟩:=I.loc;exact free _ o (λz=>(hch _ z).2.1 rfl) N I.free
 ·obtain⟨v,o,N,hd⟩:=I.cell x c e;exact free c o (λz=>(hch c z).2.2.1 x c e rfl) N (I.freeC x c e)
 ·obtain⟨e,n,ne,Z,d⟩:=I.pin p hp;have B:p.1∉ch:=λz=>(hch p.1 z).2.2.2 p hp rfl;exact⟨keep p.1 p.2 ne Z B e n,free p.1 p.2 B e n,ne,Z,d⟩
theorem Inv.un{t':Nat}(I:Inv X pins σ H s)(u:Un X.fs [] H H' s.heap h')(hok:HOk X.prog X.w H' h'):Inv X pins σ H' {s with heap:=h',toks:=t'}:=by
 obtain⟨m,⟨o,es,L,v,r⟩,_⟩:=id I.loc;obtain⟨sl,D⟩:=u.any v I.free (by simp)
 exact I.step (g':=s.gens) (d':=s.drawn) (ch:=[]) (λ_ z=>nomatch z) (λb o _ d _ e n=>u.keep b o e n d (by simp)) (λb o _ d _ e n=>u.slot b o e n d (by simp)) (λb o _ e n=>u.free b o e n (by simp)) (λb o _ e=>u.there b o e (by simp)) u.tups u.frzs u.tbls (λJ hm=>by
  obtain⟨o',i,j,ho',B⟩:=hm;rw[v] at ho';cases ho';exact⟨_,i,j,D,B⟩) hok I.bare
theorem Inv.call{g':Array GenState}{t':Nat}{d':Drawn}{ch:List Addr}(I:Inv X pins σ H s)(u:Un (frs X.stack) ch H H' s.heap h')(hok:HOk X.prog X.w H' h')(hg:ik g')
  (hch:∀b∈ch,(b∈X.ex\/X.s₀.heap.objs.size<=b)/\b≠X.env.locals/\(∀x c,X.env.cells.lookup x=some c->c≠b)/\∀p∈X.pn++pins,p.1≠b) :
  Inv X pins σ H' {s with heap:=h',gens:=g',drawn:=d',toks:=t'}:=by
 obtain⟨m,⟨o,es,N,B,r⟩,_⟩:=id I.loc;obtain⟨sl,i⟩:=u.any B I.free λz=>(hch _ z).2.1 rfl;exact I.step (ch:=ch) hch (λb o i J d e n=>u.keep b o e n (λz=>(aK.mp (I.stkSub b z)).elim i J) d) (λb o _ _ d e n=>u.any e n d) (λb o d e n=>u.free b o e n d) (λb o d e=>u.there b o e d) u.tups u.frzs u.tbls (λL hm=>by
  obtain⟨o',j,v,ho',D⟩:=hm;rw[B] at ho';cases ho';exact⟨_,j,v,i,D⟩) hok hg
theorem Inv.turned{t':Nat}{it:Addr}(I:Inv X pins σ H s)(k:∀b o,b≠it->s.heap.get? b=some o->h'.get? b=some o)(hn:H it=none)(hL:it≠X.env.locals)
  (h1:it∈X.ex\/X.s₀.heap.objs.size<=it) (h2:∀x c,X.env.cells.lookup x=some c->c≠it) (h3:∀p∈X.pn++pins,p.1≠it):Inv X pins σ H {s with heap:=h',toks:=t'}:=by
 have i:∀b u,H b=some u->b≠it:=λb u e z=>by rw[z,hn] at e;cases e
 refine I.step (g':=s.gens) (d':=s.drawn) (ch:=[it]) (λb B=>?_) (λb o _ _ d e _=>k b o (λz=>d (by simp[z])) e) (λb o _ _ d e _=>⟨o.slots,k b o (λz=>d (by simp[z])) e⟩) (λ_ _ _ _ n=>n)
  (λb o d e=>⟨o,k b o (λz=>d (by simp[z])) e⟩) (λ_ _ e=>e) (λ_ _ _ e=>e) (λb ps e=>⟨#[],by rw[e];simp⟩) (λm hm=>?_) (λb u e=>?_) I.bare
 ·have e:b=it:=by simpa using B
  subst e;exact⟨h1,hL,h2,h3⟩
 ·obtain⟨o,es,D,j,r⟩:=hm;exact⟨o,es,D,k _ o (cY hL) j,r⟩
 ·refine(I.hok b u e).stay (λc v d q=>k c v ?_ q) (λ_ q=>q) λ_ _ q=>q;rcases d with z|z
  ·rw[z];exact i b u e
  ·exact i c _ z
theorem Inv.tok(I:Inv X pins σ H s)(t:Nat):Inv X pins σ H {s with toks:=t}:=I.un (h':=s.heap) (t':=t) Un.refl I.hok
theorem Inv.kept{t':Nat}(I:Inv X pins σ H s)(k:∀b u,s.heap.get? b=some u->h'.get? b=some u):Inv X pins σ H {s with heap:=h',toks:=t'}:=I.un (Un.kept k) (I.hok.kept k)
theorem Inv.laid{a:Addr}{o:HO}{t':Nat}(I:Inv X pins σ H s)(k:∀b u,s.heap.get? b=some u->h'.get? b=some u)(hp:s.heap.objs.size<=a)(new:ObjOk X.prog X.w (upd H a o) h' a o) :
  Inv X pins σ (upd H a o) {s with heap:=h',toks:=t'}:=I.un (Un.laid k hp (I.hok.fresh hp)) (I.hok.laid k hp new)
theorem Inv.write{x e:Addr}{o:HO}{t':Nat}(I:Inv X pins σ H s)(mu:Mut (H x))(he:e=x\/H e=some (.own x))(k:∀b u,b≠e->s.heap.get? b=some u->h'.get? b=some u)(heo:∃u,h'.get? e=some u)
  (new:ObjOk X.prog X.w (upd H x o) h' x o):Inv X pins σ (upd H x o) {s with heap:=h',toks:=t'}:=I.un (Un.write mu he k heo) (I.hok.write mu he k heo new)
theorem Inv.weak{σ':List (Option V)}(I:Inv X pins σ H s)(hl:σ'.length=σ.length)(w:∀(i:Nat) v,σ'[i]?=some (some v)->σ[i]?=some (some v)):Inv X pins σ' H s :=
 ⟨I.ok,I.os,I.bare,I.base,let ⟨m,j,d⟩:=I.loc;⟨m,j,λi x v D B z=>d i x v D (w i v B) z⟩,I.cell,I.free,I.freeC,I.pin,I.hok,hl.trans I.len⟩
theorem Inv.pins_of{pins':List (Addr×Obj)}(I:Inv X pins σ H s)(h:∀p∈pins',s.heap.get? p.1=some p.2/\H p.1=none/\p.1≠X.env.locals/\p.1∉X.fs/\∀v,p.2.data≠.cell v):Inv X pins' σ H s :=
 ⟨I.ok,I.os,I.bare,I.base,I.loc,I.cell,I.free,I.freeC,λp d=>(aL.mp d).elim (λz=>I.pin p (cC _ z)) (h p),I.hok,I.len⟩
theorem nodup_ix{N:List Str}(hN:N.Nodup){i j:Nat}{x:Str}(a:N[i]?=some x)(b:N[j]?=some x):i=j:=by
 obtain⟨h1,v⟩:=aA.mp a;obtain⟨h2,d⟩:=aA.mp b;exact(iC hN).mp (v.trans d.symm)
theorem bZr{M:Model}{A:a8}{E:ad->ah->Prop}{i:Nat}{x:Str}{v:V}{u:ad}{Q:Unit->ah->Prop}(I:Inv X pins σ H s)(hN:X.N.Nodup)(hi:X.N[i]?=some x)(hx:Loc X.env.scope x)(r:RelV v u)
  (h:∀s',Inv X pins (σ.set i (some v)) H s'->(∃a,dP a s.heap s'.heap/\(a=X.env.locals\/X.env.cells.lookup x=some a))->Q () s') (hf:X.fn x=true\/X.env.scope.names.lookup x=some .local:=by first|exact .inl rfl|exact .inr rfl|assumption):aH M A (storeName X.env x u) Q E s:=by
 obtain⟨m,hn,hl⟩:=id I.loc;have Z:(X.env.scope.kind ==.class||(X.env.scope.kind ==.module&&X.env.locals !=X.env.globals))=false:=by rw[I.ok.kind];rfl
 have hiσ:i<σ.length:=by rw[I.len];exact(aA.mp hi).1
 have cne:=I.cne;have tracked:∀{a:Addr}{h':bj},(∃o,s.heap.get? a=some o/\H a=none)->dP a s.heap h'->HOk X.prog X.w H h':=λ{a h'} ha B b ob e=>by
  obtain⟨_,_,D⟩:=ha;refine(I.hok b ob e).stay (λc w' hc q=>(B.2 c ?_).trans q) (λ_ q=>q) λ_ _ q=>q;rintro rfl;rcases hc with rfl|hc
  ·rw[D] at e;cases e
  ·rw[D] at hc;cases hc
 rcases hx with hk|hk
 ·refine wpAny_storeName_local hk hn (λh' hn' B=>?_) Z;obtain⟨oL,_,_,hoL,_⟩:=id hn;refine h _ ⟨I.ok,I.os,I.bare,⟨λb o e n O hx=>?_,λb o e n O hx=>?_,I.base.free,λb o e hx=>?_,I.base.tups,I.base.frzs,I.base.tbls⟩,⟨_,hn',λj y v' e1 e2 e3=>?_⟩,λy c e=>?_,I.free,I.freeC,λp hp=>?_,tracked ⟨oL,hoL,I.free⟩ B,by simpa using I.len⟩ ⟨_,B,.inl rfl⟩
  ·exact(B.2 b (Nat.ne_of_lt (Nat.lt_of_lt_of_le (aD e) I.ok.above))).trans (I.base.keep b o e n O hx)
  ·obtain⟨sl,e1⟩:=I.base.slot b o e n O hx;exact⟨sl,(B.2 b (Nat.ne_of_lt (Nat.lt_of_lt_of_le (aD e) I.ok.above))).trans e1⟩
  ·obtain⟨o',e1⟩:=I.base.there b o e hx;exact⟨o',(B.2 b (Nat.ne_of_lt (Nat.lt_of_lt_of_le (aD e) I.ok.above))).trans e1⟩
  ·by_cases J:j=i
   ·subst J;rw[hi] at e1;cases e1;rw[List.getElem?_set_self hiσ] at e2;cases e2;exact⟨u,r,.inl ⟨hk,by simp⟩⟩
   ·rw[fh (cY J)] at e2;obtain⟨u',r',q⟩:=hl j y v' e1 e2 e3;refine⟨u',r',?_⟩;rcases q with⟨k,e⟩|⟨k,c,e,z⟩
    ·refine .inl ⟨k,?_⟩
     have:y≠x:=λe=>J (nodup_ix hN e1 (e▸hi))
     simp[this,e]
    ·exact .inr ⟨k,c,e,z.sameBut B (cne y c e)⟩
  ·obtain⟨w',z⟩:=I.cell y c e;exact⟨w',z.sameBut B (cne y c e)⟩
  ·obtain⟨e,n,ne,nf,d⟩:=I.pin p hp;exact⟨(B.2 p.1 ne).trans e,n,ne,nf,d⟩
 ·have L:X.fn x=true:=by
   rcases hf with z|z
   ·exact z
   ·rw[z] at hk;cases hk
  obtain⟨c,hc⟩:=I.ok.has x (.inl hk);obtain⟨w',z⟩:=I.cell x c hc;refine wpAny_storeName_cell I.ok.kind hk hc z (λh' hc' B=>?_);obtain⟨oc,Y,U⟩:=id z;refine h {s with heap:=h'} ⟨I.ok,I.os,I.bare,⟨λb o e n O hx=>?_,λb o e n O hx=>?_,I.base.free,λb o e hx=>?_,I.base.tups,I.base.frzs,I.base.tbls⟩,⟨m,hn.sameBut B (cY (cne x c hc)),λj y v' e1 e2 e3=>?_⟩,λy c' e=>?_,I.free,I.freeC,λp hp=>?_,tracked ⟨oc,Y,I.freeC x c hc⟩ B,by simpa using I.len⟩ ⟨c,B,.inr hc⟩
  ·exact(B.2 b (Nat.ne_of_lt (Nat.lt_of_lt_of_le (aD e) (I.ok.cab x c L hc)))).trans (I.base.keep b o e n O hx)
  ·obtain⟨sl,e1⟩:=I.base.slot b o e n O hx;exact⟨sl,(B.2 b (Nat.ne_of_lt (Nat.lt_of_lt_of_le (aD e) (I.ok.cab x c L hc)))).trans e1⟩
  ·obtain⟨o',e1⟩:=I.base.there b o e hx;exact⟨o',(B.2 b (Nat.ne_of_lt (Nat.lt_of_lt_of_le (aD e) (I.ok.cab x c L hc)))).trans e1⟩
  ·by_cases J:j=i
   ·subst J;rw[hi] at e1;cases e1;rw[List.getElem?_set_self hiσ] at e2;cases e2;exact⟨u,r,.inr ⟨.inl hk,c,hc,hc'⟩⟩
   ·rw[fh (cY J)] at e2;obtain⟨u',r',q⟩:=hl j y v' e1 e2 e3;refine⟨u',r',?_⟩;rcases q with q|⟨k,c',e,z'⟩
    ·exact .inl q
    ·refine .inr ⟨k,c',e,z'.sameBut B ?_⟩;rintro rfl;exact J (nodup_ix hN e1 (I.ok.inj _ _ _ e hc▸hi))
  ·by_cases hcc:c'=c
   ·subst hcc;exact⟨_,hc'⟩
   ·obtain⟨w2,z2⟩:=I.cell y c' e;exact⟨w2,z2.sameBut B hcc⟩
  ·obtain⟨e,n,ne,nf,d⟩:=I.pin p hp;refine⟨(B.2 p.1 ?_).trans e,n,ne,nf,d⟩;intro q;rw[q,Y] at e;have q':oc=p.2:=aS e;exact d w' (by rw[<- q'];exact U)
theorem store_ok{M:Model}{A:a8}{E:ad->ah->Prop}{i:Nat}{x:Str}{v:V}{u:ad}{Q:Unit->ah->Prop}(I:Inv X pins σ H s)(hN:X.N.Nodup)(hi:X.N[i]?=some x)(hx:Loc X.env.scope x)(r:RelV v u)
  (h:∀s',Inv X pins (σ.set i (some v)) H s'->Q () s') (hf:X.fn x=true\/X.env.scope.names.lookup x=some .local:=by first|exact .inl rfl|exact .inr rfl|assumption):aH M A (storeName X.env x u) Q E s :=
 bZr I hN hi hx r (λs' d _=>h s' d) hf
theorem Inv.call'{s':ah}{ch:List Addr}(I:Inv X pins σ H s)(ho:s'.os=s.os)(u:Un (frs X.stack) ch H H' s.heap s'.heap)(hok:HOk X.prog X.w H' s'.heap)(hg:ik s'.gens)
  (hch:∀b∈ch,(b∈X.ex\/X.s₀.heap.objs.size<=b)/\b≠X.env.locals/\(∀x c,X.env.cells.lookup x=some c->c≠b)/\∀p∈X.pn++pins,p.1≠b):Inv X pins σ H' s':=by
 obtain⟨h',g',d',t',o'⟩:=s';have e:o'=s.os:=ho;subst e;exact I.call (g':=g') (t':=t') (d':=d') u hok hg hch
end
abbrev XK:=ad->Option Addr->Hp->Prop
abbrev St:=List (Option V)
abbrev VK:=V->Hp->Prop
abbrev TE:=St->Hp->VK->Prop
abbrev TT:=St->Hp->(Bool->Hp->Prop)->Prop
abbrev TA:=St->Hp->(List V->Hp->Prop)->Prop
structure Ends where
 nx:St->Hp->Prop
 rt:VK
 bk:St->Hp->Prop:=λ_ _=>False
 ct:St->Hp->Prop:=λ_ _=>False
abbrev TS:=Ends->St->Hp->Prop
def EP(X:Cx)(pins:List (Addr×Obj))(σ:St)(Q:VK)(u:ad)(s':ah):Prop:=∃v H',Inv X pins σ H' s'/\RelV v u/\Q v H'
def TP(X:Cx)(pins:List (Addr×Obj))(σ:St)(Q:Bool->Hp->Prop)(b:Bool)(s':ah):Prop:=∃H',Inv X pins σ H' s'/\Q b H'
def AP(X:Cx)(pins:List (Addr×Obj))(σ:St)(Q:List V->Hp->Prop)(us:List ad)(s':ah):Prop:=∃vs H',Inv X pins σ H' s'/\Vals vs us/\Q vs H'
def SP(X:Cx)(pins:List (Addr×Obj))(D:Ends)(f:Flow)(s':ah):Prop :=
 match f with
 |.next=>∃σ' H',Inv X pins σ' H' s'/\D.nx σ' H'
 |.brk=>∃σ' H',Inv X pins σ' H' s'/\D.bk σ' H'
 |.cont=>∃σ' H',Inv X pins σ' H' s'/\D.ct σ' H'
 |.ret u=>∃v σ' H',Inv X pins σ' H' s'/\RelV v u/\D.rt v H'
def PE(X:Cx)(e:Expr)(t:TE):Prop :=
 ∀(pins:List (Addr×Obj)) (s:ah) (σ:St) (H:Hp) (Q:VK),Inv X pins σ H s->t σ H Q->aH (aE X.prog X.w) X.A (eval e X.env) (EP X pins σ Q) X.xe s
def PT(X:Cx)(e:Expr)(t:TT):Prop :=
 ∀(pins:List (Addr×Obj)) (s:ah) (σ:St) (H:Hp) (Q:Bool->Hp->Prop),Inv X pins σ H s->t σ H Q->aH (aE X.prog X.w) X.A (isTrue e X.env (eval e X.env)) (TP X pins σ Q) X.xe s
def PW(X:Cx)(e:Expr)(t:TT):Prop :=
 ∀(whole:Sem ad) (pins:List (Addr×Obj)) (s:ah) (σ:St) (H:Hp) (Q:Bool->Hp->Prop),Inv X pins σ H s->t σ H Q->aH (aE X.prog X.w) X.A (isTrue e X.env whole) (TP X pins σ Q) X.xe s
theorem PW.pt{X:Cx}{e:Expr}{t:TT}(h:PW X e t):PT X e t:=h _
def PA(X:Cx)(es:List Expr)(t:TA):Prop :=
 ∀(pos:Pos) (pins:List (Addr×Obj)) (s:ah) (σ:St) (H:Hp) (Q:List V->Hp->Prop),Inv X pins σ H s->t σ H Q->aH (aE X.prog X.w) X.A (spliced (cD pos (aC es X.env))) (AP X pins σ Q) X.xe s
def PS(X:Cx)(st:Stmt)(t:TS):Prop :=
 ∀(pins:List (Addr×Obj)) (s:ah) (σ:St) (H:Hp) (D:Ends),Inv X pins σ H s->t D σ H->aH (aE X.prog X.w) X.A (exec st X.env) (SP X pins D) X.xe s
def PSs(X:Cx)(st:List Stmt)(t:TS):Prop :=
 ∀(pins:List (Addr×Obj)) (s:ah) (σ:St) (H:Hp) (D:Ends),Inv X pins σ H s->t D σ H->aH (aE X.prog X.w) X.A (execs st X.env) (SP X pins D) X.xe s
theorem thn{α:Type}{t:Sem α}{Q Q':α->ah->Prop}{M:Model}{A:a8}{E:ad->ah->Prop}{s:ah}(h:aH M A t Q E s)(hQ:∀a s,Q a s->Q' a s):aH M A t Q' E s:=cK h hQ λ_ _ x=>x
section
variable{X:Cx}
def tVar(i:Nat):TE:=fun σ H Q=>∃v,σ[i]?=some (some v)/\Q v H
def tC(v:V):TE:=λ_ H Q=>Q v H
theorem eZd{i:Nat}{x:Str}{pos:Pos}(hN:X.N[i]?=some x)(hv:Vis X.env.scope x)(hd:(x==("__debug__":Str))=false:=by decide)(hcd:(x==("__classdict__":Str))=false:=by decide):PE X (.Name x pos) (tVar i):=by
 intro pins s σ H Q I h;obtain⟨v,e,h⟩:=h;obtain⟨m,B,D⟩:=I.loc;obtain⟨u,r,l⟩:=D i x v hN e hv;have fin:EP X pins σ Q u s:=⟨v,H,I,r,h⟩;rcases l with⟨j,hm⟩|⟨j,c,z,d⟩
 ·exact wpAny_Name (wpAny_loadName_local I.ok.kind j B hm fin) hd
 ·rcases j with j|j
  ·exact wpAny_Name (wpAny_loadName_cell I.ok.kind j z d fin) hd
  ·exact wpAny_Name (wpAny_loadName_free I.ok.kind j z d fin hcd) hd
theorem eZe{i j pos}:PE X (.Constant (.int i) j pos) (tC (.int i)):=λ_ _ _ H _ I h=>wpAny_Constant_int ⟨.int i,H,I.tok _,⟨_,rfl⟩,h⟩
theorem fQg{b j pos}:PE X (.Constant (.bool b) j pos) (tC (.bl b)):=λ_ _ _ H _ I h=>Constant_bool ⟨.bl b,H,I,rfl,h⟩
theorem eZf{j pos}:PE X (.Constant .none j pos) (tC .non):=λ_ _ _ H _ I h=>Constant_none ⟨.non,H,I,rfl,h⟩
theorem eZg{x j pos}:PE X (.Constant (.str x) j pos) (tC (.str x)):=λ_ _ _ H _ I h=>Calls.Constant_str ⟨.str x,H,I.tok _,⟨_,rfl⟩,h⟩
def Gl(X:Cx)(x:Str):Prop:=X.env.kindOf x=some .globalImplicit
theorem ld_glob{E:ad->ah->Prop}{pins:List (Addr×Obj)}{s:ah}{σ:St}{H:Hp}{x:Str}{u:ad}{pos:Pos}{Q:ad->ah->Prop}(I:Inv X pins σ H s)(hg:Gl X x)(hm:X.mg x=some u)(h:Q u s)
  (hd:(x==("__debug__":Str))=false:=by decide):aH (aE X.prog X.w) X.A (eval (.Name x pos) X.env) Q E s :=
 gU I.ok.kind hg (Calls.loadGlobal_global (by rw[I.ok.glob];exact I.mod.glob.keeps I.bk) hm h) hd
theorem ld_blt{E:ad->ah->Prop}{pins:List (Addr×Obj)}{s:ah}{σ:St}{H:Hp}{x:Str}{u:ad}{pos:Pos}{Q:ad->ah->Prop}(I:Inv X pins σ H s)(hg:Gl X x)(hm:X.mg x=none)(hv:cb x=some u)(h:Q u s)
  (hn:x ≠ "__name__":=by decide) (hd:(x==("__debug__":Str))=false:=by decide):aH (aE X.prog X.w) X.A (eval (.Name x pos) X.env) Q E s:=by
 obtain⟨d,h1,h2⟩:=I.mod.blt;exact gU I.ok.kind hg (Calls.loadGlobal_builtin (by rw[I.ok.glob];exact I.mod.glob.keeps I.bk) hm (by rw[I.ok.blt];exact h1.keeps I.bk) ((h2 x hn).trans hv) h) hd
variable{a b:Expr}{ta tb:TE}{pos:Pos}
variable{tA tB':TT}{rest:List Expr}
def tAnd(t u:TT):TT:=fun σ H Q=>t σ H λc H1=>if c=true then u σ H1 Q else Q false H1
def tOr(t u:TT):TT:=fun σ H Q=>t σ H λc H1=>if c=true then Q true H1 else u σ H1 Q
def tNot(t:TT):TT:=fun σ H Q=>t σ H λc H1=>Q (!c) H1
theorem dXe(ha:PT X a tA):PW X (.BoolOp .And [a] pos) tA:=by
 intro d pins s σ H Q I h;refine isTrue_and (thn (ha pins s σ H Q I h) λc s1 e=>?_);cases c with
 |true=>exact isTrue_and_nil e
 |false=>exact e
theorem eZh(ha:PT X a tA):PW X (.BoolOp .Or [a] pos) tA:=by
 intro d pins s σ H Q I h;refine isTrue_or (thn (ha pins s σ H Q I h) λc s1 e=>?_);cases c with
 |false=>exact isTrue_or_nil e
 |true=>exact e
theorem eZi(ha:PT X a tA)(hb:PW X (.BoolOp .And (b::rest) pos) tB'):PW X (.BoolOp .And (a::b::rest) pos) (tAnd tA tB'):=by
 intro j pins s σ H Q I h;refine isTrue_and (thn (ha pins s σ H _ I h) λc s1 ⟨H1,i,d⟩=>?_);cases c with
 |true=>exact hb j pins s1 σ H1 Q i d
 |false=>exact⟨H1,i,d⟩
theorem fQh(ha:PT X a tA)(hb:PW X (.BoolOp .Or (b::rest) pos) tB'):PW X (.BoolOp .Or (a::b::rest) pos) (tOr tA tB'):=by
 intro j pins s σ H Q I h;refine isTrue_or (thn (ha pins s σ H _ I h) λc s1 ⟨H1,i,d⟩=>?_);cases c with
 |true=>exact⟨H1,i,d⟩
 |false=>exact hb j pins s1 σ H1 Q i d
theorem eZj(ha:PT X a tA):PT X (.UnaryOp .Not a pos) (tNot tA):=by
 intro pins s σ H Q I h;exact isTrue_not (ha pins s σ H (λc H1=>Q (!c) H1) I h)
def fQi(ta tb:TE):TE:=fun σ H Q=>ta σ H λx H1=>∃c,x=.bl c/\if c=true then tb σ H1 Q else Q (.bl false) H1
theorem eZk{op}{t:TE}(h:PE X a t):PE X (.BoolOp op [a] pos) t:=λpins s σ H Q I hw=>BoolOp_one (h pins s σ H Q I hw)
theorem eZl(ha:PE X a ta)(hb:PE X (.BoolOp .And (b::rest) pos) tb):PE X (.BoolOp .And (a::b::rest) pos) (fQi ta tb):=by
 intro pins s σ H Q I h;refine BoolOp_and (thn (ha pins s σ H _ I h) λv s1 ⟨x,H1,i,r1,d⟩=>?_);obtain⟨c,rfl,d⟩:=d;cases r1;refine dI ?_;cases c with
 |true=>exact hb pins s1 σ H1 Q i d
 |false=>exact⟨.bl false,H1,i,rfl,d⟩
end
def SqL(K:av)(H:Hp)(a:Addr)(xs:List V):Prop :=
 Rd H a (.lst xs) \/
  ∃(o:Obj) (its:Array ad) (n:Nat),K.lookup a=some o/\o.cls=.type "list"/\o.dict=none/\o.data=.seq its n/\its.size<=sizeLine/\Vals xs its.toList
def SqT(K:av)(H:Hp)(a:Addr)(xs:List V):Prop :=
 Rd H a (.tup xs) \/
  ∃(o:Obj) (its:Array ad) (n:Nat),K.lookup a=some o/\o.cls=.type "tuple"/\o.dict=none/\o.data=.seq its n/\its.size<=sizeLine/\Vals xs its.toList
def absV:ad->Option V
 |.none=>some .non
 |.bool b=>some (.bl b)
 |.int i _=>some (.int i)
 |.str x _=>some (.str x)
 |.bytes b _=>some (.byt b)
 |.float b _=>some (.flt b)
 |.ref a=>some (.ref a)
 |.type n=>some (.ty n)
 |_=>none
theorem RelV.abs{x:V}{u:ad}(r:RelV x u):absV u=some x:=by
 cases x with
 |non=>cases r;rfl
 |bl _=>cases r;rfl
 |int _=>obtain⟨t,rfl⟩:=r;rfl
 |str _=>obtain⟨t,rfl⟩:=r;rfl
 |byt _=>obtain⟨t,rfl⟩:=r;rfl
 |flt _=>obtain⟨t,rfl⟩:=r;rfl
 |ref _=>cases r;rfl
 |ty _=>cases r;rfl
theorem RelV.inj{x y:V}{u:ad}(r:RelV x u)(q:RelV y u):x=y:=aS (r.abs.symm.trans q.abs)
theorem Vals.inj:∀{xs ys:List V}{us:List ad},Vals xs us->Vals ys us->xs=ys
 |_,_,_,.nil,.nil=>rfl
 |_,_,_,.cons r t,.cons i d=>by rw[r.inj i,Vals.inj t d]
section
variable{X:Cx}{pins:List (Addr×Obj)}{σ:St}{H:Hp}{s:ah}{a:Addr}{xs ys:List V}
theorem SqL.of{K:av}(h:H a=some (.lst xs)):SqL K H a xs:=.inl (.inl h)
theorem Inv.list(I:Inv X pins σ H s)(h:SqL X.K H a xs):∃its:List ad,Vals xs its/\PlainL s.heap a its.toArray/\xs.length<=sizeLine:=by
 rcases h with h|⟨o,its,n,i,j,hd,d,v,r⟩
 ·obtain⟨z,its,n,r,e⟩:=h.ok I.hok;exact⟨its,r,⟨_,n,e,rfl,rfl,rfl⟩,z⟩
 ·refine⟨its.toList,r,⟨o,n,I.kIn a o i,j,hd,by simpa using d⟩,?_⟩
  have e:=r.length;simp only[aP] at e;omega
theorem Inv.tuple(I:Inv X pins σ H s)(h:SqT X.K H a xs):∃its:List ad,Vals xs its/\iB s.heap a its.toArray/\xs.length<=sizeLine:=by
 rcases h with h|⟨o,its,n,i,j,_,d,v,r⟩
 ·obtain⟨z,its,r,p,_⟩:=h.ok I.hok;exact⟨its,r,p,z⟩
 ·refine⟨its.toList,r,⟨o,I.kIn a o i,j,n,by simpa using d⟩,?_⟩
  have e:=r.length;simp only[aP] at e;omega
theorem Inv.list_inj(I:Inv X pins σ H s)(h:SqL X.K H a xs)(h':SqL X.K H a ys):xs=ys:=by
 obtain⟨its,r,⟨o,n,e,_,_,d⟩,_⟩:=I.list h;obtain⟨its',j,⟨o',z,e',_,_,i⟩,_⟩:=I.list h';rw[e] at e';cases e';rw[d] at i;injection i with v _
 have:its=its':=by simpa using congrArg Array.toList v
 subst this;exact r.inj j
theorem Inv.tuple_inj(I:Inv X pins σ H s)(h:SqT X.K H a xs)(h':SqT X.K H a ys):xs=ys:=by
 obtain⟨its,r,⟨o,e,_,n,d⟩,_⟩:=I.tuple h;obtain⟨its',j,⟨o',e',_,z,i⟩,_⟩:=I.tuple h';rw[e] at e';cases e';rw[d] at i;injection i with v _
 have:its=its':=by simpa using congrArg Array.toList v
 subst this;exact r.inj j
end
abbrev Cx.wish(X:Cx)(E:ad->ah->Prop):Cx:={X with xe:=E}
abbrev Cx.nox(X:Cx):Cx:=X.wish λ_ _=>False
theorem Cx.Ok.wish{X:Cx}(ok:X.Ok)(E:ad->ah->Prop):(X.wish E).Ok :=
 ⟨ok.mod,ok.kind,ok.glob,ok.blt,ok.above,ok.inj,ok.has,ok.cab,ok.hd,ok.frames,ok.gd,ok.stk,ok.exf,ok.bs,ok.bsz,ok.noex,ok.exfs,ok.funs,ok.frf⟩
theorem Cx.Ok.unwish{X:Cx}{E:ad->ah->Prop}(ok:(X.wish E).Ok):X.Ok :=
 ⟨ok.mod,ok.kind,ok.glob,ok.blt,ok.above,ok.inj,ok.has,ok.cab,ok.hd,ok.frames,ok.gd,ok.stk,ok.exf,ok.bs,ok.bsz,ok.noex,ok.exfs,ok.funs,ok.frf⟩
section
variable{X:Cx}{pins:List (Addr×Obj)}{σ:St}{H:Hp}{s:ah}{E:ad->ah->Prop}
theorem Inv.wish(I:Inv X pins σ H s)(E:ad->ah->Prop):Inv (X.wish E) pins σ H s:=⟨I.ok.wish E,I.os,I.bare,I.base,I.loc,I.cell,I.free,I.freeC,I.pin,I.hok,I.len⟩
theorem Inv.unwish(I:Inv (X.wish E) pins σ H s):Inv X pins σ H s:=⟨I.ok.unwish,I.os,I.bare,I.base,I.loc,I.cell,I.free,I.freeC,I.pin,I.hok,I.len⟩
theorem SP.unwish{D:Ends}{f:Flow}{s':ah}(h:SP (X.wish E) pins D f s'):SP X pins D f s':=by
 cases f with
 |next=>obtain⟨σ',H',I,q⟩:=h;exact⟨σ',H',I.unwish,q⟩
 |brk=>obtain⟨σ',H',I,q⟩:=h;exact⟨σ',H',I.unwish,q⟩
 |cont=>obtain⟨σ',H',I,q⟩:=h;exact⟨σ',H',I.unwish,q⟩
 |ret u=>obtain⟨v,σ',H',I,r,q⟩:=h;exact⟨v,σ',H',I.unwish,r,q⟩
theorem PSs.nox{st:List Stmt}{t:TS}(h:PSs X.nox st t):PSs X st t:=λpins s σ H D I hw =>
 cK (h pins s σ H D (I.wish _) hw) (λ_ _ q=>q.unwish) λ_ _ z=>c6 z
end
section
variable{X:Cx}{st:Stmt}{rest:List Stmt}{t u:TS}{e:Expr}{te:TE}{pos:Pos}
def fQj:TS:=λD σ H=>D.nx σ H
def tSeq(t u:TS):TS:=λD σ H=>t {D with nx:=u D} σ H
theorem dXf:PSs X [] fQj:=λ_ _ σ H _ I h=>gE ⟨σ,H,I,h⟩
theorem bJs(h1:PS X st t)(h2:PSs X rest u):PSs X (st::rest) (tSeq t u):=by
 intro pins s σ H D I h;refine wpAny_execs_cons (thn (h1 pins s σ H {D with nx:=u D} I h) λf s1 q=>?_)
 cases f with
 |next =>
  obtain⟨σ',H',d,q⟩:=q;exact h2 pins s1 σ' H' D d q
 |ret v=>exact q
 |brk=>exact q
 |cont=>exact q
theorem dXg(h1:PS X st t):PSs X [st] t:=by
 intro pins s σ H D I h;refine wpAny_execs_cons (thn (h1 pins s σ H D I h) λf s1 q=>?_);cases f with
 |next=>exact gE q
 |ret v=>exact q
 |brk=>exact q
 |cont=>exact q
theorem Inv.quiet{pins:List (Addr×Obj)}{σ:St}{H:Hp}{s:ah}(I:Inv X pins σ H s):interactive X.env=false:=by simp[interactive,I.ok.kind]
def fQk(te:TE):TS:=λD σ H=>te σ H λ_ H1=>D.nx σ H1
theorem dXh(he:PE X e te)(hs:iD e none pos.line X.env=pure false:=by rfl):PS X (.Expr e pos) (fQk te):=by
 intro pins s σ H D I h;exact wpAny_Expr_any (thn (he pins s σ H _ I h) λv s1 ⟨x,H1,i,j,d⟩=>⟨σ,H1,i,d⟩) I.quiet hs
def tRet(te:TE):TS:=λD σ H=>te σ H D.rt
theorem eZm(he:PE X e te):PS X (.Return (some e) pos) (tRet te):=by
 intro pins s σ H D I h;exact wpAny_Return_some (thn (he pins s σ H _ I h) λv s1 ⟨x,H1,j,d,i⟩=>⟨x,σ,H1,j,d,i⟩)
def tIfS(c:TT)(t u:TS):TS:=λD σ H=>c σ H λb H1=>if b=true then t D σ H1 else u D σ H1
theorem fQl{c:Expr}{a b:List Stmt}{tc:TT}(hc:PT X c tc)(ha:PSs X a t)(hb:PSs X b u):PS X (.If c a b pos) (tIfS tc t u):=by
 intro pins s σ H D I h;refine wpAny_If (thn (hc pins s σ H _ I h) λd s1 ⟨H1,j,i⟩=>?_);cases d with
 |true=>exact ha pins s1 σ H1 D j i
 |false=>exact hb pins s1 σ H1 D j i
end
abbrev TG:=V->St->Hp->(St->Hp->Prop)->Prop
abbrev TGs:=List V->St->Hp->(St->Hp->Prop)->Prop
def PG(X:Cx)(target:Expr)(t:TG):Prop :=
 ∀(pins:List (Addr×Obj)) (s:ah) (σ:St) (H:Hp) (v:V) (u:ad) (Q:St->Hp->Prop),Inv X pins σ H s->RelV v u->t v σ H Q ->
  aH (aE X.prog X.w) X.A (iV target X.env u) (λ_ s'=>∃σ' H',Inv X pins σ' H' s'/\Q σ' H') X.xe s
def PGs(X:Cx)(ts:List Expr)(t:TGs):Prop :=
 ∀(pins:List (Addr×Obj)) (s:ah) (σ:St) (H:Hp) (vs:List V) (us:List ad) (Q:St->Hp->Prop),Inv X pins σ H s->Vals vs us->t vs σ H Q ->
  aH (aE X.prog X.w) X.A (assignInOrder ((eC ts X.env).map (·.2)) us) (λ_ s'=>∃σ' H',Inv X pins σ' H' s'/\Q σ' H') X.xe s
abbrev TSet:=V->V->V->Hp->(Hp->Prop)->Prop
def PSet(X:Cx)(t:TSet):Prop :=
 ∀(pins:List (Addr×Obj)) (s:ah) (σ:St) (H:Hp) (o i v:V) (ov iv u:ad) (Q:Hp->Prop),Inv X pins σ H s->RelV o ov->RelV i iv->RelV v u->t o i v H Q ->
  aH (aE X.prog X.w) X.A (setItem ov iv u) (λ_ s'=>∃H',Inv X pins σ H' s'/\Q H') X.xe s
section
variable{X:Cx}{pos:Pos}
def cZj(i:Nat):TG:=λv σ H Q=>Q (σ.set i (some v)) H
theorem aQg{i:Nat}{x:Str}(hN:X.N.Nodup)(hi:X.N[i]?=some x)(hx:Loc X.env.scope x)(hf:X.fn x=true\/X.env.scope.names.lookup x=some .local:=by first|exact .inl rfl|exact .inr rfl|assumption):PG X (.Name x pos) (cZj i):=by
 intro pins s σ H v u Q I r h;exact wpAny_assign_Name (store_ok I hN hi hx r (λs' d=>⟨_,H,d,h⟩) hf)
def gNil:TGs:=λvs σ H Q=>vs=[]/\Q σ H
def fQm(t:TG)(u:TGs):TGs:=λvs σ H Q=>∃v r,vs=v::r/\t v σ H fun σ' H'=>u r σ' H' Q
theorem dXi:PGs X [] gNil:=by
 intro pins s σ H d us Q I r h;obtain⟨e,h⟩:=h;subst e;cases r;exact assignInOrder_nil ⟨σ,H,I,h⟩
theorem dQ0{e:Expr}{es:List Expr}{t:TG}{u:TGs}(h1:PG X e t)(h2:PGs X es u)
  (hs:(eC (e::es) X.env).map (·.2)=iV e X.env::(eC es X.env).map (·.2):=by rfl):PGs X (e::es) (fQm t u):=by
 intro pins s σ H B us Q I r h;obtain⟨v,D,j,h⟩:=h;subst j;cases r with
 |cons r d =>
  rw[hs];refine assignInOrder_cons (thn (h1 pins s σ H _ _ _ I r h) λ_ s1 ⟨σ1,H1,z,i⟩=>?_);exact h2 pins s1 σ1 H1 _ _ Q z d i
def gTup(K:av)(n:Nat)(t:TGs):TG:=λv σ H Q=>∃a xs,v=.ref a/\SqT K H a xs/\xs.length=n/\t xs σ H Q
theorem eZn{es:List Expr}{k:Nat}{t:TGs}{n:Nat}(hc:X.calm=true)(h:PGs X es t)
  (hn:(eC es X.env).length=n:=by rfl) (hst:(eC es X.env).findIdx? (·.1)=none:=by rfl):PG X (.Tuple es k pos) (gTup X.K n t):=by
 intro pins s σ H v u Q I r hw;obtain⟨a,xs,D,z,B,hw⟩:=hw;subst D;cases r;obtain⟨its,d,j,L⟩:=I.tuple z;refine assign_Tuple_tuple (I.ok.hd hc) j (by simp[hn,<- B,d.length]) hst λh' i=>?_
 have J:Inv X pins σ H {s with heap:=h'}:=I.kept (t':=s.toks) λb o e=>i b o (Nat.ne_of_lt (aD e)) e
 exact h pins _ σ H xs _ Q J (by simpa using d) hw
def gSub(to ti:TE)(t:TSet):TG:=λv σ H Q=>to σ H λo H1=>ti σ H1 λi H2=>t o i v H2 λH3=>Q σ H3
theorem eZo{o i:Expr}{to ti:TE}{t:TSet}(ho:PE X o to)(hi:PE X i ti)(hs:PSet X t)
  (ha:∀ v,iV (.Subscript o i pos) X.env v=(do
   let ov <- fv [v] (eval o X.env)
   let iv <- fv [v,ov] (eval i X.env)
   fH pos
   fv [v,ov,iv] (setItem ov iv v)
   release [v,ov,iv] []):=by intro _;rfl):PG X (.Subscript o i pos) (gSub to ti t):=by
 intro pins s σ H v u Q I r h;rw[ha];refine aa (bu (thn (ho pins s σ H _ I h) λov s1 ⟨x,H1,N,j,D⟩=>?_));refine aa (bu (thn (hi pins s1 σ H1 _ N D) λiv s2 ⟨y,H2,L,d,B⟩=>?_));refine aa (eZ (aa (bu (thn (hs pins s2 σ H2 x y v ov iv u _ L j d r B) λ_ s3 ⟨O,J,z⟩=>?_))));exact wpAny_release ⟨σ,O,J,z⟩
def tAsg(te:TE)(g:TG):TS:=λD σ H=>te σ H λx H1=>g x σ H1 D.nx
theorem eZp{tg e:Expr}{te:TE}{g:TG}(he:PE X e te)(hg:PG X tg g)(hs:swapsWithSole [tg] e pos.line X.env=pure false:=by rfl)(hw:swappedStores [tg] e X.env=pure none:=by rfl)
  (h1:(eC [tg] X.env).map (·.2)=[iV tg X.env]:=by rfl):PS X (.Assign [tg] e pos) (tAsg te g):=by
 intro pins s σ H D I h;refine wpAny_Assign_stores (thn (he pins s σ H _ I h) λv s1 ⟨x,H1,j,d,i⟩=>?_) hs hw;rw[h1];exact thn (hg pins s1 σ H1 x v _ j d i) λ_ s2 q=>q
theorem eZq{i:Nat}{x:Str}{e:Expr}{te:TE}{pos':Pos}(hN:X.N.Nodup)(hi:X.N[i]?=some x)(hx:Loc X.env.scope x)(he:PE X e te)(hs:iD e (some (.Name x pos')) pos.line X.env=pure false:=by rfl)(hf:X.fn x=true\/X.env.scope.names.lookup x=some .local:=by first|exact .inl rfl|exact .inr rfl|assumption) :
  PS X (.Assign [.Name x pos'] e pos) (tAsg te (cZj i)):=by
 intro pins s σ H D I h;refine wpAny_Assign_Name (thn (he pins s σ H _ I h) λv s1 ⟨y,H1,B,d,j⟩=>?_) hs;exact store_ok B hN hi hx d (λs2 z=>⟨_,H1,z,j⟩) hf
end
section
variable{X:Cx}{pos:Pos}
def eZr(c:TT)(tb:TS):TS:=λD σ H=>∃W:Nat->St->Hp->Prop,(∃m,W m σ H)/\∀m σ H,W m σ H ->
 c σ H λb H1=>if b=true then ∃N:St->Hp->Prop,(∀σ' H',N σ' H'->∃m',m'<m/\W m' σ' H')/\tb {D with nx:=N,ct:=N,bk:=D.nx} σ H1 else D.nx σ H1
theorem dQ1{c:Expr}{body:List Stmt}{tc:TT}{tb:TS}(hp:PassesOwn (aE X.prog X.w) X.A X.env X.xe)(hc:PT X c tc)(hb:PSs X body tb):PS X (.While c body [] pos) (eZr tc tb):=by
 intro pins s σ H D I h;obtain⟨W,⟨m0,Z⟩,turn⟩:=h;refine wpAny_While (codeAny_whileLoop (λn s'=>∃σ' H',Inv X pins σ' H' s'/\W n σ' H') ?_ m0 ⟨σ,H,I,Z⟩);rintro n s1 ⟨σ1,H1,I1,Y⟩;refine d8 hp (thn (hc pins s1 σ1 H1 _ I1 (turn n σ1 H1 Y)) λb s2 ⟨H2,U,j⟩=>?_);cases b with
 |true =>
  obtain⟨N,O,j⟩:=j;rw[if_pos rfl];refine d8 hp (thn (hb pins s2 σ1 H2 _ U j) λf s3 i=>?_);cases f with
  |next =>
   obtain⟨σ3,d,L,B⟩:=i;obtain⟨J,hm,z⟩:=O σ3 d B;exact⟨J,hm,σ3,d,L,z⟩
  |cont =>
   obtain⟨σ3,d,L,B⟩:=i;obtain⟨J,hm,z⟩:=O σ3 d B;exact⟨J,hm,σ3,d,L,z⟩
  |brk=>exact i
  |ret v=>exact i
 |false =>
  rw[if_neg dZ];exact gE ⟨σ1,H2,U,j⟩
end
structure It where
 go:Nat->Hp->Prop
 yld:Nat->Hp->V->Hp->Prop
 stop:Nat->Hp->Prop
def FpOk(X:Cx)(pins:List (Addr×Obj))(H:Hp)(b:Addr):Prop :=
 H b=none/\b≠X.env.locals/\b∉X.fs/\(b∈X.ex\/X.s₀.heap.objs.size<=b)/\(∀x c,X.env.cells.lookup x=some c->c≠b)/\∀p∈X.pn++pins,p.1≠b
theorem Inv.fpOk{X:Cx}{pins:List (Addr×Obj)}{σ:St}{H H':Hp}{s:ah}{b:Addr}(I:Inv X pins σ H s)(hb:s.heap.objs.size<=b)(hn:H' b=none):FpOk X pins H' b:=by
 refine⟨hn,Nat.ne_of_gt (Nat.lt_of_lt_of_le I.lt hb),I.nofs hb,.inr (Nat.le_trans I.sz hb),λx c e z=>?_,λp d z=>?_⟩
 ·obtain⟨v,q⟩:=I.cell x c e;exact absurd (Nat.lt_of_lt_of_le q.lt (by rw[z];exact hb)) (Nat.lt_irrefl _)
 ·exact absurd (Nat.lt_of_lt_of_le (aD (I.pin p d).1) (by rw[z];exact hb)) (Nat.lt_irrefl _)
structure Turn(P:aF)(w:aR)(K:av)(tg:Expr)(J:It)(fp:List Addr)(it:Addr)(tn:Nat->bj->Prop):Prop where
 mem:it∈fp
 obj:∀i h,tn i h->∀b∈fp,∃o,h.get? b=some o/\∀v,o.data≠.cell v
 keep:∀i h h',tn i h->(∀b∈fp,∀o,h.get? b=some o->h'.get? b=some o)->tn i h'
 item:∀(X:Cx),X.prog=P->X.w=w->X.K=K->X.calm=true->∀(i:Nat) (pins:List (Addr×Obj)) (s:ah) (σ:St) (H:Hp) (E:ad->ah->Prop),Inv X pins σ H s->(∀b∈fp,FpOk X pins H b)->tn i s.heap->J.go i H ->
  aH (aE P w) X.A (fi (.ref it)) (λr s1=>∃ u,r=some u /\
   aH (aE P w) X.A (eW tg (.ref it) u) (λ_ s2=>∃x H',Inv X pins σ H' s2/\RelV x u/\J.yld i H x H'/\tn (i+1) s2.heap/\∀b∈fp,H' b=none) E s1) E s
 done:∀(X:Cx),X.prog=P->X.w=w->X.K=K->X.calm=true->∀(i:Nat) (pins:List (Addr×Obj)) (s:ah) (σ:St) (H:Hp) (E:ad->ah->Prop),Inv X pins σ H s->(∀b∈fp,FpOk X pins H b)->tn i s.heap->J.stop i H ->
  aH (aE P w) X.A (fi (.ref it)) (λr s1=>r=none/\Inv X pins σ H s1) E s
 self:∀(A:a8) (i:Nat) (s:ah) (Q:ad->ah->Prop) (E:ad->ah->Prop),tn i s.heap->Q (.ref it) s->aH (aE P w) A (iW (.ref it)) Q E s
abbrev TI:=St->Hp->(It->Hp->Prop)->Prop
def PIE(X:Cx)(pins:List (Addr×Obj))(σ:St)(tg:Expr)(R:It->Hp->Prop)(itv:ad)(s2:ah):Prop :=
 ∃(it:Addr) (fp:List Addr) (tn:Nat->bj->Prop) (J:It) (H':Hp),itv=.ref it/\Inv X pins σ H' s2/\Turn X.prog X.w X.K tg J fp it tn/\tn 0 s2.heap/\(∀b∈fp,FpOk X pins H' b)/\R J H'
def PI(X:Cx)(tg iter:Expr)(wi:TI):Prop :=
 ∀(pins:List (Addr×Obj)) (s:ah) (σ:St) (H:Hp) (R:It->Hp->Prop),Inv X pins σ H s->wi σ H R ->
  aH (aE X.prog X.w) X.A (eval iter X.env) (λv s1=>aH (aE X.prog X.w) X.A (iW v) (PIE X pins σ tg R) X.xe s1) X.xe s
theorem dQ2{M:Model}{A:a8}{E:ad->ah->Prop}{s:ah}{tg:Expr}{it:Addr}{u:ad}{o:Obj}{n:String}{vs:Array ad}{Q:Unit->ah->Prop}(ho:s.heap.get? it=some o)(hc:o.cls=.type n)(hd:o.data=.fields vs)
    (hn:["enumerate", "zip", "dict_itemiterator", "dict_reverseitemiterator", "odict_iterator", "itertools.zip_longest", "itertools.pairwise"].contains n=false) (hQ:Q () s):aH M A (eW tg (.ref it) u) Q E s:=by
  unfold eW;cases tg <;> first
    |exact ae hQ
    | (cases u <;> first
        |exact ae hQ
        | (refine aa (wpAny_load ho ?_)
           rw [hc,hd];show aH M A (if (["enumerate", "zip", "dict_itemiterator", "dict_reverseitemiterator", "odict_iterator", "itertools.zip_longest", "itertools.pairwise"].contains n&&vs[0]?==some (e6 _))=true then _ else _) Q E s
           rw [if_neg (by intro h; rw [hn,Bool.false_and] at h; cases h)]
           exact ae hQ))
def Itl(K:av)(a:Addr):It :=
 ⟨λi H=>∃xs x,SqL K H a xs/\xs[i]?=some x,λi H x H'=>H'=H/\∀xs,SqL K H a xs->xs[i]?=some x,λi H=>∃xs,SqL K H a xs/\xs.length<=i⟩
def Itt(K:av)(a:Addr):It :=
 ⟨λi H=>∃xs x,SqT K H a xs/\xs[i]?=some x,λi H x H'=>H'=H/\∀xs,SqT K H a xs->xs[i]?=some x,λi H=>∃xs,SqT K H a xs/\xs.length<=i⟩
def Itr(lo:Int)(n:Nat):It:=⟨λi _=>i<n,λi H x H'=>H'=H/\x=.int (lo+i),λi _=>n<=i⟩
theorem cZk{P:aF}{w:aR}{K:av}{tg:Expr}(a it:Addr):Turn P w K tg (Itl K a) [it] it (λi h=>h.IsListIter it a i) where
 mem:=by simp
 obj:=λi h st b j=>by
  have e:b=it:=by simpa using j
  subst e;obtain⟨o,e,c,d⟩:=st;exact⟨o,e,λv z=>by rw[d] at z;cases z⟩
 keep:=λi h h' st k=>st.at λo e=>k it (by simp) o e
 item:=by
  intro X O hw U Z i pins s σ H E I hf st N;subst O hw U;obtain⟨xs,x,D,L⟩:=N;obtain⟨its,J,p,hz⟩:=I.list D;obtain⟨u,hu,ru⟩:=J.get L;obtain⟨f0,f1,f2,Y,f4,f5⟩:=hf it (by simp)
  refine wpAny_pyNext_list_item st p.isList (x:=u) (by simpa using hu) λh' B sb=>?_
  have I1:Inv X pins σ H {s with heap:=h'}:=I.turned (t':=s.toks) (λb o j e=>(sb.2 b j).trans e) f0 f1 Y f4 f5
  obtain⟨o,e,c,d⟩:=id B;exact⟨u,rfl,dQ2 (s:={s with heap:=h'}) e c d (by decide) ⟨x,H,I1,ru,⟨rfl,λys hy=>by rw[I.list_inj hy D];exact L⟩,B,λb j=>(hf b j).1⟩⟩
 done:=by
  intro X O hw U Z i pins s σ H E I hf st N;subst O hw U;obtain⟨xs,D,L⟩:=N;obtain⟨its,J,p,hz⟩:=I.list D;obtain⟨f0,f1,f2,Y,f4,f5⟩:=hf it (by simp)
  have hl:=J.length;exact wpAny_pyNext_list_end (I.ok.hd Z) st p.isList (by simp;omega) λh' eb=>⟨rfl,I.turned (t':=s.toks) (λb o j e=>eb b o j e) f0 f1 Y f4 f5⟩
 self:=λ_ _ _ _ _ st h=>wpAny_pyIter_listiter st h
theorem cQt{P:aF}{w:aR}{K:av}{tg:Expr}(a it:Addr):Turn P w K tg (Itt K a) [it] it (λi h=>h.IsTupleIter it a i) where
 mem:=by simp
 obj:=λi h st b j=>by
  have e:b=it:=by simpa using j
  subst e;obtain⟨o,e,c,d⟩:=st;exact⟨o,e,λv z=>by rw[d] at z;cases z⟩
 keep:=λi h h' st k=>st.at λo e=>k it (by simp) o e
 item:=by
  intro X O hw U Z i pins s σ H E I hf st N;subst O hw U;obtain⟨xs,x,D,L⟩:=N;obtain⟨its,J,p,hz⟩:=I.tuple D;obtain⟨u,hu,ru⟩:=J.get L;obtain⟨f0,f1,f2,Y,f4,f5⟩:=hf it (by simp)
  refine wpAny_pyNext_tuple_item st (show s.heap.IsTuple a its.toArray from p) (x:=u) (by simpa using hu) λh' B sb=>?_
  have I1:Inv X pins σ H {s with heap:=h'}:=I.turned (t':=s.toks) (λb o j e=>(sb.2 b j).trans e) f0 f1 Y f4 f5
  obtain⟨o,e,c,d⟩:=id B;exact⟨u,rfl,dQ2 (s:={s with heap:=h'}) e c d (by decide) ⟨x,H,I1,ru,⟨rfl,λys hy=>by rw[I.tuple_inj hy D];exact L⟩,B,λb j=>(hf b j).1⟩⟩
 done:=by
  intro X O hw U Z i pins s σ H E I hf st N;subst O hw U;obtain⟨xs,D,L⟩:=N;obtain⟨its,J,p,hz⟩:=I.tuple D;obtain⟨f0,f1,f2,Y,f4,f5⟩:=hf it (by simp)
  have hl:=J.length;exact wpAny_pyNext_tuple_end (I.ok.hd Z) st (show s.heap.IsTuple a its.toArray from p) (by simp;omega) λh' eb=>⟨rfl,I.turned (t':=s.toks) (λb o j e=>eb b o j e) f0 f1 Y f4 f5⟩
 self:=λ_ _ _ _ _ st h=>wpAny_pyIter_tupleiter st h
theorem cQu{P:aF}{w:aR}{K:av}{tg:Expr}(it:Addr)(lo:Int)(n:Nat):Turn P w K tg (Itr lo n) [it] it (λi h=>IsRangeIter h it (lo+(i:Nat)*1) ((n:Int)-(i:Nat)) 1) where
 mem:=by simp
 obj:=λi h st b d=>by
  have e:b=it:=by simpa using d
  subst e;exact⟨_,st,λv z=>by
   have z':Data.fields _=Data.cell v:=z;cases z'⟩
 keep:=λi h h' st k=>k it (by simp) _ st
 item:=by
  intro X J hw L D i pins s σ H E I hf st B;subst J hw L;obtain⟨f0,f1,f2,N,f4,f5⟩:=hf it (by simp)
  have W:=Walks.range (prog:=X.prog) (w:=X.w) (I.ok.hd D) it lo 1 n;refine W.item i s _ _ B st λv h' O Y j U=>?_;obtain⟨t,rfl⟩:=Y;have I1:Inv X pins σ H {s with heap:=h',toks:=O}:=I.turned (λb o d e=>U b o (by simpa using d) e) f0 f1 N f4 f5
  refine⟨_,rfl,dQ2 (s:={s with heap:=h',toks:=O}) (n:="range_iterator") j rfl rfl (by decide) ⟨.int (lo+i),H,I1,⟨t,?_⟩,⟨rfl,rfl⟩,j,λb d=>(hf b d).1⟩⟩
  rw[Int.mul_one]
 done:=by
  intro X J hw L D i pins s σ H E I hf st B;subst J hw L;obtain⟨f0,f1,f2,N,f4,f5⟩:=hf it (by simp)
  exact wpAny_pyNext_range_end (I.ok.hd D) st (by have:n<=i:=B;omega) λh' Z=>⟨rfl,I.turned (t':=s.toks) (λb o d e=>Z b o d e) f0 f1 N f4 f5⟩
 self:=λ_ _ _ _ _ st h=>wpAny_pyIter_rangeiter st h
section
variable{X:Cx}{tg:Expr}
theorem bJt{pins:List (Addr×Obj)}{σ:St}{H:Hp}{s:ah}{R:It->Hp->Prop}{E:ad->ah->Prop}{lo hi:Int}{t u v:Tok}{tk:Nat}(I:Inv X pins σ H s)(h1:-(2^62)<=lo)(h2:lo<2^62)(h3:-(2^62)<=hi)(h4:hi<2^62)
  (q:R (Itr lo (hi-lo).toNat) H):aH (aE X.prog X.w) X.A (iW (.ref s.heap.objs.size)) (PIE X pins σ tg R) E {s with heap:=s.heap.push {cls:=.type "range",data:=.fields #[.int lo t,.int hi u,.int 1 v]},toks:=tk}:=by
 refine wpAny_pyIter_range (IsRange.new ..) (small_one h1 h2 h3 h4) ?_;have d:Inv X pins σ H {s with heap:=s.heap.push {cls:=.type "range",data:=.fields #[.int lo t,.int hi u,.int 1 v]},toks:=tk}:=I.kept λb o e=>af _ e
 refine⟨(s.heap.push { cls:=.type "range",data:=.fields #[.int lo t,.int hi u,.int 1 v] }).objs.size,[(s.heap.push { cls:=.type "range",data:=.fields #[.int lo t,.int hi u,.int 1 v] }).objs.size],_,_,H,rfl,
  d.kept (t':=tk) λb o e=>af _ e,cQu _ lo (hi-lo).toNat,?_,λb i=>?_,q⟩
 ·have z:lo+((0:Nat):Int)*1=lo:=by simp
  have j:(((hi-lo).toNat:Nat):Int)-((0:Nat):Int)=cx.Range.rangeSize lo hi 1:=by rw[rangeSize_one];split <;> omega
  show IsRangeIter _ _ (lo+((0:Nat):Int)*1) ((((hi-lo).toNat:Nat):Int)-((0:Nat):Int)) 1;rw[z,j];exact az _ rfl
 ·have e:b=(s.heap.push {cls:=.type "range",data:=.fields #[.int lo t,.int hi u,.int 1 v]}).objs.size:=by simpa using i
  subst e;exact d.fpOk (Nat.le_refl _) (d.hok.fresh (Nat.le_refl _))
def fQn(ta:TA):TI:=fun σ H R=>ta σ H λvs H1=>∃j:Int,vs=[.int j]/\-(2^62)<=j/\j<2^62/\R (Itr 0 j.toNat) H1
def fQo(ta:TA):TI:=fun σ H R=>ta σ H λvs H1=>∃i j:Int,vs=[.int i,.int j]/\(-(2^62)<=i/\i<2^62/\-(2^62)<=j/\j<2^62)/\R (Itr i (j-i).toNat) H1
theorem cZl{a:Expr}{ta:TA}{p pos:Pos}(hg:Gl X "range")(hm:X.mg "range"=none)(ha:PA X [a] ta)(hs:aC [a] X.env=[(false,eval a X.env)]:=by rfl):PI X tg (.Call (.Name "range" p) [a] [] pos) (fQn ta):=by
 intro pins s σ H R I h;refine Call_ (ld_blt I hg hm boot_range (e8 (thn (ha pos pins s σ H _ I h) λus s1 ⟨z,H1,v,r1,d⟩=>?_) hs rfl));obtain⟨j,e,d,i,q⟩:=d;subst e;cases r1 with
 |cons r rr =>
  cases rr;obtain⟨t,rfl⟩:=r;exact call_range_1 (bJt v (by omega) (by omega) d i (by simpa using q))
theorem cZm{a b:Expr}{ta:TA}{p pos:Pos}(hg:Gl X "range")(hm:X.mg "range"=none)(ha:PA X [a,b] ta)(hs:aC [a,b] X.env=[(false,eval a X.env),(false,eval b X.env)]:=by rfl)(hs2:aC [b] X.env=[(false,eval b X.env)]:=by rfl) :
  PI X tg (.Call (.Name "range" p) [a,b] [] pos) (fQo ta):=by
 intro pins s σ H R I h;refine Call_ (ld_blt I hg hm boot_range (e8 (thn (ha pos pins s σ H _ I h) λus s1 ⟨L,H1,J,r1,d⟩=>?_) (by rw[hs,hs2]) (by rw[hs2];rfl)))
 obtain⟨i,j,e,⟨d,D,B,z⟩,q⟩:=d;subst e;cases r1 with
 |cons r rr =>
  cases rr with
  |cons v rr =>
   cases rr;obtain⟨t,rfl⟩:=r;obtain⟨N,rfl⟩:=v;exact call_range_2 (bJt J d D B z q)
def tFor(wi:TI)(g:TG)(tb:TS):TS:=λD σ H=>wi σ H λJ H1=>∃W:Nat->Nat->St->Hp->Prop,(∃m,W 0 m σ H1)/\∀i m σ H,W i m σ H ->
 (J.stop i H/\D.nx σ H)\/(J.go i H/\∃N:St->Hp->Prop,(∀σ' H',N σ' H'->∃m',m'<m/\W (i+1) m' σ' H')/\∀x H',J.yld i H x H'->g x σ H' fun σ2 H2=>tb {D with nx:=N,ct:=N,bk:=D.nx} σ2 H2)
def bZs(fp:List Addr)(h:bj):List (Addr×Obj):=fp.filterMap λb=>(h.get? b).map λo=>(b,o)
theorem aZz{fp:List Addr}{h:bj}{b:Addr}{o:Obj}(hb:b∈fp)(e:h.get? b=some o):(b,o)∈bZs fp h:=eT.mpr ⟨b,hb,by rw[e];rfl⟩
theorem cZn{fp:List Addr}{h:bj}{p:Addr×Obj}(hp:p∈bZs fp h):p.1∈fp/\h.get? p.1=some p.2:=by
 obtain⟨b,d,e⟩:=eT.mp hp;cases q:h.get? b with
 |none=>rw[q] at e;cases e
 |some o =>
  rw[q] at e;have i:(b,o)=p:=aS e;subst i;exact⟨d,q⟩
theorem Inv.pinned{pins:List (Addr×Obj)}{σ:St}{H:Hp}{s:ah}{fp:List Addr}(I:Inv X pins σ H s)(hf:∀b∈fp,FpOk X pins H b)(ho:∀b∈fp,∃o,s.heap.get? b=some o/\∀v,o.data≠.cell v):Inv X (pins++bZs fp s.heap) σ H s :=
 I.pins_of λp j=>(aL.mp j).elim (λz=>I.pin p (bf _ z)) λz=>by
  obtain⟨i,e⟩:=cZn z;obtain⟨f0,f1,f2,_⟩:=hf p.1 i;obtain⟨o,e',d⟩:=ho p.1 i;rw[e] at e';cases e';exact⟨e,f0,f1,f2,d⟩
theorem Inv.unpinned{pins pl:List (Addr×Obj)}{σ:St}{H:Hp}{s:ah}(I:Inv X (pins++pl) σ H s):Inv X pins σ H s:=I.pins_of λp d=>I.pin p (bf _ (cC _ d))
theorem eZs{iter:Expr}{body:List Stmt}{wi:TI}{g:TG}{tb:TS}{pos:Pos}(hp:PassesOwn (aE X.prog X.w) X.A X.env X.xe)(hc:X.calm=true)(hi:PI X tg iter wi)(hg:PG X tg g)(hb:PSs X body tb)
  (hs:∀x,bZ iter X.env x=pure x:=by intro _;rfl):PS X (.For tg iter body [] pos) (tFor wi g tb):=by
 intro pins s σ H D I h;refine wpAny_For (thn (hi pins s σ H _ I h) λv s1 h1=>thn h1 λitv s2 h2=>?_) hs;obtain⟨it,fp,tn,J,H2,e,I2,T,st2,f2,W,⟨m0,w0⟩,turn⟩:=h2;subst e;have j:∀{H':Hp},(∀b∈fp,H' b=none)->∀b∈fp,FpOk X pins H' b:=λhn b hb=>⟨hn b hb,(f2 b hb).2⟩;refine codeAny_forLoop_any (λn s'=>∃i σ' H',Inv X pins σ' H' s'/\tn i s'.heap/\(∀b∈fp,H' b=none)/\W i n σ' H') ?_ m0 ⟨0,σ,H2,I2,st2,λb hb=>(f2 b hb).1,w0⟩;rintro n s3 ⟨i,σ3,H3,I3,U,Z,w3⟩;rcases turn i n σ3 H3 w3 with⟨stop,qn⟩|⟨go,N,hN,step⟩
 ·refine d8 hp (thn (T.done X rfl rfl rfl hc i pins s3 σ3 H3 X.xe I3 (j Z) U stop) λr s4 ⟨hr,I4⟩=>?_);subst hr;exact gE ⟨σ3,H3,I4,qn⟩
 ·refine d8 hp (thn (T.item X rfl rfl rfl hc i pins s3 σ3 H3 X.xe I3 (j Z) U go) λr s4 ⟨u,hr,h4⟩=>?_);subst hr;refine d8 hp (thn h4 λ_ s5 ⟨x,H5,I5,r5,y5,O,fr5⟩=>?_);have I5':=I5.pinned (j fr5) (T.obj _ _ O);refine d8 hp (thn (hg _ s5 σ3 H5 x u _ I5' r5 (step x H5 y5)) λ_ s6 ⟨σ6,H6,I6,q6⟩=>?_);refine d8 hp (thn (hb _ s6 σ6 H6 _ I6 q6) λf s7 L=>?_);have again:∀{σ7:St}{B:Hp},Inv X (pins++bZs fp s5.heap) σ7 B s7->N σ7 B->∃m,m<n/\∃i σ' H',Inv X pins σ' H' s7/\tn i s7.heap/\(∀b∈fp,H' b=none)/\W i m σ' H':=λ{σ7 B} z Y=>by
   obtain⟨m',hm,w7⟩:=hN σ7 B Y;refine⟨m',hm,i+1,σ7,B,z.unpinned,T.keep _ _ _ O λb hb o e=>(z.pin (b,o) (bf _ (bf _ (aZz hb e)))).1,λb hb=>?_,w7⟩;obtain⟨o,e,d⟩:=T.obj _ _ O b hb;exact(z.pin (b,o) (bf _ (bf _ (aZz hb e)))).2.1
  cases f with
  |next=>obtain⟨σ7,B,z,Y⟩:=L;exact again z Y
  |cont=>obtain⟨σ7,B,z,Y⟩:=L;exact again z Y
  |brk=>obtain⟨σ7,B,z,L⟩:=L;exact⟨σ7,B,z.unpinned,L⟩
  |ret v=>obtain⟨x7,σ7,B,z,r7,L⟩:=L;exact⟨x7,σ7,B,z.unpinned,r7,L⟩
end
abbrev R2:=V->V->Hp->VK->Prop
def OpR(X:Cx)(f:ad->ad->Sem ad)(r:R2):Prop :=
 ∀(pins:List (Addr×Obj)) (s:ah) (σ:St) (H:Hp) (x y:V) (v u:ad) (Q:VK),Inv X pins σ H s->RelV x v->RelV y u->r x y H Q ->
  aH (aE X.prog X.w) X.A (f v u) (EP X pins σ Q) X.xe s
def CallR(X:Cx)(f:ad)(r:List V->Hp->VK->Prop):Prop :=
 ∀(pins:List (Addr×Obj)) (s:ah) (σ:St) (H:Hp) (xs:List V) (us:List ad) (Q:VK),Inv X pins σ H s->Vals xs us->r xs H Q ->
  aH (aE X.prog X.w) X.A (call f us) (EP X pins σ Q) X.xe s
def TruR(X:Cx)(r:V->Hp->(Bool->Hp->Prop)->Prop):Prop :=
 ∀(pins:List (Addr×Obj)) (s:ah) (σ:St) (H:Hp) (x:V) (v:ad) (Q:Bool->Hp->Prop),Inv X pins σ H s->RelV x v->r x H Q ->
  aH (aE X.prog X.w) X.A (truthy v) (TP X pins σ Q) X.xe s
def tOp(r:R2)(ta tb:TE):TE:=fun σ H Q=>ta σ H λx H1=>tb σ H1 λy H2=>r x y H2 Q
def rI(C:Int->Int->Prop)(g:Int->Int->V):R2:=λx y H Q=>∃i j,x=.int i/\y=.int j/\C i j/\Q (g i j) H
def rI0(g:Int->Int->V):R2:=λx y H Q=>∃i j,x=.int i/\y=.int j/\Q (g i j) H
section
variable{X:Cx}{a b c:Expr}{ta tb tc:TE}{pos:Pos}
theorem binT(ha:PE X a ta)(hb:PE X b tb){pins:List (Addr×Obj)}{s:ah}{σ:St}{H:Hp}{R:V->V->Hp->Prop}(I:Inv X pins σ H s)
  (h:ta σ H λx H1=>tb σ H1 λy H2=>R x y H2) {Q:ad->ah->Prop}{f:ad->ad->Sem ad}
  (hf:∀v u s2 x y H2,Inv X pins σ H2 s2->RelV x v->RelV y u->R x y H2->aH (aE X.prog X.w) X.A (f v u) Q X.xe s2) :
  aH (aE X.prog X.w) X.A (eval a X.env) (λv s₁=>aH (aE X.prog X.w) X.A (eval b X.env) (λu s₂=>aH (aE X.prog X.w) X.A (f v u) Q X.xe s₂) X.xe s₁) X.xe s:=by
 refine thn (ha pins s σ H _ I h) λv s1 ⟨x,H1,D,i,z⟩=>?_;refine thn (hb pins s1 σ H1 _ D z) λu s2 ⟨y,H2,B,d,j⟩=>?_;exact hf v u s2 x y H2 B i d j
theorem fQp{op:Operator}{r:R2}(ho:OpR X (eg op) r)(ha:PE X a ta)(hb:PE X b tb):PE X (.BinOp a op b pos) (tOp r ta tb):=by
 intro pins s σ H Q I h;exact wpAny_BinOp (binT ha hb I h λv u s2 x y H2 j i d q=>ho pins s2 σ H2 x y v u Q j i d q)
theorem opI{f:ad->ad->Sem ad}{C:Int->Int->Prop}{g:Int->Int->Int}
  (rule:∀(i j:Int) (t u:Tok) (s:ah) (Q:ad->ah->Prop) (E:ad->ah->Prop),C i j->Q (.int (g i j) s.toks) {s with toks:=s.toks+1}->aH (aE X.prog X.w) X.A (f (.int i t) (.int j u)) Q E s) :
  OpR X f (rI C λi j=>.int (g i j)):=by
 intro pins s σ H x y v u Q I B z h;obtain⟨i,j,rfl,rfl,D,q⟩:=h;obtain⟨t,rfl⟩:=B;obtain⟨d,rfl⟩:=z;exact rule i j t d s _ _ D ⟨.int (g i j),H,I.tok _,⟨_,rfl⟩,q⟩
theorem opI0{f:ad->ad->Sem ad}{g:Int->Int->Int}
  (rule:∀(i j:Int) (t u:Tok) (s:ah) (Q:ad->ah->Prop) (E:ad->ah->Prop),Q (.int (g i j) s.toks) {s with toks:=s.toks+1}->aH (aE X.prog X.w) X.A (f (.int i t) (.int j u)) Q E s) :
  OpR X f (rI0 λi j=>.int (g i j)):=by
 intro pins s σ H x y v u Q I B z h;obtain⟨i,j,rfl,rfl,q⟩:=h;obtain⟨t,rfl⟩:=B;obtain⟨d,rfl⟩:=z;exact rule i j t d s _ _ ⟨.int (g i j),H,I.tok _,⟨_,rfl⟩,q⟩
theorem opB0{f:ad->ad->Sem ad}{g:Int->Int->Bool}
  (rule:∀(i j:Int) (t u:Tok) (s:ah) (Q:ad->ah->Prop) (E:ad->ah->Prop),Q (.bool (g i j)) s->aH (aE X.prog X.w) X.A (f (.int i t) (.int j u)) Q E s) :
  OpR X f (rI0 λi j=>.bl (g i j)):=by
 intro pins s σ H x y v u Q I B z h;obtain⟨i,j,rfl,rfl,q⟩:=h;obtain⟨t,rfl⟩:=B;obtain⟨d,rfl⟩:=z;exact rule i j t d s _ _ ⟨.bl (g i j),H,I,rfl,q⟩
def CDiv(i j:Int):Prop:=0<j/\j<1073741824
def CPow(i j:Int):Prop:=0<=j/\j<=1000000/\i.natAbs<2^64
def CMul(i j:Int):Prop:=(-(2^64)<i/\i<2^64)\/(-(2^64)<j/\j<2^64)
theorem CMul.ok{i j:Int}(h:CMul i j):IntMulOk i j:=by
 rcases h with⟨h1,h2⟩|⟨h1,h2⟩
 ·exact .of_left (intBits_le_64 h1 h2)
 ·exact .of_right (intBits_le_64 h1 h2)
theorem op_add:OpR X (eg .Add) (rI0 λi j=>.int (i+j)):=opI0 λ_ _ _ _ _ _ _ q=>add_int q
theorem eZt:OpR X (eg .Sub) (rI0 λi j=>.int (i-j)):=opI0 λ_ _ _ _ _ _ _ q=>sub_int q
theorem eZu:OpR X (eg .Mult) (rI CMul λi j=>.int (i*j)):=opI λ_ _ _ _ _ _ _ d q=>mul_int q d.ok
theorem dXj:OpR X (eg .FloorDiv) (rI CDiv λi j=>.int (i/j)):=opI λi j _ _ _ _ _ d q=>by
 have h1:(0:Int)<j:=d.1;have h2:j<1073741824:=d.2;exact floordiv_int (by omega) (by rw[Int.fdiv_eq_ediv_of_nonneg i (by omega)];exact q) (.inl (PyProof.noPylong_small (by omega)))
theorem eZv:OpR X (eg .Mod) (rI (λ_ j=>0<j) λi j=>.int (i%j)):=opI λi j _ _ _ _ _ d q=>by
 have h1:(0:Int)<j:=d;exact mod_int' (by omega) (by rw[Int.fmod_eq_emod_of_nonneg i (by omega)];exact q)
theorem eZw:OpR X (eg .Pow) (rI CPow λi j=>.int (i^j.toNat)):=opI λ_ _ _ _ _ _ _ d q=>pow_int_small d.1 d.2.1 d.2.2 q
end
section
variable{X:Cx}{a b c:Expr}{ta tb tc:TE}{pos:Pos}
theorem cZo{pins:List (Addr×Obj)}{σ:St}{H:Hp}{s:ah}{Q:VK}{k k':Bool}(I:Inv X pins σ H s)(q:Q (.bl k) H)(e:k=k'):EP X pins σ Q (.bool k') s:=by
 subst e;exact⟨.bl k,H,I,rfl,q⟩
theorem op_lt:OpR X (cA .Lt) (rI0 λi j=>.bl (decide (i<j))):=opB0 λ_ _ _ _ _ _ _ q=>lt_int q
theorem fQq:OpR X (cA .Gt) (rI0 λi j=>.bl (decide (j<i))):=opB0 λ_ _ _ _ _ _ _ q=>gt_int q
theorem fQr:OpR X (cA .GtE) (rI0 λi j=>.bl (decide (j<=i))):=opB0 λ_ _ _ _ _ _ _ q=>ge_int q
theorem op_lt_str:OpR X (cA .Lt) (λx y H Q=>∃i j,x=.str i/\y=.str j/\Q (.bl (decide (i.cps.toList<j.cps.toList))) H):=by
 intro pins s σ H x y v u Q I z d h;obtain⟨i,j,rfl,rfl,q⟩:=h;obtain⟨t,rfl⟩:=z;obtain⟨B,rfl⟩:=d;exact lt_str (cZo I q rfl)
theorem eZx:OpR X (cA .Is) (λx y H Q=>y=.non/\Q (.bl (decide (x=.non))) H):=by
 intro pins s σ H x y v u Q I rx ry h;obtain⟨rfl,q⟩:=h;cases ry;refine is_none_gen (cZo I q ?_);cases x <;> first
  |(cases rx;rfl)
  |(obtain⟨t,rfl⟩:=rx;rfl)
theorem dXk:OpR X (cA .IsNot) (λx y H Q=>y=.non/\Q (.bl (!decide (x=.non))) H):=by
 intro pins s σ H x y v u Q I rx ry h;obtain⟨rfl,q⟩:=h;cases ry;refine isnot_none_gen (cZo I q ?_);cases x <;> first
  |(cases rx;rfl)
  |(obtain⟨t,rfl⟩:=rx;rfl)
theorem OpR.or{f:ad->ad->Sem ad}{r r':R2}(h:OpR X f r)(h':OpR X f r'):OpR X f (λx y H Q=>r x y H Q\/r' x y H Q):=by
 intro pins s σ H x y v u Q I i d q;rcases q with q|q
 ·exact h pins s σ H x y v u Q I i d q
 ·exact h' pins s σ H x y v u Q I i d q
theorem nomark(b:Expr){op:CmpOp}(h:op≠.In:=by decide)(h2:op≠.NotIn:=by decide):dU op b=false:=by
 have i:(op==CmpOp.In)=false:=by cases op <;> first|rfl|exact absurd rfl h
 have d:(op==CmpOp.NotIn)=false:=by cases op <;> first|rfl|exact absurd rfl h2
 cases b <;> simp[dU,i,d]
theorem dXl{op:CmpOp}{r:R2}(ho:OpR X (cA op) r)(ha:PE X a ta)(hb:PE X b tb)(hm:dU op b=false):PE X (.Compare a [op] [b] pos) (tOp r ta tb):=by
 intro pins s σ H Q I h;exact wpAny_Compare1 (binT ha hb I h λv u s2 x y H2 j i d q=>ho pins s2 σ H2 x y v u Q j i d q) hm
def eZy(t:TE):TT:=fun σ H Q=>t σ H λx H'=>∃k,x=.bl k/\Q k H'
theorem dXm{op:CmpOp}{r:R2}(ho:OpR X (cA op) r)(ha:PE X a ta)(hb:PE X b tb)(hm:dU op b=false):PT X (.Compare a [op] [b] pos) (eZy (tOp r ta tb)):=by
 intro pins s σ H Q I h;refine wpAny_isTrue_Compare1 (thn (ha pins s σ H _ I h) λv s1 ⟨x,H1,N,i,D⟩=>thn (hb pins s1 σ H1 _ N D) λu s2 ⟨y,H2,L,d,B⟩ =>
  thn (ho pins s2 σ H2 x y v u _ L i d B) λc s3 ⟨z,O,J,r3,k,e,j⟩=>?_) hm
 subst e;cases r3;exact dI ⟨O,J,j⟩
def TruV(K:av)(x:V)(H:Hp)(k:Bool):Prop :=
 match x with
 |.non=>k=false
 |.bl b=>k=b
 |.int i=>k=(i !=0)
 |.str y=>y.length<=sizeLine/\k=((y.length:Int) !=0)
 |.byt y=>y.size<=sizeLine/\k=((y.size:Int) !=0)
 |.ref p=>(∃xs,SqL K H p xs/\k=!xs.isEmpty)\/(∃xs,SqT K H p xs/\k=!xs.isEmpty)\/∃kvs,H p=some (.dK kvs)/\k=!kvs.isEmpty
 |_=>False
theorem cQv{κ:Type}{kvs:List (κ×V)}{vs:List (κ×ad)}(r:KV kvs vs):(!vs.isEmpty)=!kvs.isEmpty:=by
 cases r <;> rfl
theorem aXm{xs:List V}{its:List ad}(r:Vals xs its):(!its.toArray.isEmpty)=!xs.isEmpty:=by
 cases r <;> simp
theorem aJk:(sizeLine:Nat)<2^63:=by rw[bh];decide
theorem eZz:TruR X (λx H Q=>∃k,TruV X.K x H k/\Q k H):=by
 intro pins s σ H x v Q I rx h;obtain⟨k,e,q⟩:=h;have L:=aJk;have J:sizeLine=16777216:=bh;cases x with
 |non =>
  cases rx;have d:k=false:=e;subst d;exact truthy_none ⟨H,I,q⟩
 |bl b =>
  cases rx;have d:k=b:=e;subst d;exact dI ⟨H,I,q⟩
 |int i =>
  obtain⟨t,rfl⟩:=rx;have d:k=(i !=0):=e;subst d;exact PySem.P.truthy_int ⟨H,I,q⟩
 |str y =>
  obtain⟨t,rfl⟩:=rx;obtain⟨B,d⟩:y.length<=sizeLine/\k=((y.length:Int) !=0):=e;subst d;exact PySem.P.truthy_str (by omega) ⟨H,I.tok _,q⟩
 |byt y =>
  obtain⟨t,rfl⟩:=rx;obtain⟨B,d⟩:y.size<=sizeLine/\k=((y.size:Int) !=0):=e;subst d;exact PySem.W.truthy_bytes (by omega) ⟨H,I.tok _,q⟩
 |ref p =>
  cases rx;have d:(∃xs,SqL X.K H p xs/\k=!xs.isEmpty)\/(∃xs,SqT X.K H p xs/\k=!xs.isEmpty)\/∃kvs,H p=some (.dK kvs)/\k=!kvs.isEmpty:=e;rcases d with⟨xs,j,d⟩|⟨xs,j,d⟩|⟨kvs,j,d⟩
  ·subst d;obtain⟨its,r,pl,z⟩:=I.list j;have hlen:=r.length;exact wpAny_truthy_list pl.isList (by simp only[ar];omega) ⟨H,I.tok _,by rw[aXm r];exact q⟩
  ·subst d;obtain⟨its,r,pl,z⟩:=I.tuple j;have hlen:=r.length;exact truthy_tuple pl (by simp only[ar];omega) ⟨H,I.tok _,by rw[aXm r];exact q⟩
  ·subst d;obtain⟨z,D,vs,r,m⟩:kvs.length<=sizeLine/\(p==sysModules)=false/\∃vs,KV kvs vs/\s.heap.DictOf (aJj X.prog X.w) p vs:=I.hok p _ j;have hlen:kvs.length=vs.length:=cq r;exact wpAny_truthy_dict D m (by omega) ⟨H,I.tok _,by rw[cQv r];exact q⟩
 |_=>exact(show False from e).elim
theorem dQ3(ha:PE X a ta)(he:∀whole,isTrue a X.env whole=(do let v <- whole;fH a.pos;fv [v] (truthy v))) :
  PT X a (fun σ H Q=>ta σ H λx H'=>∃k,TruV X.K x H' k/\Q k H'):=by
 intro pins s σ H Q I h;exact isTrue_plain (thn (ha pins s σ H _ I h) λv s1 ⟨x,H1,j,d,i⟩=>eZz pins s1 σ H1 x v Q j d i) (he _)
theorem op_add_str:OpR X (eg .Add) (λx y H Q=>∃i j,x=.str i/\y=.str j/\i.length+j.length<=sizeLine/\Q (.str (i++j)) H):=by
 intro pins s σ H x y v u Q I B z h;obtain⟨i,j,rfl,rfl,D,q⟩:=h;obtain⟨t,rfl⟩:=B;obtain⟨d,rfl⟩:=z;exact add_str (λd J=>⟨.str (i++j),H,I.tok _,⟨_,rfl⟩,q⟩) D
theorem aXc{x:V}{us:List ad}(r:Vals [x] us):∃u,us=[u]/\RelV x u:=by
 cases r with
 |cons d r2=>cases r2;exact⟨_,rfl,d⟩
theorem fQs{x y:V}{us:List ad}(r:Vals [x,y] us):∃u w',us=[u,w']/\RelV x u/\RelV y w':=by
 cases r with
 |cons i r2 =>
  cases r2 with
  |cons d r4=>cases r4;exact⟨_,_,rfl,i,d⟩
theorem dQ4:CallR X (.builtin "abs") (λxs H Q=>∃i,xs=[.int i]/\Q (.int (if i<0 then -i else i)) H):=by
 intro pins s σ H xs us Q I r h;obtain⟨i,rfl,q⟩:=h;obtain⟨u,rfl,t,rfl⟩:=aXc r;exact call_abs_int λu d=>⟨.int (if i<0 then -i else i),H,I.tok _,⟨_,rfl⟩,q⟩
theorem cZp(hc:X.calm=true):CallR X (.builtin "min") (λxs H Q=>∃i j,xs=[.int i,.int j]/\Q (.int (if j<i then j else i)) H):=by
 intro pins s σ H xs us Q I r h;obtain⟨i,j,rfl,q⟩:=h;obtain⟨u,v,rfl,⟨t,rfl⟩,⟨B,rfl⟩⟩:=fQs r;refine min_two_ints (I.ok.hd hc) λh' z k=>⟨_,H,I.kept k,?_,q⟩
 by_cases d:j<i
 ·rw[if_pos d,if_pos d];exact⟨_,rfl⟩
 ·rw[if_neg d,if_neg d];exact⟨_,rfl⟩
def LenV(K:av)(x:V)(H:Hp)(n:Nat):Prop :=
 match x with
 |.str y=>y.length<=sizeLine/\n=y.length
 |.byt y=>y.size<=sizeLine/\n=y.size
 |.ref p=>(∃xs,SqL K H p xs/\n=xs.length)\/∃xs,SqT K H p xs/\n=xs.length
 |_=>False
theorem dQ5:CallR X (.builtin "len") (λxs H Q=>∃x n,xs=[x]/\LenV X.K x H n/\Q (.int n) H):=by
 intro pins s σ H xs us Q I r h;obtain⟨x,n,rfl,e,q⟩:=h;obtain⟨u,rfl,rx⟩:=aXc r;have D:=aJk;have B:sizeLine=16777216:=bh;cases x with
 |str y =>
  obtain⟨t,rfl⟩:=rx;obtain⟨z,d⟩:y.length<=sizeLine/\n=y.length:=e;subst d;exact len_str (by omega) ⟨.int _,H,I.tok _,⟨_,rfl⟩,q⟩
 |byt y =>
  obtain⟨t,rfl⟩:=rx;obtain⟨z,d⟩:y.size<=sizeLine/\n=y.size:=e;subst d;exact PySem.W.len_bytes (by omega) ⟨.int _,H,I.tok _,⟨_,rfl⟩,q⟩
 |ref p =>
  cases rx;have d:(∃xs,SqL X.K H p xs/\n=xs.length)\/∃xs,SqT X.K H p xs/\n=xs.length:=e;rcases d with⟨xs,j,d⟩|⟨xs,j,d⟩
  ·subst d;obtain⟨its,i,pl,v⟩:=I.list j;have hlen:=i.length;exact Calls.call_len_list pl.isList (by simp only[ar];omega) ⟨.int xs.length,H,I.tok _,⟨_,by simp only[ar];rw[hlen]⟩,q⟩
  ·subst d;obtain⟨its,i,pl,v⟩:=I.tuple j;have hlen:=i.length;exact len_tuple pl (by simp only[ar];omega) ⟨.int xs.length,H,I.tok _,⟨_,by simp only[ar];rw[hlen]⟩,q⟩
 |_=>exact(show False from e).elim
end
structure Room(k:Nat)(A:a8):Prop where
 hd:A.handled=none
 dp:A.depth+3*k+5<gV
 un:A.units+16*k+200<cE
theorem Room.mono{j k:Nat}{A:a8}(r:Room k A)(h:j<=k):Room j A:=⟨r.hd,by have:=r.dp;omega,by have:=r.un;omega⟩
theorem Room.deeper{k:Nat}{A:a8}(r:Room (k+1) A)(env:Env):Room k (A.deeper env) :=
 ⟨r.hd,by have:=r.dp;show A.depth+1+3*k+5<_;omega,by have:=r.un;show A.units+3+16*k+200<_;omega⟩
theorem Room.in1{k:Nat}{A:a8}(r:Room (k+1) A):Room k A.in1 :=
 ⟨r.hd,by have:=r.dp;show A.depth+3*k+5<_;omega,by have:=r.un;show A.units+1+16*k+200<_;omega⟩
theorem Room.depth{k:Nat}{A:a8}(r:Room k A):A.depth<gV:=by have:=r.dp;omega
theorem Room.units{k:Nat}{A:a8}(r:Room k A):A.units+64<cE:=by have:=r.un;omega
theorem Room.units0{k:Nat}{A:a8}(r:Room k A):A.units<cE:=by have:=r.un;omega
def tNil:TA:=λ_ H Q=>Q [] H
def fQt(ta:TE)(tr:TA):TA:=fun σ H Q=>ta σ H λx H1=>tr σ H1 λxs H2=>Q (x::xs) H2
section
variable{X:Cx}{e:Expr}{es:List Expr}{te:TE}{t:TA}{pos:Pos}
theorem bJu:PA X [] tNil:=λ_ _ _ _ H Q I h=>Calls.spliced_nil ⟨[],H,I,.nil,h⟩
theorem bQr(ha:PE X e te)(hr:PA X es t)(hs:aC (e::es) X.env=(false,eval e X.env)::aC es X.env:=by rfl):PA X (e::es) (fQt te t):=by
 intro pos pins s σ H Q I h;rw[hs];show aH _ _ (spliced ((false,eval e X.env)::cD pos (aC es X.env))) _ _ s;refine Calls.spliced_cons (thn (ha pins s σ H _ I h) λu s1 ⟨x,H1,B,i,v⟩=>?_);exact thn (hr pos pins s1 σ H1 _ B v) λus s2 ⟨xs,H2,z,d,j⟩=>⟨x::xs,H2,z,.cons i d,j⟩
def tTup(t:TA):TE:=fun σ H Q=>t σ H λxs H1=>xs.length<=sizeLine/\∀p,H1 p=none->Q (.ref p) (upd H1 p (.tup xs))
def tLst(t:TA):TE:=fun σ H Q=>t σ H λxs H1=>xs.length<=sizeLine/\∀p,H1 p=none->Q (.ref p) (upd H1 p (.lst xs))
theorem eX0{x1}(h:PA X es t):PE X (.Tuple es x1 pos) (tTup t):=by
 intro pins s σ H Q I i;refine wpAny_Tuple_spliced (thn (h pos pins s σ H _ I i) λus s1 ⟨xs,H1,d,r,z,q⟩=>⟨by rw[<- r.length];exact z,?_⟩)
 have hf:H1 s1.heap.objs.size=none:=d.hok.fresh (Nat.le_refl _);refine⟨.ref s1.heap.objs.size,upd H1 s1.heap.objs.size (.tup xs),d.laid (t':=s1.toks) (λb u e=>af _ e) (Nat.le_refl _) ?_,rfl,q _ hf⟩;exact⟨z,us,r,⟨_,az _ rfl,rfl,_,rfl⟩,bJr⟩
theorem eX1(h:PA X es t):PE X (.List es pos) (tLst t):=by
 intro pins s σ H Q I i;refine wpAny_List_spliced (thn (h pos pins s σ H _ I i) λus s1 ⟨xs,H1,d,r,z,q⟩=>⟨by rw[<- r.length];exact z,?_⟩)
 have hf:H1 s1.heap.objs.size=none:=d.hok.fresh (Nat.le_refl _);refine⟨.ref s1.heap.objs.size,upd H1 s1.heap.objs.size (.lst xs),d.laid (t':=s1.toks) (λb u e=>af _ e) (Nat.le_refl _) ?_,rfl,q _ hf⟩;exact⟨z,us,0,r,az _ rfl⟩
end
abbrev Sp:=List V->Hp->VK->XK->Prop
abbrev CXT:=List Env->Hp->ah->XK->ad->ah->Prop
structure Env0(P:aF)(w:aR)(K:av)(mg:Str->Option ad)(base:bj)(A:a8)(outer:List Env)(s:ah)(H:Hp):Prop where
 frames:A.frames=some outer
 gd:A.guards=some []
 mod:Mod K mg base
 bs:∀b o,base.get? b=some o->s.heap.get? b=some o/\H b=none
 bsz:base.objs.size<=s.heap.objs.size
 funs:s.heap.FunFrames base outer
 frf:∀b∈frs outer,H b=none
 hok:HOk P w H s.heap
 bare:ik s.gens
def CE(outer:List Env)(P:aF)(w:aR)(H:Hp)(s:ah)(Q:VK)(u:ad)(s':ah):Prop :=
 ∃v H',s'.os=s.os/\ik s'.gens/\Un (frs outer) [] H H' s.heap s'.heap/\HOk P w H' s'.heap/\RelV v u/\Q v H'
def CR(CX:CXT)(outer:List Env)(P:aF)(w:aR)(H:Hp)(s:ah)(Q:VK)(E:XK)(r:Result)(s':ah):Prop :=
 match r with
 |.ok (.ret u)=>CE outer P w H s Q u s'
 |.ok _=>False
 |.error e=>CX outer H s E e s'
structure FnOk(P:aF)(w:aR)(K:av)(mg:Str->Option ad)(base:bj)(CX:CXT)(k:Nat)(f:Addr)(fd:cT)(ps:List Str)(sp:Sp):Prop where
 len:∀vs H Q E,sp vs H Q E->vs.length=ps.length
 run:∀(A:a8) (outer:List Env) (s:ah) (H:Hp) (args:Args) (us:List ad) (vs:List V) (Q:VK) (E:XK),Room k A->Env0 P w K mg base A outer s H->BindsTo s fd args (ps.zip us)->Vals vs us->sp vs H Q E ->
  eF (aE P w) A (.call (.ref f) args) (CR CX outer P w H s Q E) s
theorem FnOk.mono{P:aF}{w:aR}{K:av}{mg:Str->Option ad}{base:bj}{CX:CXT}{j k:Nat}{f:Addr}{fd:cT}{ps:List Str}{sp:Sp}(F:FnOk P w K mg base CX j f fd ps sp)(h:j<=k) :
  FnOk P w K mg base CX k f fd ps sp:=⟨F.len,λA outer s H args us d Q E i=>F.run A outer s H args us d Q E (i.mono h)⟩
section
variable{X:Cx}{pins:List (Addr×Obj)}{σ:St}{H:Hp}{s s':ah}
theorem Inv.env0(I:Inv X pins σ H s):Env0 X.prog X.w X.K X.mg X.base X.A X.stack s H :=
 ⟨I.ok.frames,I.ok.gd,I.ok.mod,I.bs,Nat.le_trans I.ok.bsz I.sz,I.stack,I.stkFree,I.hok,I.bare⟩
theorem Inv.after{Q:VK}{u:ad}(I:Inv X pins σ H s)(h:CE X.stack X.prog X.w H s Q u s'):EP X pins σ Q u s':=by
 obtain⟨v,H',os,bare,un,hok,r,q⟩:=h;obtain⟨hh,g,d,t,i⟩:=s';obtain rfl:i=s.os:=os;exact⟨v,H',I.call (h':=hh) (g':=g) (d':=d) (t':=t) (ch:=[]) un hok bare (λb z=>absurd z (by simp)),r,q⟩
end
def eX2(sp:Sp)(dvs:List V)(E:XK)(t:TA):TE:=fun σ H Q=>t σ H λvs H1=>sp (vs++dvs) H1 Q E
def Binds(K:av)(fd:cT)(ps:List Str)(ds:List ad):Prop :=
 ∀(s:ah) (us:List ad),K.In s.heap->(us++ds).length=ps.length->BindsTo s fd ⟨us,[]⟩ (ps.zip (us++ds))
theorem Binds.all{K:av}{fd:cT}{ps:List Str}(h:∀us:List ad,us.length=ps.length->bindArgs fd ⟨us,[]⟩=pure (ps.zip us)):Binds K fd ps []:=λs us _ d=>by
 rw[a7] at d ⊢;exact .of_eq (h us d)
def cZq(CX:CXT)(X:Cx)(E:XK):Prop:=∀(pins:List (Addr×Obj)) (σ:St) (H:Hp) (s:ah) (e:ad) (s':ah),Inv X pins σ H s->CX X.stack H s E e s'->X.xe e s'
section
variable{X:Cx}{CX:CXT}{k:Nat}{f C:Addr}{fd:cT}{ps:List Str}{sp:Sp}{dvs:List V}{ds:List ad}{E:XK}{x m:Str}{p pos apos:Pos}{e o:Expr}{es:List Expr}{ta:TE}{t:TA}
theorem eX3{pins:List (Addr×Obj)}{σ:St}{H:Hp}{s:ah}{Q:VK}{us:List ad}{vs:List V}(F:FnOk X.prog X.w X.K X.mg X.base CX k f fd ps sp)(hr:Room k X.A)(hb:Binds X.K fd ps ds)(hd:Vals dvs ds)(hx:cZq CX X E)
  (I:Inv X pins σ H s) (r:Vals vs us) (h:sp (vs++dvs) H Q E):aH (aE X.prog X.w) X.A (call (.ref f) us) (EP X pins σ Q) X.xe s:=by
 have i:Vals (vs++dvs) (us++ds):=r.append hd;have j:(us++ds).length=ps.length:=by rw[<- i.length];exact F.len _ _ _ _ h
 refine wpAny_call (gJ (F.run X.A X.stack s H ⟨us,[]⟩ (us++ds) (vs++dvs) Q E hr I.env0 (hb s us I.kIn j) i h) λr s' d=>?_);cases r with
 |error e=>exact hx pins σ H s e s' I d
 |ok fl =>
  cases fl with
  |ret u=>exact I.after d
  |next=>exact c6 d
  |brk=>exact c6 d
  |cont=>exact c6 d
theorem dXn(F:FnOk X.prog X.w X.K X.mg X.base CX k f fd ps sp)(hr:Room k X.A)(hg:Gl X x)(hm:X.mg x=some (.ref f))(hk:fj X.K (.ref f)=true)(hb:Binds X.K fd ps ds)(hd:Vals dvs ds)(hx:cZq CX X E)
  (ha:PA X (e::es) t) (hdb:(x==("__debug__":Str))=false:=by decide) (he:aC (e::es) X.env=(false,eval e X.env)::aC es X.env:=by rfl) (hpl:(cD pos (aC es X.env)).any (·.1)=false:=by rfl) :
  PE X (.Call (.Name x p) (e::es) [] pos) (eX2 sp dvs E t):=by
 intro pins s σ H Q I h;refine fM (ld_glob I hg hm ?_ hdb);refine PySem.W.callWith_K (h₀:=X.base) I.ok.mod.kin hk (thn (ha pos pins s σ H _ I h) λus s1 ⟨i,H1,d,r,q⟩=>⟨d.kIn,?_⟩) he hpl;exact eX3 F hr hb hd hx d r q
end
structure FnScope(N P:List Str)(sc:Scope):Prop where
 kind:sc.kind=.function
 co:sc.isCoroutine=false
 gen:sc.isGenerator=false
 nd:N.Nodup
 pre:N.take P.length=P
 par:∀x∈P,sc.names.lookup x=some .local\/sc.names.lookup x=some .cell
 nofree:∀y∈sc.names,y.2≠.free
theorem bZt{kindOf:Str->Option eX}{x:Str}:∀{binds:List (Str×ad)}{m:Str->Option ad},(∀v,(x,v)∉binds)->bindL kindOf binds m x=m x
 |[],_,_=>rfl
 |(n,v)::r,m,h=>by
  unfold bindL;rw[bZt λw hw=>h w (au _ hw)]
  split
  ·have:x≠n:=by rintro rfl;exact h v aq
   simp[this]
  ·rfl
theorem bindC_out{kindOf:Str->Option eX}{x:Str}:∀{binds:List (Str×ad)}{m:Str->Option ad},(∀v,(x,v)∉binds)->bindC kindOf binds m x=m x
 |[],_,_=>rfl
 |(n,v)::r,m,h=>by
  unfold bindC;rw[bindC_out λw hw=>h w (au _ hw)]
  split
  ·rfl
  ·have:x≠n:=by rintro rfl;exact h v aq
   simp[this]
theorem bindL_get{kindOf:Str->Option eX}{x:Str}{v:ad}:∀{P:List Str}{vs:List ad}{i:Nat}{m:Str->Option ad},P.Nodup->P[i]?=some x->vs[i]?=some v->kindOf x=some .local ->
  bindL kindOf (P.zip vs) m x=some v
 |[],_,_,_,_,h,_,_=>by simp at h
 |_::_,[],_,_,_,_,h,_=>by simp at h
 |p::P,w::vs,0,m,nd,h1,h2,d=>by
  simp at h1 h2;subst h1;subst h2;show bindL kindOf ((p,w)::P.zip vs) m p=_;unfold bindL;rw[bZt λv j=>(bM.mp nd).1 (d9 j).1,if_pos d];simp
 |p::P,w::vs,i+1,m,nd,h1,h2,d=>by
  show bindL kindOf ((p,w)::P.zip vs) m x=_;unfold bindL;exact bindL_get (i:=i) (bM.mp nd).2 (by simpa using h1) (by simpa using h2) d
theorem bZu{kindOf:Str->Option eX}{x:Str}{v:ad}:∀{P:List Str}{vs:List ad}{i:Nat}{m:Str->Option ad},P.Nodup->P[i]?=some x->vs[i]?=some v->kindOf x≠some .local ->
  bindC kindOf (P.zip vs) m x=some v
 |[],_,_,_,_,h,_,_=>by simp at h
 |_::_,[],_,_,_,_,h,_=>by simp at h
 |p::P,w::vs,0,m,nd,h1,h2,d=>by
  simp at h1 h2;subst h1;subst h2;show bindC kindOf ((p,w)::P.zip vs) m p=_;unfold bindC;rw[bindC_out λv j=>(bM.mp nd).1 (d9 j).1,if_neg d];simp
 |p::P,w::vs,i+1,m,nd,h1,h2,d=>by
  show bindC kindOf ((p,w)::P.zip vs) m x=_;unfold bindC;exact bZu (i:=i) (bM.mp nd).2 (by simpa using h1) (by simpa using h2) d
def start(N:List Str)(vs:List V):St:=vs.map some++gW (N.length-vs.length) none
def cxOf(CX:CXT)(P:aF)(w:aR)(K:av)(mg:Str->Option ad)(base:bj)(N:List Str)(qual:Str)(scope:Scope)(f:Addr)(cd:ad)(A:a8)(outer:List Env)(s:ah)(H:Hp)(E:XK):Cx where
 prog:=P
 w:=w
 K:=K
 mg:=mg
 base:=base
 A:=A.deeper (gX qual scope s.heap.objs.size f cd)
 N:=N
 s₀:=s
 H₀:=H
 env:=gX qual scope s.heap.objs.size f cd
 outer:=outer
 stack:=gX qual scope s.heap.objs.size f cd::outer
 ex:=[]
 calm:=true
 fn:=λ_=>true
 pn:=[]
 xe:=λe s'=>aH (aE P w) (A.deeper (gX qual scope s.heap.objs.size f cd)) (leaving (gX qual scope s.heap.objs.size f cd) e) (λ_ s''=>CX outer H s E e s'') (λe' s''=>CX outer H s E e' s'') s'
theorem bJv{sc:Scope}{n:Nat}{x:Str}(h:sc.names.lookup x=some .cell):∃c,(eH n sc.names []).lookup x=some c:=by
 have q:=iX sc.names n [] (.inl h);exact cr.mp q
theorem cZr{CX:CXT}{P:aF}{w:aR}{K:av}{mg:Str->Option ad}{base:bj}{N ps:List Str}{qual:Str}{scope:Scope}{f:Addr}{cd:ad}{A:a8}{outer:List Env}{s s1:ah}{H:Hp}{E:XK}{us:List ad}{vs:List V}
  (S:FnScope N ps scope) (hd:A.handled=none) (e0:Env0 P w K mg base A outer s H) (hl:vs.length=ps.length) (r:Vals vs us)
  (x:InCallC s s.heap.objs.size (bindL (gX qual scope s.heap.objs.size f cd).kindOf (ps.zip us) λ_=>none) (eH (s.heap.objs.size+1) scope.names []) (bindC (gX qual scope s.heap.objs.size f cd).kindOf (ps.zip us) λ_=>none) s1) :
  Inv (cxOf CX P w K mg base N qual scope f cd A outer s H E) [] (start N vs) H s1:=by
 have U:ps.length<=N.length:=by have:=congrArg gz S.pre;rw[aQ] at this;omega
 obtain⟨h1,Z,rfl,L⟩:=x.done;have d:∀b:Addr,b∉(cxOf CX P w K mg base N qual scope f cd A outer s H E).ex:=λb z=>absurd (show b∈([]:List Addr) from z) (by simp)
 refine⟨⟨e0.mod,S.kind,rfl,rfl,Nat.le_refl _,λy z c h1 h2=>?_,λy j=>?_,λy c _ h=>?_,λ_=>hd,Around.frames_deeper e0.frames,e0.gd,.inr ⟨rfl,rfl⟩,λb z=>absurd z (d b),e0.bs,e0.bsz,λb _ _=>d b,λb z=>absurd z (d b),e0.funs,e0.frf⟩,
  rfl,e0.bare,Un.kept L,⟨_,x.toInCall.ns,λi y v h1 h2 h3=>?_⟩,λy c h=>⟨_,x.cell y c h⟩,e0.hok.fresh (Nat.le_refl _),λy c h=>?_,λp D=>absurd (show p∈([]:List (Addr×Obj)) from D) (by simp),e0.hok.kept L,?_⟩
 ·exact name_of_addr x.apart (dN h1) (dN h2)
 ·have j:scope.names.lookup y=some .cell\/scope.names.lookup y=some .free:=j;rcases j with j|j
  ·exact bJv j
  ·exact absurd rfl (S.nofree _ (dN j))
 ·exact Nat.le_of_lt (x.above y c (dN h))
 ·have hi:i<vs.length:=by
   unfold start at h2
   by_cases hi:i<vs.length
   ·exact hi
   ·rw[bU (by simpa using hi)] at h2
    rw[List.getElem?_replicate] at h2
    split at h2 <;> cases h2
  have Y:vs[i]?=some v:=by
   unfold start at h2;rw[dA (by simpa using hi),aT] at h2
   cases e:vs[i]? with
   |none=>rw[e] at h2;cases h2
   |some a=>rw[e] at h2;cases h2;rfl
  obtain⟨u,J,O⟩:=r.get Y;have D:ps[i]?=some y:=by
   rw[<- S.pre,fE (by omega)];exact h1
  have B:ps.Nodup:=by rw[<- S.pre];exact S.nd.sublist (c7 _ _)
  refine⟨u,O,?_⟩;rcases S.par y (ao D) with k|k
  ·exact .inl ⟨k,bindL_get B D J k⟩
  ·obtain⟨c,e⟩:=bJv (n:=s.heap.objs.size+1) k;refine .inr ⟨.inl k,c,e,?_⟩;have q:=x.cell y c e;rw[bZu B D J (by show scope.names.lookup y≠_;rw[k];decide)] at q
   exact q
 ·exact e0.hok.fresh (Nat.le_of_lt (x.above y c (dN h)))
 ·unfold start;show _=N.length;rw[aG,am,List.length_replicate];omega
theorem eX4{CX:CXT}{P:aF}{w:aR}{K:av}{mg:Str->Option ad}{base:bj}{k:Nat}{f:Addr}{name qual:Str}{params:Arguments}{body:List Stmt}{scope:Scope}{dV kV doc pm cdv ct oc:ad}{an od:Option Addr}
  {osl:Array (Option ad)}{N ps:List Str}{sp:Sp}(lk:K.lookup f=some ⟨oc,od,.func (er name qual params body scope dV kV doc pm an cdv ct),osl⟩) (hcd:fU K cdv qual=true) (S:FnScope N ps scope)
  (len:∀vs H Q E,sp vs H Q E->vs.length=ps.length)
  (hbody:∀ (A:a8) (outer:List Env) (s:ah) (H:Hp) (vs:List V) (Q:VK) (E:XK),Room k (A.deeper (gX qual scope s.heap.objs.size f cdv))->sp vs H Q E ->
   ∃t,PSs (cxOf CX P w K mg base N qual scope f cdv A outer s H E) body t/\t {nx:=λ_ H'=>Q .non H',rt:=Q} (start N vs) H) :
  FnOk P w K mg base CX (k+1) f (er name qual params body scope dV kV doc pm an cdv ct) ps sp:=by
 refine⟨len,λA outer s H args us vs Q E D z hb r j=>?_⟩;have Z:=len _ _ _ _ j;have L:K.In s.heap:=z.mod.kin.keeps λb o e=>(z.bs b o e).1;have lim:s.heap.NoLimit:=z.mod.nolimit.keeps λb o e=>(z.bs b o e).1;have d:∀y∈ps.zip us,scope.names.lookup y.1=some .local\/(scope.names.lookup y.1=some .cell/\((eH (s.heap.objs.size+1) scope.names []).lookup y.1).isSome=true):=λ⟨n,v⟩ O=>by
  rcases S.par n (d9 O).1 with q|q
  ·exact .inl q
  ·exact .inr ⟨q,iX _ _ _ (.inl q)⟩
 refine codeAny_call_function D.depth (L _ _ lk) rfl S.co S.gen rfl (PySem.W.codeRec_of L hcd) (hb _ _ _ _ ?_);refine wpAny_newFunctionEnv_cells S.kind d λenv he s1 x=>?_;subst he;refine⟨lim.keeps x.toInCall.keep,codeAny_func ?_⟩;obtain⟨t,U,Y⟩:=hbody A outer s H vs Q E (D.deeper _) j;have I:Inv (cxOf CX P w K mg base N qual scope f cdv A outer s H E) [] (start N vs) H s1:=cZr S D.hd z Z r x;refine cK (U [] s1 (start N vs) H _ I Y) (λfl s' i=>?_) λe s' i=>i;have fin:∀{σ':St}{H':Hp}{v:V}{u:ad},Inv (cxOf CX P w K mg base N qual scope f cdv A outer s H E) [] σ' H' s'->RelV v u->Q v H'->CE outer P w H s Q u s' :=
  λ{σ' H' v u} J B q=>⟨v,H',J.os,J.bare,J.base,J.hok,B,q⟩
 cases fl with
 |ret u =>
  obtain⟨v,σ',H',J,B,q⟩:=i;exact fin J B q
 |next =>
  obtain⟨σ',H',J,q⟩:=i;exact fin (v:=V.non) (u:=cB) J rfl q
 |brk =>
  obtain⟨_,_,_,q⟩:=i;exact c6 q
 |cont =>
  obtain⟨_,_,_,q⟩:=i;exact c6 q
section
variable{X:Cx}{x:Str}{p pos:Pos}{e:Expr}{es:List Expr}{t:TA}{id T:String}{r:List V->Hp->VK->Prop}
def tCB(r:List V->Hp->VK->Prop)(t:TA):TE:=fun σ H Q=>t σ H λvs H1=>r vs H1 Q
theorem bQs(hc:CallR X (.builtin id) r)(hg:Gl X x)(hm:X.mg x=none)(hv:cb x=some (.builtin id))(ha:PA X (e::es) t)(hn:x ≠ "__name__":=by decide)(hdb:(x==("__debug__":Str))=false:=by decide)
  (he:aC (e::es) X.env=(false,eval e X.env)::aC es X.env:=by rfl) (hpl:(cD pos (aC es X.env)).any (·.1)=false:=by rfl):PE X (.Call (.Name x p) (e::es) [] pos) (tCB r t):=by
 intro pins s σ H Q I h;refine fM (ld_blt I hg hm hv ?_ hn hdb);exact PyProof.Rows.callWith_builtin1 (thn (ha pos pins s σ H _ I h) λus s1 ⟨d,H1,v,i,j⟩=>hc pins s1 σ H1 d us Q v i j) he hpl
theorem bZv(hc:CallR X (.type T) r)(hg:Gl X x)(hm:X.mg x=none)(hv:cb x=some (.type T))(ha:PA X (e::es) t)(hn:x ≠ "__name__":=by decide)(hdb:(x==("__debug__":Str))=false:=by decide)
  (he:aC (e::es) X.env=(false,eval e X.env)::aC es X.env:=by rfl) (hpl:(cD pos (aC es X.env)).any (·.1)=false:=by rfl):PE X (.Call (.Name x p) (e::es) [] pos) (tCB r t):=by
 intro pins s σ H Q I h;refine fM (ld_blt I hg hm hv ?_ hn hdb);exact e8 (thn (ha pos pins s σ H _ I h) λus s1 ⟨d,H1,v,i,j⟩=>hc pins s1 σ H1 d us Q v i j) he hpl
end
end L2
namespace HT
open PySem PyProof.Rows
section
variable{prog:aF}{w:aR}{A:a8}{E:ad->ah->Prop}{s:ah}
theorem cat_tup{t b:Addr}{vs ws:List ad}{Q:ad->ah->Prop}(ht:iB s.heap t vs.toArray)(hb:iB s.heap b ws.toArray)(hv:vs≠[])
  (h1:ws=[]->Q (.ref t) s) (h2:ws≠[]->Q (.ref s.heap.objs.size) {s with heap:=s.heap.push {cls:=.type "tuple",data:=.seq (vs++ws).toArray}})
  (hsz:vs.length+ws.length<=sizeLine):aH (aE prog w) A (eg .Add (.ref t) (.ref b)) Q E s:=by
 obtain⟨⟨cls,dd,data,sl⟩,z,D,n,hd⟩:=id ht;obtain⟨⟨J,v,data2,i⟩,d,j,B,hd2⟩:=id hb;simp only at D hd j hd2;subst D hd j hd2;have e:vs.toArray++ws.toArray=(vs++ws).toArray:=by simp
 by_cases hw:ws=[]
 ·exact iY ⟨_,z,rfl⟩ ⟨_,d,rfl⟩ iE seq_tuple_add fV fN (fF _ _)
   (tuple_addW1 t b vs.toArray ws.toArray n B dd v sl i (by simpa using hv) (by simp[hw])) ⟨z,d,h1 hw⟩
 ·refine iY ⟨_,z,rfl⟩ ⟨_,d,rfl⟩ iE seq_tuple_add fV fN (fF _ _)
   (tuple_addW2 t b vs.toArray ws.toArray n B dd v sl i (by simpa using hv) (by simpa using hw) (by rw[ar,ar];exact hsz)) ⟨z,d,?_⟩
  rw[e];exact h2 hw
def sIx(n d:Nat):Option Int->Nat
 |none=>d
 |some v=>if v<0 then (v+(n:Int)).toNat else min v.toNat n
theorem sIx_none(n d:Nat):sIx n d none=d:=rfl
theorem sIx_nat(n d k:Nat):sIx n d (some (k:Int))=min k n:=by
 show(if (k:Int)<0 then ((k:Int)+(n:Int)).toNat else min (k:Int).toNat n)=min k n
 rw[if_neg (by omega),cy]
theorem sIx_le(n d:Nat)(hd:d<=n)(o:Option Int):sIx n d o<=n:=by
 cases o with
 |none=>exact hd
 |some v =>
  show(if v<0 then (v+(n:Int)).toNat else min v.toNat n)<=n
  by_cases i:v<0
  ·rw[if_pos i];omega
  ·rw[if_neg i];exact Nat.min_le_right _ _
theorem cZs(v:Int)(n d:Nat):(if v<0 then max (v+(n:Int)) 0 else min v (n:Int))=((sIx n d (some v):Nat):Int):=by
 show(if v<0 then max (v+(n:Int)) 0 else min v (n:Int))=(((if v<0 then (v+(n:Int)).toNat else min v.toNat n):Nat):Int)
 by_cases i:v<0
 ·simp only[if_pos i];omega
 ·simp only[if_neg i];omega
theorem cQw(lo hi:Option Int)(n:Nat):fB lo hi 1 (n:Int)=(((sIx n 0 lo:Nat):Int),((sIx n n hi:Nat):Int)):=by
 have h1:¬ ((1:Int)<0):=by omega
 unfold fB;simp only[h1,if_false];refine Prod.ext ?_ ?_
 ·cases lo with
  |none=>rfl
  |some v=>exact cZs v n 0
 ·cases hi with
  |none=>rfl
  |some v=>exact cZs v n n
theorem cQx(i j:Nat):d6 (i:Int) (j:Int) 1=j-i:=by
 unfold d6;have h1:(1:Int)>0:=by omega
 simp only[h1,if_true,Int.ediv_one]
 split <;> omega
theorem bQc{v:ad}{o:Option Int}{Q:Option Int->ah->Prop}(p:IsPart v o)(h:Q o s):aH (aE prog w) A (cx.Slice.slicePartIndex v) Q E s:=by
 cases p with
 |none=>exact slicePart_none h
 |int i t=>exact slicePart_int h
theorem sliceApplied_gen{sl:Addr}{vl vu:ad}{lo hi:Option Int}{n:Nat}{Q:Int×Int×Nat->ah->Prop}(hs:s.heap.IsSliceOf sl vl vu .none)(pl:IsPart vl lo)(pu:IsPart vu hi)
  (h:Q (((sIx n 0 lo:Nat):Int),1,sIx n n hi-sIx n 0 lo) s):aH (aE prog w) A (fk (.ref sl) (pure (n:Int))) Q E s:=by
 obtain⟨os,d,j,i⟩:=id hs;unfold fk cx.Slice.sliceFields;refine aa (aa (wpAny_field d i (x:=vl) rfl (aa (wpAny_field d i (x:=vu) rfl (aa (wpAny_field d i (x:=.none) rfl (ae ?_)))))));refine aa (slicePart_none ?_);show aH _ _ (if ((1:Int)==0)=true then _ else _) _ _ s
 rw[if_neg (by decide)]
 refine aa (bQc pl (aa (bQc pu (aa (ae ?_)))));show aH _ _ (match fB lo hi 1 (n:Int) with|(lo,hi)=>pure (lo,(1:Int),d6 lo hi 1)) _ _ s
 rw[cQw lo hi n];show aH _ _ (pure (((sIx n 0 lo:Nat):Int),(1:Int),d6 ((sIx n 0 lo:Nat):Int) ((sIx n n hi:Nat):Int) 1)) _ _ s;rw[cQx];exact ae h
theorem dQ6(xs:Array ad)(i k:Nat):((a6 k).filterMap λ(m:Nat)=>xs[((i:Int)+(m:Int)*1).toNat]?).toArray=((xs.toList.drop i).take k).toArray:=by
 have e:(λ(m:Nat)=>xs[((i:Int)+(m:Int)*1).toNat]?)=λm=>xs[i+m]?:=by
  funext m
  have:((i:Int)+(m:Int)*1).toNat=i+m:=by omega
  rw[this]
 rw[e]
 have:=pick_run xs i k
 rw[List.filterMap_map] at this;have d:((λx=>xs[x]?)∘λx=>i+x)=λm=>xs[i+m]?:=rfl;rw[d] at this;rw[this]
theorem getItem_tuple_cut{t sl:Addr}{items:Array ad}{vl vu:ad}{lo hi:Option Int}{Q:ad->ah->Prop}(ht:iB s.heap t items)(hs:s.heap.IsSliceOf sl vl vu .none)(pl:IsPart vl lo)(pu:IsPart vu hi)
  (hw:¬ (sIx items.size 0 lo=0/\sIx items.size items.size hi=items.size))
  (h:Q (.ref s.heap.objs.size) {s with heap:=s.heap.push {cls:=.type "tuple",data:=.seq ((items.toList.drop (sIx items.size 0 lo)).take (sIx items.size items.size hi-sIx items.size 0 lo)).toArray}})
  (hsz:items.size<=sizeLine):aH (aE prog w) A (iZ (.ref t) (.ref sl)) Q E s:=by
 have d:sizeOk (.seq ((items.toList.drop (sIx items.size 0 lo)).take (sIx items.size items.size hi-sIx items.size 0 lo)).toArray):=by
  show((items.toList.drop (sIx items.size 0 lo)).take (sIx items.size items.size hi-sIx items.size 0 lo)).toArray.size<=sizeLine;rw[ar,aQ,bn,aP];omega
 have L:sIx items.size items.size hi<=items.size:=sIx_le _ _ (Nat.le_refl _) hi;obtain⟨os,i,v,B⟩:=id hs;have z:s.TypeIs (.ref sl) "slice":=⟨os,i,v⟩;unfold iZ
 try with_reducible refine bu ?_
 first|refine aa (ae ?_)|skip
 refine aa (wpAny_sequenceKey ht.typeIs (by decide) ?_)
 refine aa (fO (name:=Str.ofString "__getitem__") ht.typeIs ca
  (dE ca ht.typeIs entry_tuple_getitem ?_ (args_tuple_getitem _ _)))
 show aH _ _ (gY (.ref t)>>=_) _ _ s;refine aa (tupleItemsOf_ ht ?_);refine aa (fW z ?_);rw[if_pos (by decide)]
 refine aa (sliceApplied_gen hs pl pu ?_);have j:¬ ((((sIx items.size 0 lo:Nat):Int)==0&&(1:Int)==1&&(sIx items.size items.size hi-sIx items.size 0 lo)==items.size)=true):=by
  intro q;rw[bb,bb] at q;have J:((sIx items.size 0 lo:Nat):Int)=0:=fP q.1.1;have D:sIx items.size items.size hi-sIx items.size 0 lo=items.size:=fP q.2;exact hw ⟨by omega,by omega⟩
 show aH _ _ (if (((sIx items.size 0 lo:Nat):Int)==0&&(1:Int)==1&&(sIx items.size items.size hi-sIx items.size 0 lo)==items.size)=true then _ else _) _ _ s
 rw[if_neg j,dQ6]
 first
  |exact aa (m:=b9 _) (bC (ae ⟨_,rfl,ae h⟩) d)
  |exact aa (m:=b9 _) (bC (aa (ae (ae ⟨_,rfl,ae h⟩))) d)
  |exact aa (aa (m:=b9 _) (bC (ae (ae ⟨_,rfl,ae h⟩)) d))
  |exact aa (aa (m:=b9 _) (bC (ae ⟨_,rfl,ae h⟩) d))
end
end HT
namespace L2
open PySem PySem.Spec PyProof.Rows
abbrev TO:=St->Hp->(Option Int->Hp->Prop)->Prop
def PO(X:Cx)(e:Option Expr)(t:TO):Prop :=
 ∀(pins:List (Addr×Obj)) (s:ah) (σ:St) (H:Hp) (Q:Option Int->Hp->Prop),Inv X pins σ H s->t σ H Q ->
  aH (aE X.prog X.w) X.A (evalPart e X.env) (λu s'=>∃o H',Inv X pins σ H' s'/\IsPart u o/\Q o H') X.xe s
def dXo:TO:=λ_ H Q=>Q none H
def fQu(t:TE):TO:=fun σ H Q=>t σ H λx H1=>∃i,x=.int i/\Q (some i) H1
theorem cQy{ns:List Int}:∀{us:List ad},Vals (ns.map V.int) us->gK us ns:=by
 induction ns with
 |nil=>intro us r;rw[eU] at r;cases r;exact .nil
 |cons n ns j =>
  intro us r;rw[bz] at r;cases r with
  |cons i d =>
   obtain⟨t,e⟩:=i;subst e;exact .cons n t (j d)
section
variable{X:Cx}{e:Expr}{te:TE}{lo hi:Option Expr}{tl th:TO}{pos p2:Pos}
theorem dXp:PO X none dXo:=by
 intro pins s σ H Q I h;rw[evalPart_none];exact ae ⟨none,H,I,.none,h⟩
theorem dXq(h:PE X e te):PO X (some e) (fQu te):=by
 intro pins s σ H Q I hw;rw[evalPart_some];refine thn (h pins s σ H _ I hw) λu s1 ⟨x,H1,v,d,j⟩=>?_;obtain⟨i,rfl,q⟩:=j;obtain⟨t,rfl⟩:=d;exact⟨some i,H1,v,.int i t,q⟩
def SlR(X:Cx)(r:V->Option Int->Option Int->Hp->VK->Prop):Prop :=
 ∀(pins:List (Addr×Obj)) (s:ah) (σ:St) (H:Hp) (x:V) (v vl vu:ad) (lo hi:Option Int) (sl:Addr) (Q:VK),Inv X pins σ H s->RelV x v->s.heap.IsSliceOf sl vl vu .none->IsPart vl lo->IsPart vu hi->r x lo hi H Q ->
  ∃T id,typeLookup (.type T) "__getitem__"=pure (some (.builtin id))/\s.TypeIs v T/\aH (aE X.prog X.w) X.A (iZ v (.ref sl)) (EP X pins σ Q) X.xe s
theorem SlR.or{r r':V->Option Int->Option Int->Hp->VK->Prop}(h:SlR X r)(h':SlR X r'):SlR X (λx lo hi H Q=>r x lo hi H Q\/r' x lo hi H Q):=by
 intro pins s σ H x v i d lo hi sl Q I j z pl pu q;rcases q with q|q
 ·exact h pins s σ H x v i d lo hi sl Q I j z pl pu q
 ·exact h' pins s σ H x v i d lo hi sl Q I j z pl pu q
def tSl(r:V->Option Int->Option Int->Hp->VK->Prop)(te:TE)(tl th:TO):TE:=fun σ H Q=>te σ H λx H1=>tl σ H1 λl H2=>th σ H2 λu H3=>r x l u H3 Q
theorem dQ7{r:V->Option Int->Option Int->Hp->VK->Prop}(hr:SlR X r)(he:PE X e te)(hl:PO X lo tl)(hu:PO X hi th):PE X (.Subscript e (.Slice lo hi none p2) pos) (tSl r te tl th):=by
 intro pins s σ H Q I h;refine Subscript_ (thn (he pins s σ H _ I h) λv s1 ⟨x,H1,I1,z,J⟩=>?_);refine wpAny_Slice (thn (hl pins s1 σ H1 _ I1 J) λi s2 ⟨l,H2,Z,pl,D⟩=>thn (hu pins s2 σ H2 _ Z D) λd s3 ⟨u,j,Y,pu,B⟩=>?_);rw[evalPart_none];refine ae ?_;have U:Inv X pins σ j {s3 with heap:=s3.heap.push {cls:=.type "slice",data:=.fields #[i,d,.none]}}:=Y.kept (t':=s3.toks) λb ob q=>af _ q
 obtain⟨T,id,O,L,N⟩:=hr pins {s3 with heap:=s3.heap.push {cls:=.type "slice",data:=.fields #[i,d,.none]}} σ j x v i d l u s3.heap.objs.size Q U z (bj.IsSliceOf.new ..) pl pu B;show aH (aE X.prog X.w) X.A (subscriptTail e (.Slice lo hi none p2) v (.ref s3.heap.objs.size)) (EP X pins σ Q) X.xe {s3 with heap:=s3.heap.push {cls:=.type "slice",data:=.fields #[i,d,.none]}}
 exact tail_any (ops:=[.ref s3.heap.objs.size,v]) L O N (by with_unfolding_all rfl)
def cutV(xs:List V)(lo hi:Option Int):List V:=(xs.drop (HT.sIx xs.length 0 lo)).take (HT.sIx xs.length xs.length hi-HT.sIx xs.length 0 lo)
theorem aJl(xs:List V)(lo hi:Option Int):(cutV xs lo hi).length<=xs.length:=by
 unfold cutV;rw[aQ,bn];omega
def rSlT(K:av):V->Option Int->Option Int->Hp->VK->Prop:=λx lo hi H Q=>∃a xs,x=.ref a/\SqT K H a xs /\
 ¬ (HT.sIx xs.length 0 lo=0/\HT.sIx xs.length xs.length hi=xs.length)/\∀p,H p=none->Q (.ref p) (upd H p (.tup (cutV xs lo hi)))
theorem eX5:SlR X (rSlT X.K):=by
 intro pins s σ H x v D B lo hi sl Q I rx z pl pu h;obtain⟨a,xs,rfl,j,hw,q⟩:=h;cases rx;obtain⟨its,r,i,d⟩:=I.tuple j;have hlen:its.toArray.size=xs.length:=by rw[ar];exact r.length.symm
 refine⟨"tuple",_,ca.lookup,i.typeIs,?_⟩;refine HT.getItem_tuple_cut i z pl pu (by rw[hlen];exact hw) ?_ (by rw[hlen];exact d)
 rw[hlen];refine⟨.ref s.heap.objs.size,_,I.laid (t':=s.toks) (o:=.tup (cutV xs lo hi)) (λb J q=>af _ q) (Nat.le_refl _) ?_,rfl,q _ (I.hok.fresh (Nat.le_refl _))⟩;exact⟨Nat.le_trans (aJl xs lo hi) d,_,(r.drop (HT.sIx xs.length 0 lo)).take (HT.sIx xs.length xs.length hi-HT.sIx xs.length 0 lo),iB.new _ _,bJr⟩
def dXr(K:av):R2:=λx y H Q=>∃a b xs ys,x=.ref a/\y=.ref b/\SqT K H a xs/\SqT K H b ys/\xs≠[]/\xs.length+ys.length<=sizeLine /\
 (ys=[]->Q (.ref a) H)/\(ys≠[]->∀p,H p=none->Q (.ref p) (upd H p (.tup (xs++ys))))
theorem Vals.nil_iff{xs:List V}{us:List ad}(r:Vals xs us):us=[]↔xs=[]:=by
 cases r with
 |nil=>simp
 |cons _ _=>simp
theorem dXs:OpR X (eg .Add) (dXr X.K):=by
 intro pins s σ H x y v u Q I rx ry h;obtain⟨a,b,xs,ys,rfl,rfl,U,O,N,B,J,D⟩:=h;cases rx;cases ry;obtain⟨its,i,L,_⟩:=I.tuple U;obtain⟨j,d,p2,_⟩:=I.tuple O;refine HT.cat_tup L p2 (λz=>N (i.nil_iff.mp z)) (λz=>⟨.ref a,H,I,rfl,J (d.nil_iff.mp z)⟩) (λz=>?_) (by rw[<- i.length,<- d.length];exact B)
 refine⟨.ref s.heap.objs.size,_,I.laid (t':=s.toks) (o:=.tup (xs++ys)) (λb Y q=>af _ q) (Nat.le_refl _) ?_,rfl,D (λw=>z (d.nil_iff.mpr w)) _ (I.hok.fresh (Nat.le_refl _))⟩;exact⟨by rw[aG];exact B,_,i.append d,iB.new _ _,bJr⟩
end
def ixN(n:Nat)(i:Int):Option Nat:=if 0<=i then (if i<n then some i.toNat else none) else if -(n:Int)<=i then some (i+n).toNat else none
def atI{α:Type}(xs:List α)(i:Int):Option α:=(ixN xs.length i).bind λj=>xs[j]?
theorem bXp{n:Nat}{i:Int}{j:Nat}(h:ixN n i=some j):seqIndex? i n=some j/\j<n/\-(n:Int)<=i/\i<n:=by
 unfold ixN at h
 by_cases h0:0<=i
 ·rw[if_pos h0] at h
  by_cases h1:i<n
  ·rw[if_pos h1] at h;have e:i.toNat=j:=aS h;exact⟨by rw[seqIndex_of h0 h1,e],by omega,by omega,h1⟩
  ·rw[if_neg h1] at h;cases h
 ·rw[if_neg h0] at h
  by_cases h1:-(n:Int)<=i
  ·rw[if_pos h1] at h;have e:(i+n).toNat=j:=aS h;exact⟨by rw[seqIndex_neg (by omega) h1,e],by omega,h1,by omega⟩
  ·rw[if_neg h1] at h;cases h
theorem bXq{α:Type}{xs:List α}{i:Int}{v:α}(h:atI xs i=some v):∃j,seqIndex? i xs.length=some j/\xs[j]?=some v/\j<xs.length/\-(xs.length:Int)<=i/\i<xs.length:=by
 unfold atI at h;cases e:ixN xs.length i with
 |none=>rw[e] at h;cases h
 |some j =>
  rw[e] at h;obtain⟨h1,h2,z,d⟩:=bXp e;exact⟨j,h1,h,h2,z,d⟩
theorem aZe{α:Type}{xs:List α}{j:Nat}{v:α}(h:xs[j]?=some v):atI xs (j:Int)=some v:=by
 have d:j<xs.length:=(aA.mp h).1;have e:ixN xs.length (j:Int)=some j:=by
  unfold ixN;rw[if_pos (by omega),if_pos (by omega)];simp
 unfold atI;rw[e];exact h
def PlainIx(b:Expr):Prop:=∀o i,subscripted b false o i=operate [o,i] (iZ o i)
def IxR(X:Cx)(r:R2):Prop :=
 ∀(value slice:Expr) (pins:List (Addr×Obj)) (s:ah) (σ:St) (H:Hp) (x y:V) (v u:ad) (Q:VK),Inv X pins σ H s->RelV x v->RelV y u->r x y H Q ->
  subscripted slice false v u=operate [v,u] (iZ v u)->aH (aE X.prog X.w) X.A (subscriptTail value slice v u) (EP X pins σ Q) X.xe s
def MtR(X:Cx)(id:String)(r:V->List V->Hp->VK->Prop):Prop :=
 ∀(pins:List (Addr×Obj)) (s:ah) (σ:St) (H:Hp) (x:V) (xs:List V) (v:ad) (us:List ad) (Q:VK),Inv X pins σ H s->RelV x v->Vals xs us->r x xs H Q ->
  aH (aE X.prog X.w) X.A (call (.builtin id) (v::us)) (EP X pins σ Q) X.xe s
section
variable{X:Cx}{a b:Expr}{ta tb:TE}{pos:Pos}
theorem IxR.or{r r':R2}(h:IxR X r)(h':IxR X r'):IxR X (λx y H Q=>r x y H Q\/r' x y H Q):=by
 intro value slice pins s σ H x y v u Q I i d q j;rcases q with q|q
 ·exact h value slice pins s σ H x y v u Q I i d q j
 ·exact h' value slice pins s σ H x y v u Q I i d q j
theorem pe_ix{r:R2}(hr:IxR X r)(ha:PE X a ta)(hb:PE X b tb)(hs:PlainIx b):PE X (.Subscript a b pos) (tOp r ta tb):=by
 intro pins s σ H Q I h;exact Subscript_ (binT ha hb I h λv u s2 x y H2 j i d q=>hr a b pins s2 σ H2 x y v u Q j i d q (hs _ _))
def rIxL(K:av):R2:=λx y H Q=>∃p xs i v,x=.ref p/\y=.int i/\SqL K H p xs/\atI xs i=some v/\Q v H
def rIxT(K:av):R2:=λx y H Q=>∃p xs i v,x=.ref p/\y=.int i/\SqT K H p xs/\atI xs i=some v/\Q v H
def rIxS:R2:=λx y H Q=>∃z i c,x=.str z/\y=.int i/\z.length<=sizeLine/\atI z.cps.toList i=some c/\Q (.str ⟨#[c]⟩) H
theorem ix_list:IxR X (rIxL X.K):=by
 intro value slice pins s σ H x y v u Q I rx L h D;obtain⟨p,xs,i,z,rfl,rfl,N,he,q⟩:=h;cases rx;obtain⟨t,rfl⟩:=L;obtain⟨its,r,pl,Z⟩:=I.list N;obtain⟨j,h1,h2,h3,Y,U⟩:=bXq he;obtain⟨w,J,d⟩:=r.get h2;have O:=r.length;have hn:=aJk;have fin:EP X pins σ Q w s:=⟨z,H,I,d,q⟩
 by_cases h0:0<=i
 ·have B:i.toNat=j:=by
   rw[seqIndex_of h0 U] at h1;exact aS h1
  exact item_listR pl.isList h0 (by omega) (by rw[B];simpa using J) fin D
 ·have B:(i+(its.toArray.size:Int)).toNat=j:=by
   rw[seqIndex_neg (by omega) Y] at h1
   rw[ar,<- O];exact aS h1
  exact subscriptTail_builtinR (x:=w) pl.isList.typeIs slot_list_getitem.lookup
   (wpAny_getItem_list_neg (Q:=λr s'=>r=w/\EP X pins σ Q r s') pl.isList (by omega) (by rw[ar] <;> omega) (by omega) (by rw[B];simpa using J) ⟨rfl,fin⟩) D
theorem ix_tup:IxR X (rIxT X.K):=by
 intro value slice pins s σ H x y v u Q I rx B h D;obtain⟨p,xs,i,z,rfl,rfl,J,he,q⟩:=h;cases rx;obtain⟨t,rfl⟩:=B;obtain⟨its,r,pl,O⟩:=I.tuple J;obtain⟨j,h1,h2,h3,Z,Y⟩:=bXq he;obtain⟨w,N,d⟩:=r.get h2;have L:=r.length;have U:=aJk;have fin:EP X pins σ Q w s:=⟨z,H,I,d,q⟩;exact subscriptTail_builtinR (x:=w) pl.typeIs slot_tuple_getitem.lookup
  (getItem_tuple (j:=j) (Q:=λr s'=>r=w/\EP X pins σ Q r s') pl (by omega) (by omega) (by rw[ar,<- L];exact h1) (by simpa using N) ⟨rfl,fin⟩) D
theorem eX6:IxR X rIxS:=by
 intro value slice pins s σ H x y v u Q I B d h D;obtain⟨z,i,c,rfl,rfl,Z,he,q⟩:=h;obtain⟨t,rfl⟩:=B;obtain⟨Y,rfl⟩:=d;obtain⟨j,h1,h2,h3,N,L⟩:=bXq he;have J:z.cps.toList.length=z.length:=by simp[Str.length]
 rw[J] at h1 N L;have hn:=aJk;exact tail_any (typeIs_str s z t) slot_str_getitem.lookup (getItem_str (c:=c) (by
  have U:decide (i < -(2^63:Int))=false:=decide_eq_false (by omega)
  have O:decide (i>=2^63)=false:=decide_eq_false (by omega)
  rw[U,O,Bool.or_false]) (by rw[h1];simpa using h2) ⟨.str ⟨#[c]⟩,H,I.tok _,⟨_,rfl⟩,q⟩) D
def rIx(K:av):R2:=λx y H Q=>rIxL K x y H Q\/rIxT K x y H Q\/rIxS x y H Q
theorem eX7:IxR X (rIx X.K):=ix_list.or (ix_tup.or eX6)
theorem cQz(its:List ad)(n j:Nat)(u:ad):bI (·.setIfInBounds j u) {cls:=.type "list",data:=.seq its.toArray n}={cls:=.type "list",data:=.seq (its.set j u).toArray n}:=by
 simp[bI]
theorem Inv.lst{pins:List (Addr×Obj)}{σ:St}{H:Hp}{s:ah}{p:Addr}{xs:List V}(I:Inv X pins σ H s)(h:H p=some (.lst xs)) :
  ∃(its:List ad) (n:Nat),Vals xs its/\s.heap.get? p=some {cls:=.type "list",data:=.seq its.toArray n}/\xs.length<=sizeLine:=by
 obtain⟨z,its,n,r,e⟩:=I.hok p _ h;exact⟨its,n,r,e,z⟩
theorem Inv.lstUpd{pins:List (Addr×Obj)}{σ:St}{H:Hp}{s:ah}{p:Addr}{xs ys:List V}{its its':List ad}{n n':Nat}{f:Obj->Obj}(I:Inv X pins σ H s)(h:H p=some (.lst xs))
  (ho:s.heap.get? p=some {cls:=.type "list",data:=.seq its.toArray n}) (hf:f {cls:=.type "list",data:=.seq its.toArray n}={cls:=.type "list",data:=.seq its'.toArray n'}) (r:Vals ys its') (hz:ys.length<=sizeLine) (t:Nat) :
  Inv X pins σ (upd H p (.lst ys)) {s with heap:=s.heap.update p f,toks:=t}:=by
 have e:(s.heap.update p f).get? p=some {cls:=.type "list",data:=.seq its'.toArray n'}:=by
  rw[cw f ho (by rw[hf] <;> rfl),hf]
 refine I.write (x:=p) (e:=p) (by rw[h];trivial) (.inl rfl) (λb u d q=>(bo _ _ (cY d)).trans q) ⟨_,e⟩ ?_
 exact⟨hz,its',n',r,e⟩
def fQv:V->V->V->Hp->(Hp->Prop)->Prop:=λo i v H Q=>∃p xs k j,o=.ref p/\i=.int k/\H p=some (.lst xs)/\ixN xs.length k=some j/\Q (upd H p (.lst (xs.set j v)))
theorem dQ8:PSet X fQv:=by
 intro pins s σ H o i v ov iv u Q I ro U O h;obtain⟨p,xs,k,j,rfl,rfl,D,Z,q⟩:=h;cases ro;obtain⟨t,rfl⟩:=U;obtain⟨its,n,r,d,Y⟩:=I.lst D;obtain⟨h1,h2,L,J⟩:=bXp Z;have z:=r.length;have hn:=aJk;have N:Inv X pins σ (upd H p (.lst (xs.set j v))) {s with heap:=s.heap.update p (bI (·.setIfInBounds j u))} :=
  I.lstUpd D d (cQz its n j u) (r.set O j) (by rw[List.length_set];exact Y) s.toks
 by_cases h0:0<=k
 ·have B:k.toNat=j:=by
   rw[seqIndex_of h0 J] at h1;exact aS h1
  exact PySem.W.ki_setAt d h0 (by omega) (by rw[ar,<- z];exact J) (by rw[B];exact⟨_,N,q⟩)
 ·have B:(k+(its.toArray.size:Int)).toNat=j:=by
   rw[seqIndex_neg (by omega) L] at h1
   rw[ar,<- z];exact aS h1
  exact PySem.W.ki_setBack d (by omega) (by rw[ar,<- z];exact L) (by omega) (by rw[B];exact⟨_,N,q⟩)
theorem aXy(lo hi:Option Int)(n:Nat):(eP lo hi none n).1=((HT.sIx n 0 lo:Nat):Int)/\(eP lo hi none n).2.1=((HT.sIx n n hi:Nat):Int)/\(eP lo hi none n).2.2=1:=by
 refine⟨?_,?_,rfl⟩
 ·cases lo with
  |none=>simp[eP,HT.sIx]
  |some i =>
   simp only[eP,HT.sIx,iF,show(1:Int)>0 by decide,if_true]
   by_cases h:i<0
   ·simp only[h,if_true] <;> omega
   ·simp only[h,if_false] <;> omega
 ·cases hi with
  |none=>simp[eP,HT.sIx]
  |some i =>
   simp only[eP,HT.sIx,iF,show(1:Int)>0 by decide,if_true]
   by_cases h:i<0
   ·simp only[h,if_true] <;> omega
   ·simp only[h,if_false] <;> omega
theorem bQt(its:List ad)(lo hi:Option Int):slicePick its.toArray lo hi none=((its.drop (HT.sIx its.length 0 lo)).take (HT.sIx its.length its.length hi-HT.sIx its.length 0 lo)).toArray:=by
 obtain⟨h1,h2,d⟩:=aXy lo hi its.toArray.size;unfold slicePick;rw[h1,h2,d];simp only[sliceRange_one,pick_run,ar] <;> rfl
def rSlL(K:av):V->Option Int->Option Int->Hp->VK->Prop:=λx lo hi H Q=>∃a xs,x=.ref a/\SqL K H a xs/\∀p,H p=none->Q (.ref p) (upd H p (.lst (cutV xs lo hi)))
theorem dXt:SlR X (rSlL X.K):=by
 intro pins s σ H x v D B lo hi sl Q I rx z pl pu h;obtain⟨a,xs,rfl,j,q⟩:=h;cases rx;obtain⟨its,r,d,i⟩:=I.list j;have hlen:=r.length;refine⟨"list",_,slot_list_getitem.lookup,d.isList.typeIs,?_⟩;refine wpAny_getItem_list_slice d.isList z pl pu .none (by simp) ?_ (by rw[ar] <;> omega)
 rw[bQt,<- hlen];refine⟨.ref s.heap.objs.size,_,I.laid (t':=s.toks) (o:=.lst (cutV xs lo hi)) (λb J q=>af _ q) (Nat.le_refl _) ?_,rfl,q _ (I.hok.fresh (Nat.le_refl _))⟩;exact⟨Nat.le_trans (aJl xs lo hi) i,_,0,(r.drop (HT.sIx xs.length 0 lo)).take (HT.sIx xs.length xs.length hi-HT.sIx xs.length 0 lo),az _ rfl⟩
theorem CallR.or{f:ad}{r r':List V->Hp->VK->Prop}(h:CallR X f r)(h':CallR X f r'):CallR X f (λxs H Q=>r xs H Q\/r' xs H Q):=by
 intro pins s σ H xs us Q I rs q;rcases q with q|q
 ·exact h pins s σ H xs us Q I rs q
 ·exact h' pins s σ H xs us Q I rs q
theorem call_list_of:CallR X (.type "list") (λxs H Q=>∃p ys,xs=[.ref p]/\(SqL X.K H p ys\/SqT X.K H p ys)/\∀l,H l=none->Q (.ref l) (upd H l (.lst ys))):=by
 intro pins s σ H xs us Q I r h;obtain⟨p,ys,rfl,v,q⟩:=h;obtain⟨u,rfl,rx⟩:=aXc r;cases rx;have fin:∀(its:List ad),Vals ys its->ys.length<=sizeLine->∀(h':bj) (i:Nat),(∀b o',s.heap.get? b=some o'->h'.get? b=some o') ->
   h'.get? s.heap.objs.size=some {cls:=.type "list",dict:=none,data:=.seq its.toArray i,slots:=#[]}->EP X pins σ Q (.ref s.heap.objs.size) {s with heap:=h'}:=λits d j h' i kp e =>
  ⟨.ref s.heap.objs.size,_,I.laid (t':=s.toks) kp (Nat.le_refl _) (show ObjOk X.prog X.w _ h' _ (.lst ys) from⟨j,its,i,d,e⟩),rfl,q _ (I.hok.fresh (Nat.le_refl _))⟩
 rcases v with v|v
 ·obtain⟨its,d,pl,j⟩:=I.list v;have hlen:=d.length;obtain⟨o,z,B,n,hd⟩:=pl.isList;exact call_list_seq p (.inl rfl) z B hd (λh' i kp e=>fin its d j h' i kp e) (by simp only[ar] <;> omega)
 ·obtain⟨its,d,pl,j⟩:=I.tuple v;have hlen:=d.length;obtain⟨o,z,B,n,hd⟩:=pl;exact call_list_seq p (.inr rfl) z B hd (λh' i kp e=>fin its d j h' i kp e) (by simp only[ar] <;> omega)
theorem bQu:CallR X (.type "tuple") (λxs H Q=>∃p ys,xs=[.ref p]/\((SqL X.K H p ys/\∀l,H l=none->Q (.ref l) (upd H l (.tup ys)))\/(SqT X.K H p ys/\Q (.ref p) H))):=by
 intro pins s σ H xs us Q I r h;obtain⟨p,ys,rfl,h⟩:=h;obtain⟨u,rfl,rx⟩:=aXc r;cases rx;rcases h with⟨i,q⟩|⟨i,q⟩
 ·obtain⟨its,d,pl,j⟩:=I.list i;have hlen:=d.length;refine call_tuple_list pl.isList (λh' kp=>?_) (by simp only[ar] <;> omega)
  have v:Inv X pins σ H {s with heap:=h'}:=I.kept (t':=s.toks) kp
  have z:Inv X pins σ (upd H h'.objs.size (.tup ys)) {s with heap:=h'.push {cls:=.type "tuple",data:=.seq its.toArray}} :=
   v.laid (t':=s.toks) (λb o e=>af _ e) (Nat.le_refl _) (show ObjOk X.prog X.w _ _ _ (.tup ys) from⟨j,its,d,iB.new _ _,bJr⟩)
  exact⟨.ref h'.objs.size,_,z,rfl,q _ (v.hok.fresh (Nat.le_refl _))⟩
 ·obtain⟨its,d,pl,j⟩:=I.tuple i;exact call_tuple_same pl ⟨.ref p,H,I,rfl,q⟩
def tyV(K:av)(T:String)(x:V)(H:Hp):Prop:=match x with
 |.str _=>T="str"
 |.int _=>T="int"
 |.ref p=>(T="list"/\∃xs,SqL K H p xs)\/(T="tuple"/\∃o,K.lookup p=some o/\o.cls=.type "tuple"/\o.dict=none) \/
   (T="dict"/\((∃kvs,H p=some (.dK kvs))\/∃kvs,H p=some (.dT kvs)))\/(T="set"/\∃S n,H p=some (.set S n))
 |_=>False
theorem eX8{pins:List (Addr×Obj)}{σ:St}{H:Hp}{s:ah}{T:String}{x:V}{v:ad}(I:Inv X pins σ H s)(r:RelV x v)(ty:tyV X.K T x H) :
  s.TypeIs v T/\∀a,v=.ref a->∃ob,s.heap.get? a=some ob/\ob.dict=none:=by
 cases x with
 |str z =>
  obtain⟨t,rfl⟩:=r;cases (show T="str" from ty)
  exact⟨typeIs_str s z t,λ_ e=>nomatch e⟩
 |int i =>
  obtain⟨t,rfl⟩:=r;cases (show T="int" from ty)
  exact⟨typeIs_int s i t,λ_ e=>nomatch e⟩
 |ref p =>
  cases r;rcases ty with⟨rfl,xs,B⟩|⟨rfl,o,d,D,hd⟩|⟨rfl,d⟩|⟨rfl,S,n,d⟩
  ·obtain⟨its,_,pl,_⟩:=I.list B;refine⟨pl.isList.typeIs,λa e=>?_⟩;cases e;obtain⟨o,n,e,c,hd,_⟩:=pl;exact⟨o,e,hd⟩
  ·refine⟨⟨o,I.kIn p o d,D⟩,λa e=>?_⟩;cases e;exact⟨o,I.kIn _ o d,hd⟩
  ·have z:∃o,s.heap.get? p=some o/\o.ExactDict:=by
    rcases d with⟨j,d⟩|⟨j,d⟩
    ·obtain⟨_,_,_,_,o,_,_,e,ex,_⟩:=I.hok p _ d;exact⟨o,e,ex⟩
    ·obtain⟨_,_,_,_,o,_,_,e,ex,_⟩:=I.hok p _ d;exact⟨o,e,ex⟩
   obtain⟨o,e,ex⟩:=z;refine⟨⟨o,e,ex.1⟩,λa e2=>?_⟩;cases e2;exact⟨o,e,ex.2.1⟩
  ·obtain⟨o,_,_,_,e,ex,_⟩:=I.hok p _ d;refine⟨⟨o,e,ex.1⟩,λa e2=>?_⟩;cases e2;exact⟨o,e,ex.2.1⟩
 |_=>exact c6 ty
def tBM(K:av)(T:String)(r:V->List V->Hp->VK->Prop)(to:TE)(t:TA):TE:=fun σ H Q=>to σ H λx H1=>tyV K T x H1/\t σ H1 λxs H2=>r x xs H2 Q
variable{o e:Expr}{es:List Expr}{to:TE}{t:TA}{name:Str}{apos cpos:Pos}{T id:String}{r:V->List V->Hp->VK->Prop}
theorem fQw(pa:PlainAttrs T)(slot:Slot T name id)(hty:typeOf (.builtin id)=pure (.type "method_descriptor"))(hm:MtR X id r)(ho:PE X o to)(ha:PA X (e::es) t)
  (hbase:ir o name X.env (eval o X.env)=eval o X.env:=by rfl)
  (hfew:((cD cpos (aC (e::es) X.env)).all (λx=>!x.1) && (jj cpos (gA [] X.env)).all (λx=>x.1.isSome)
   && decide ((e::es).length+([]:List i6).length+(if ([]:List i6).isEmpty then 0 else 1)<30))=true:=by rfl)
  (hline:(apos.endLine==cpos.line)=true:=by rfl) (hs:aC (e::es) X.env=(false,eval e X.env)::aC es X.env:=by rfl) (hplain:(cD cpos (aC es X.env)).any (·.1)=false:=by rfl) :
  PE X (.Call (.Attribute o name apos) (e::es) [] cpos) (tBM X.K T r to t):=by
 intro pins s σ H Q I h;refine wpAny_Call_method_late hbase hfew hline rfl (thn (ho pins s σ H _ I h) λv s1 ⟨x,H1,j,d,ty,J⟩=>?_);obtain⟨h1,h2⟩:=eX8 j d ty;refine⟨T,id,pa,slot,hty,h1,h2,?_⟩;have i:=ha cpos pins s1 σ H1 _ j J;rw[hs] at i ⊢;refine Calls.callWith_builtin (by show(false||(cD cpos (aC es X.env)).any (·.1))=false;rw[hplain] <;> rfl) (Calls.evalArgs_plain ?_)
 exact thn i λus s2 ⟨z,H2,L,B,D⟩=>hm pins s2 σ H2 x z v us Q L d B D
end
def MtM(X:Cx)(id:String)(r:V->List V->Hp->VK->Prop):Prop :=
 ∀(pins:List (Addr×Obj)) (s:ah) (σ:St) (H:Hp) (x:V) (xs:List V) (v:ad) (us:List ad) (Q:VK),Inv X pins σ H s->RelV x v->Vals xs us->r x xs H Q ->
  aH (aE X.prog X.w) X.A (call (.builtin id) (v::us)) (EP X pins σ Q) X.xe s
theorem Vals.one:∀{x:V}{us:List ad},Vals [x] us->∃u,us=[u]/\RelV x u:=by
 intro x us h;cases h with
 |cons r t=>cases t;exact⟨_,rfl,r⟩
theorem Vals.eraseIdx:∀{xs:List V}{us:List ad}(i:Nat),Vals xs us->Vals (xs.eraseIdx i) (us.eraseIdx i)
 |_,_,_,.nil=>.nil
 |_,_,0,.cons _ t=>t
 |_,_,i+1,.cons r t=>.cons r (Vals.eraseIdx i t)
theorem bZw{α:Type}:∀(l:List α) (i:Nat),(l.eraseIdx i).length<=l.length
 |[],_=>Nat.le_refl _
 |_::_,0=>Nat.le_succ _
 |_::r,i+1=>Nat.succ_le_succ (bZw r i)
section
variable{X:Cx}{pins:List (Addr×Obj)}{σ:St}{H:Hp}{s:ah}{l b:Addr}{xs ys zs:List V}
theorem Inv.lset{its its':List ad}{n:Nat}{f:Array ad->Array ad}{t':Nat}(I:Inv X pins σ H s)(hH:H l=some (.lst xs))
  (e:s.heap.get? l=some {cls:=.type "list",data:=.seq its.toArray n}) (hf:f its.toArray=its'.toArray) (hv:Vals ys its') (hz:ys.length<=sizeLine) :
  Inv X pins σ (upd H l (.lst ys)) {s with heap:=s.heap.update l (bI f),toks:=t'}:=by
 have q:=PySem.IsL.update e f;rw[hf] at q;refine I.write (x:=l) (e:=l) (by rw[hH];exact trivial) (.inl rfl) (λj u i d=>(bo s.heap (bI f) (cY i)).trans d) ⟨_,q⟩ ?_
 exact⟨hz,its',_,hv,q⟩
theorem Inv.lnew{its:List ad}{t':Nat}(I:Inv X pins σ H s)(hv:Vals ys its)(hz:ys.length<=sizeLine) :
  Inv X pins σ (upd H s.heap.objs.size (.lst ys)) {s with heap:=s.heap.push {cls:=.type "list",data:=.seq its.toArray},toks:=t'} :=
 I.laid (λ_ _ q=>af _ q) (Nat.le_refl _) ⟨hz,its,0,hv,az _ rfl⟩
theorem Inv.fresh(I:Inv X pins σ H s):H s.heap.objs.size=none:=I.hok.fresh (Nat.le_refl _)
theorem Inv.lstM(I:Inv X pins σ H s)(hH:H l=some (.lst xs)):xs.length<=sizeLine/\∃(its:List ad) (n:Nat),Vals xs its/\xs.length=its.length/\s.heap.get? l=some {cls:=.type "list",data:=.seq its.toArray n}:=by
 obtain⟨z,its,n,r,e⟩:=I.hok l _ hH;exact⟨z,its,n,r,r.length,e⟩
end
section
variable{X:Cx}
def cZt:V->List V->Hp->VK->Prop:=λx vs H Q=>∃l xs y,x=.ref l/\vs=[y]/\H l=some (.lst xs)/\xs.length<sizeLine/\Q .non (upd H l (.lst (xs++[y])))
theorem bZx:MtM X "list.append" cZt:=by
 intro pins s σ H x B v us Q I rx i h;obtain⟨l,xs,y,rfl,rfl,d,D,q⟩:=h;cases rx;obtain⟨u,rfl,j⟩:=i.one;obtain⟨z,its,n,r,J,e⟩:=I.lstM d;refine call_meets F.slot_list_append ⟨_,e,rfl⟩ F.entry_list_append (F.args_list_append_2 _ _) (PySem.list_append l its.toArray n u (by rw[ar];omega)) ⟨e,?_⟩
 refine⟨.non,_,I.lset (its':=its++[u]) d e (by simp) (r.append (.cons j .nil)) ?_,rfl,q⟩
 rw[aG,d3];omega
def dZl:V->List V->Hp->VK->Prop:=λx vs H Q=>∃l xs i k y,x=.ref l/\vs=[.int i]/\H l=some (.lst xs)/\-(2^63)<=i/\i<2^63/\seqIndex? i xs.length=some k/\xs[k]?=some y/\Q y (upd H l (.lst (xs.eraseIdx k)))
theorem dQ9:MtM X "list.pop" dZl:=by
 intro pins s σ H x O v us Q I rx B h;obtain⟨l,xs,i,k,y,rfl,rfl,j,h1,h2,N,J,q⟩:=h;cases rx;obtain⟨u,rfl,D⟩:=B.one;obtain⟨t,rfl⟩:=D;obtain⟨z,its,n,r,L,e⟩:=I.lstM j;obtain⟨w,hw,d⟩:=r.get J;refine call_meets F.slot_list_pop ⟨_,e,rfl⟩ F.entry_list_pop (F.args_list_pop_2 _ _)
  (MeetsSeq.list_pop_at l its.toArray n i t k w (fitsIndex_both h1 h2) (by rw[ar,<- L];exact N) (by rw[<- aN];exact hw) (by rw[ar];omega)) ⟨e,?_⟩
 refine⟨y,_,I.lset (its':=its.eraseIdx k) j e ?_ (r.eraseIdx k) ?_,d,q⟩
 ·show its.toArray.eraseIdxIfInBounds k=(its.eraseIdx k).toArray;rw[List.eraseIdxIfInBounds_toArray]
 ·have:=bZw xs k
  omega
end
section
variable{prog:aF}{w:aR}{A:a8}{E:ad->ah->Prop}{s:ah}
set_option maxRecDepth 100000 in
end
end L2
namespace Att
open PySem PySem.W PySem.Calls PyProof.Rows
theorem aJm{P:Params}{h:bj}:∀(ns:List Int) (vs:List ad),WellAll P h vs (ns.map WData.int)->gK vs ns:=by
 intro ns
 induction ns with
 |nil =>
  intro vs w;rw[eU] at w;cases w;exact .nil
 |cons n ns d =>
  intro vs w;rw[bz] at w;cases w with
  |cons a b =>
   cases a;exact .cons _ _ (d _ b)
theorem cZu{l:OpenLaw}{n:Nat}(hn:l.most=some n){P:Params}{h:bj}{args:List WData}{vals:List ad}
  (hpre:l.row.toRowW.claim.pre args=true) (hwl:WellAll P h vals args) :
  ∃a vs ns,vals=[jt a]/\args=[WData.list (ns.map WData.int)]/\h.get? a=some {cls:=.type "list",data:=.seq vs.toArray}/\gK vs ns/\ns.length<=n:=by
 have z:WShape.hasAll [] args [.list .int]=true:=(pre_splitW hpre).1;have B:l.pre.holds [] {args:=args}=true:=(pre_splitW hpre).2;obtain⟨d,r,rfl,h1,h2⟩:=hasAllW_cons z;obtain rfl:=hasAllW_nil h2;obtain⟨xs,rfl,L⟩:=hasW_list h1;obtain⟨ns,rfl⟩:=items_int L;have hlen:ns.length<=n:=by
  unfold OpenLaw.pre at B;have v:(WTm.not (.lt (.lit (.int (n:Int))) (.len (.arg 0)))).holds [] {args:=[.list (ns.map .int)]}=true:=by
   have v:=(holds_andW B).1;rw[hn] at v;exact v
  have j:=condW_of v (w_not (w_lt w_lit (w_len_list (w_arg rfl))));rw[am] at j;refine Nat.le_of_not_lt λq=>?_;have D:(n:Int)<((ns.length:Nat):Int):=by omega
  first
   |(rw[decide_eq_true D] at j;exact absurd j (by decide))
   |(simp at j;omega)
 cases hwl with
 |cons w1 w2 =>
  cases w2;cases w1 with
  |list J i=>exact⟨_,_,ns,rfl,rfl,J,aJm ns _ i,hlen⟩
theorem cZv(l:OpenLaw)(args:List WData):l.row.toRowW.claim.post args (.bool true) args=true :=
 postW_of (r:=l.row.toRowW) (X:=(true==true))
  (show WShape.has [] (.bool true) .bool=true by first|rfl|decide|simp[WShape.has,WShape.arms,WShape.armsAll])
  (show(WTm.eq .res (.lit (.bool true))).value [] {args:=args,res:=some (.bool true),after:=args}=some (.bool (true==true)) from w_eq_bool (w_res rfl) w_lit) rfl
theorem attach_call{l:OpenLaw}{n:Nat}{q:aF}{loose:List Str}{XP:(Str->Option ad)->bj->Prop}{YP:aR->bj->Prop}{d:DefRec}
  (hn:l.most=some n) (hdf:d.params.defaults=[])
  (call:∀ (w:aR) (s₀ s₁:ah) (mg mb:Str->Option ad) (fa:Addr) (o:Obj) (pm cd doc:ad) (a:Addr) (vs:List ad) (ns:List Int),
   Ground q loose [] XP w s₀ mg mb s₁.heap->YP w s₁.heap ->
   s₁.heap.get? fa=some o->o.data=.func (docDef d.name d.params d.body d.scope pm cd doc)->s₁.heap.CodeRec cd d.name->mg d.name=some (.ref fa) ->
   s₁.heap.get? a=some {cls:=.type "list",data:=.seq vs.toArray}->gK vs ns->ns.length<=n->s₁.gens=#[] ->
   eF (aE l.prog w) callerA (.call (.ref fa) ⟨[.ref a],[]⟩) (λr s'=>r=.ok (.ret (.bool true))/\OldK s₁.heap s'.heap/\s'.os=s₁.os/\ik s'.gens) s₁) :
  WalkO q loose XP YP l.row.toRowW d [] (λf vs=>PySem.call f vs):=by
 intro w s₀ s₁ mg mb G Y fa o pm cd doc dV kV O hd B J z Z args vals as i D L v U;obtain rfl:dV=.none:=Dflts.none J hdf;obtain rfl:kV=.none:=Dflts.noKw J;obtain⟨a,vs,ns,rfl,rfl,j,hints,hlen⟩:=cZu hn i v;refine enter_call (gJ (call w s₀ s₁ mg mb fa o pm cd doc a vs ns G Y O (fd_plain hd) B z j hints hlen Z) λr s' N=>?_);obtain⟨rfl,h2,h3,h4⟩:=N;exact⟨.inl ⟨.bool true,.bool true,[],rfl,λ_=>rfl,.bool true,cZv l _,λ_=>⟨e9,λ_ hm=>(nomatch hm)⟩⟩,h2,h3,h4⟩
end Att
namespace L2
open PySem PySem.Spec PyProof.Rows
theorem aJn:∀{vs:List ad}{ns:List Int},gK vs ns->Vals (ns.map V.int) vs
 |_,_,.nil=>.nil
 |_,_,.cons n t h=>.cons ⟨t,rfl⟩ (aJn h)
abbrev KOf{K:av}{h:bj}(_:K.In h):av:=K
def aX8(s:Stmt):Arguments:=match s with
 |.FunctionDef _ a _ _ _ _ _ _ _ _=>a
 |_=>{posonlyargs:=[],args:=[],vararg:=none,kwonlyargs:=[],kw_defaults:=[],kwarg:=none,defaults:=[]}
def aZ3(s:Stmt):List Stmt:=match s with
 |.FunctionDef _ _ b _ _ _ _ _ _ _=>b
 |_=>[]
def aQ3(s:Stmt):Scope:=match s with
 |.FunctionDef _ _ _ _ _ _ sc _ _ _=>sc
 |_=>{kind:=.function,names:=[],isGenerator:=false,isCoroutine:=false}
abbrev CX0:CXT:=λ_ _ _ _ _ _=>False
abbrev E0:XK:=λ_ _ _=>False
theorem fQx{X:Cx}:cZq CX0 X E0:=λ_ _ _ _ _ _ _ h=>h.elim
structure Fun(K:av)(x qual:Str)(st:Stmt)(f:Addr)(fd:cT):Prop where
 ex:∃(oc:ad) (od:Option Addr) (kV doc pm:ad) (an:Option Addr) (cdv ct:ad) (osl:Array (Option ad)),
  fd=er x qual (aX8 st) (aZ3 st) (aQ3 st) .none kV doc pm an cdv ct/\K.lookup f=some ⟨oc,od,.func fd,osl⟩/\fU K cdv qual=true
 kp:fj K (.ref f)=true
section
variable{P:aF}{w:aR}{K:av}{mg:Str->Option ad}{base:bj}
theorem Fun.ok{x qual:Str}{st:Stmt}{f:Addr}{fd:cT}{N ps:List Str}{k:Nat}{sp:Sp}(F:Fun K x qual st f fd)(S:FnScope N ps (aQ3 st))(len:∀vs H Q E,sp vs H Q E->vs.length=ps.length)
  (hbody:∀ (cdv:ad) (A:a8) (outer:List Env) (s:ah) (H:Hp) (vs:List V) (Q:VK) (E:XK),Room k (A.deeper (gX qual (aQ3 st) s.heap.objs.size f cdv))->sp vs H Q E ->
   ∃t,PSs (cxOf CX0 P w K mg base N qual (aQ3 st) f cdv A outer s H E).nox (aZ3 st) t/\t {nx:=λ_ H'=>Q .non H',rt:=Q} (start N vs) H):FnOk P w K mg base CX0 (k+1) f fd ps sp:=by
 obtain⟨oc,z,kV,doc,pm,an,cdv,ct,j,rfl,lk,i⟩:=F.ex;refine eX4 lk i S len λA outer s H vs Q E v d=>?_;obtain⟨t,h,q⟩:=hbody cdv A outer s H vs Q E v d;exact⟨t,h.nox,q⟩
theorem Fun.binds{x qual:Str}{st:Stmt}{f:Addr}{fd:cT}{ps:List Str}(F:Fun K x qual st f fd)
  (h:∀(kV doc pm:ad) (an:Option Addr) (cdv ct:ad) (us:List ad),us.length=ps.length->bindArgs (er x qual (aX8 st) (aZ3 st) (aQ3 st) .none kV doc pm an cdv ct) ⟨us,[]⟩=pure (ps.zip us)):Binds K fd ps []:=by
 obtain⟨oc,j,kV,doc,pm,an,cdv,ct,d,rfl,lk,i⟩:=F.ex;exact .all (h kV doc pm an cdv ct)
theorem dZm{x qual:Str}{st:Stmt}{f:Addr}{oc:ad}{od an:Option Addr}{osl:Array (Option ad)}{kV doc pm cdv ct:ad}(l:K.lookup f=some ⟨oc,od,.func (er x qual (aX8 st) (aZ3 st) (aQ3 st) .none kV doc pm an cdv ct),osl⟩)
  (c:fU K cdv qual=true) (k:fj K (.ref f)=true):Fun K x qual st f (er x qual (aX8 st) (aZ3 st) (aQ3 st) .none kV doc pm an cdv ct):=⟨⟨oc,od,kV,doc,pm,an,cdv,ct,osl,rfl,l,c⟩,k⟩
end
theorem ite2{c A B:Prop}[Decidable c](h1:c->A)(h2:¬ c->B):if c then A else B:=by
 by_cases h:c
 ·rw[if_pos h];exact h1 h
 ·rw[if_neg h];exact h2 h
def Same(H H':Hp):Prop:=∀b o,H b=some o->H' b=some o
end L2
set_option maxHeartbeats 4000000
namespace L2
open PySem PySem.Spec PyProof.Rows
theorem aXn(env:Env):∀(names:List (Str×eX)) (acc:List (Str×Addr)),(∀x,(x,aW)∈names->∃c,env.cells.lookup x=some c)->(∀x c,acc.lookup x=some c->env.cells.lookup x=some c) ->
  ∃cl,(forIn names acc λ(y:Str×eX) (cs:List (Str×Addr))=>(if (y.2==aW)=true then do let a <- cellOf env y.1;pure (bq ((y.1,a)::cs)) else pure (bq cs):Sem (ForInStep (List (Str×Addr)))))=pure cl /\
   (∀x c,cl.lookup x=some c->env.cells.lookup x=some c)/\(∀x,((x,aW)∈names\/(acc.lookup x).isSome=true)->(cl.lookup x).isSome=true)
 | [],acc,_,j=>⟨acc,by rfl,j,λx h=>by
   rcases h with h|h
   ·cases h
   ·exact h⟩
 |(n,k)::rest,acc,v,j=>by
  by_cases hk:(k==aW)=true
  ·have z:k=aW:=by cases k <;> first|rfl|cases hk
   subst z;obtain⟨c,B⟩:=v n aq;obtain⟨cl,e,h1,h2⟩:=aXn env rest ((n,c)::acc) (λx hx=>v x (au _ hx)) (λx d hx=>by
    simp only[cu] at hx
    by_cases i:(x==n)=true
    ·rw[i] at hx;cases hx;rw[fP i];exact B
    ·rw[eA.mpr i] at hx;exact j x d hx)
   refine⟨cl,?_,h1,λx hx=>h2 x ?_⟩
   ·rw[fJ];have D:cellOf env n=pure c:=by unfold cellOf;rw[B]
    simp only[hk,if_true,D,iG];exact e
   ·rcases hx with hx|hx
    ·rcases aK.mp hx with hx|hx
     ·cases hx;right;simp
     ·exact .inl hx
    ·right
     simp only[cu];cases x==n <;> simp[hx]
  ·obtain⟨cl,e,h1,h2⟩:=aXn env rest acc (λx hx=>v x (au _ hx)) j;refine⟨cl,?_,h1,λx hx=>h2 x ?_⟩
   ·rw[fJ];simp only[hk,if_false,iG,aM];exact e
   ·rcases hx with hx|hx
    ·rcases aK.mp hx with hx|hx
     ·cases hx;exact absurd rfl hk
     ·exact .inl hx
    ·exact .inr hx
inductive Cap(N:List Str)(sc:Scope):List Str->List (Option Nat)->Prop
 |nil:Cap N sc [] []
 |own {x xs is}:Cap N sc xs is->Cap N sc (x::xs) (none::is)
 |cap {x xs is i}:N[i]?=some x->(x,aW)∈sc.names->Cap N sc xs is->Cap N sc (x::xs) (some i::is)
theorem Cap.length{N:List Str}{sc:Scope}{xs:List Str}{is:List (Option Nat)}(c:Cap N sc xs is):xs.length=is.length:=by
 induction c with
 |nil=>rfl
 |own _ d=>simp[d]
 |cap _ _ _ d=>simp[d]
theorem Cap.get{N:List Str}{sc:Scope}{xs:List Str}{is:List (Option Nat)}(c:Cap N sc xs is):∀{j i:Nat}{x:Str},xs[j]?=some x->is[j]?=some (some i)->N[i]?=some x/\(x,aW)∈sc.names:=by
 induction c with
 |nil=>intro j i x h;simp at h
 |own _ d =>
  intro j i x h1 h2;cases j with
  |zero=>simp at h2
  |succ j=>exact d (by simpa using h1) (by simpa using h2)
 |cap v hf _ d =>
  intro j i x h1 h2;cases j with
  |zero=>simp at h1 h2;subst h1;subst h2;exact⟨v,hf⟩
  |succ j=>exact d (by simpa using h1) (by simpa using h2)
def capt(is:List (Option Nat))(σ:St):St:=is.map λo=>o.bind λi=>(σ[i]?).join
theorem aZs{sc:Scope}{env:Env}:∀{names:List (Str×eX)}{x:Str},(names.lookup x=some .cell\/names.lookup x=some .free)->((names.map λ(n,k)=>if (k==aW&&env.scope.kind ==.function&&env.kindOf n==some .cell) then (n,gw) else (n,k)).lookup x=some .cell\/(names.map λ(n,k)=>if (k==aW&&env.scope.kind ==.function&&env.kindOf n==some .cell) then (n,gw) else (n,k)).lookup x=some .free)
 |[],x,h=>by simp at h
 |(n,k)::r,x,h=>by
  simp only[bz]
  by_cases d:(k==aW&&env.scope.kind ==.function&&env.kindOf n==some .cell)=true
  ·rw[if_pos d];simp only[cu] at h ⊢;cases hx:x==n with
   |true=>exact .inl rfl
   |false=>rw[hx] at h;exact aZs (sc:=sc) h
  ·rw[if_neg d];simp only[cu] at h ⊢;cases hx:x==n with
   |true=>rw[hx] at h;exact h
   |false=>rw[hx] at h;exact aZs (sc:=sc) h
theorem aXo{sc:Scope}{env:Env}:∀{names:List (Str×eX)}{x:Str},((names.map λ(n,k)=>if (k==aW&&env.scope.kind ==.function&&env.kindOf n==some .cell) then (n,gw) else (n,k)).lookup x=some .cell\/(names.map λ(n,k)=>if (k==aW&&env.scope.kind ==.function&&env.kindOf n==some .cell) then (n,gw) else (n,k)).lookup x=some .free)->names.lookup x=some .cell\/names.lookup x=some .free
 |[],x,h=>by simp at h
 |(n,k)::r,x,h=>by
  simp only[bz] at h
  by_cases d:(k==aW&&env.scope.kind ==.function&&env.kindOf n==some .cell)=true
  ·rw[if_pos d] at h;simp only[cu] at h ⊢;cases hx:x==n with
   |true =>
    right
    have:k==aW:=by
     simp only[bb] at d;exact d.1.1
    cases k <;> first|rfl|cases this
   |false=>rw[hx] at h;exact aXo (sc:=sc) h
  ·rw[if_neg d] at h;simp only[cu] at h ⊢;cases hx:x==n with
   |true=>rw[hx] at h;exact h
   |false=>rw[hx] at h;exact aXo (sc:=sc) h
theorem aJo{α β:Type}[BEq α][LawfulBEq α]:∀{l:List (α×β)}{x:α}{k:β},l.lookup x=some k->(x,k)∈l
 |(n,d)::r,x,k,h=>by
  simp only[cu] at h;cases hx:x==n with
  |true=>rw[hx] at h;cases h;rw[fP hx];exact aq
  |false=>rw[hx] at h;exact au _ (aJo h)
def PTs(X:Cx)(ifs:List Expr)(t:TT):Prop :=
 ∀(pins:List (Addr×Obj)) (s:ah) (σ:St) (H:Hp) (Q:Bool->Hp->Prop),Inv X pins σ H s->t σ H Q ->
  aH (aE X.prog X.w) X.A (forIn ifs true λc r=>if r=true then do let ok <- isTrue c X.env (eval c X.env);pure (bq ok) else pure (bq r)) (TP X pins σ Q) X.xe s
def tYes:TT:=λ_ H Q=>Q true H
theorem dXu{X:Cx}:PTs X [] tYes:=λpins s σ H Q I h=>wpAny_tests_nil ⟨H,I,h⟩
theorem dXv{X:Cx}{c:Expr}{t:TT}(h:PT X c t):PTs X [c] t:=λpins s σ H Q I q=>wpAny_tests_one (h pins s σ H Q I q)
def Wk(σ0 σ2:St):Prop:=σ2.length=σ0.length/\∀(j:Nat) v,σ0[j]?=some (some v)->σ2[j]?=some (some v)
def okV(names outer:List (Str×eX)):Bool:=names.all λy=>match y.2 with
 |.free=>match outer.lookup y.1 with
  |some .cell=>true
  |some .free=>true
  |_=>false
 |_=>true
theorem dZn{names:List (Str×eX)}{sc:Scope}(h:okV names sc.names=true):∀y∈names,y.2=.free->Vis sc y.1/\sc.names.lookup y.1≠some .local:=λy d hf=>by
 have:=bY.mp h y d
 rw[hf] at this;unfold Vis;cases q:sc.names.lookup y.1 with
 |none=>rw[q] at this;cases this
 |some k=>rw[q] at this;cases k <;> first|(simp;done)|cases this
structure Bs(mg:Str->Option ad):Prop where
 len:mg "len"=none
 range:mg "range"=none
 sorted:mg "sorted"=none
 tuple:mg "tuple"=none
 list:mg "list"=none
 set:mg "set"=none
 sum:mg "sum"=none
 min:mg "min"=none
 max:mg "max"=none
 all:mg "all"=none
 any:mg "any"=none
 isinstance:mg "isinstance"=none
 int:mg "int"=none
 str:mg "str"=none
 bool:mg "bool"=none
 zip:mg "zip"=none
 enumerate:mg "enumerate"=none
theorem eX9:cb "len"=some (.builtin "len"):=by decide +kernel
theorem aJp:cb "sorted"=some (.builtin "sorted"):=by decide +kernel
theorem eXa:cb "min"=some (.builtin "min"):=by decide +kernel
theorem eXb:cb "all"=some (.builtin "all"):=by decide +kernel
theorem dZo:cb "any"=some (.builtin "any"):=by decide +kernel
theorem dQa:cb "tuple"=some (.type "tuple"):=by decide +kernel
theorem cZw:cb "list"=some (.type "list"):=by decide +kernel
theorem eXc:cb "set"=some (.type "set"):=by decide +kernel
structure Df(P:aF)(w:aR)(K:av)(mg:Str->Option ad)(base:bj)(k:Nat)(x:Str)(ps:List Str)(sp:Sp):Prop where
 ex:∃(f:Addr) (fd:cT),FnOk P w K mg base CX0 k f fd ps sp/\Binds K fd ps []/\fj K (.ref f)=true/\mg x=some (.ref f)
theorem Df.mono{P:aF}{w:aR}{K:av}{mg:Str->Option ad}{base:bj}{j k:Nat}{x:Str}{ps:List Str}{sp:Sp}(D:Df P w K mg base j x ps sp)(h:j<=k):Df P w K mg base k x ps sp:=by
 obtain⟨f,fd,a,b,c,d⟩:=D.ex;exact⟨f,fd,a.mono h,b,c,d⟩
theorem dQb{X:Cx}{k:Nat}{x:Str}{ps:List Str}{sp:Sp}{p pos:Pos}{e:Expr}{es:List Expr}{t:TA}(D:Df X.prog X.w X.K X.mg X.base k x ps sp)(hr:Room k X.A)(hg:Gl X x)(ha:PA X (e::es) t)
  (hdb:(x==("__debug__":Str))=false:=by decide) (he:aC (e::es) X.env=(false,eval e X.env)::aC es X.env:=by rfl) (hpl:(cD pos (aC es X.env)).any (·.1)=false:=by rfl) :
  PE X (.Call (.Name x p) (e::es) [] pos) (eX2 sp [] E0 t):=by
 obtain⟨f,fd,F,i,d,hm⟩:=D.ex;exact dXn F hr hg hm d i .nil fQx ha hdb he hpl
structure Tx(K:av)(mg:Str->Option ad)(x:Str)(st:Stmt):Prop where
 ex:∃(f:Addr) (fd:cT),Fun K x x st f fd/\mg x=some (.ref f)
theorem Tx.df{P:aF}{w:aR}{K:av}{mg:Str->Option ad}{base:bj}{k:Nat}{x:Str}{st:Stmt}{ps:List Str}{sp:Sp}(T:Tx K mg x st)
  (b:∀{f:Addr}{fd:cT},Fun K x x st f fd->Binds K fd ps []) (h:∀{f:Addr}{fd:cT},Fun K x x st f fd->FnOk P w K mg base CX0 k f fd ps sp):Df P w K mg base k x ps sp:=by
 obtain⟨f,fd,F,m⟩:=T.ex;exact⟨f,fd,h F,b F,F.kp,m⟩
theorem tx_mk{K:av}{h:bj}{mg:Str->Option ad}{x:Str}{st:Stmt}{f:Addr}{od an:Option Addr}{sl:Array (Option ad)}{oc kV dc pm cd ct:ad}(X:K.In h)(G:h.Ns aZ mg)
  (a:bF K aZ x=some (some (.ref f))) (l:K.lookup f=some ⟨oc,od,.func (er x x (aX8 st) (aZ3 st) (aQ3 st) .none kV dc pm an cd ct),sl⟩) (c:fU K cd x=true) (k:fj K (.ref f)=true):Tx K mg x st :=
 ⟨f,_,dZm (st:=st) l c k,jx X G a⟩
theorem bs_mk{K:av}{h:bj}{mg:Str->Option ad}(X:K.In h)(G:h.Ns aZ mg)(a:∀x∈(["len", "range", "sorted", "tuple", "list", "set", "sum", "min", "max", "all", "any", "isinstance", "int", "str", "bool", "zip", "enumerate"]:List Str),bF K aZ x=some none):Bs mg:=by
 have q:∀x∈(["len", "range", "sorted", "tuple", "list", "set", "sum", "min", "max", "all", "any", "isinstance", "int", "str", "bool", "zip", "enumerate"]:List Str),mg x=none:=λx d=>PySem.W.mg_none_of X G (a x d);constructor <;> exact q _ (by decide +kernel)
theorem bs_all{K:av}(z1:bF K aZ "len"=some none)(z2:bF K aZ "range"=some none)(z3:bF K aZ "sorted"=some none)(z4:bF K aZ "tuple"=some none)(z5:bF K aZ "list"=some none)(z6:bF K aZ "set"=some none)
  (z7:bF K aZ "sum"=some none) (z8:bF K aZ "min"=some none) (z9:bF K aZ "max"=some none) (z10:bF K aZ "all"=some none) (z11:bF K aZ "any"=some none) (z12:bF K aZ "isinstance"=some none)
  (z13:bF K aZ "int"=some none) (z14:bF K aZ "str"=some none) (z15:bF K aZ "bool"=some none) (z16:bF K aZ "zip"=some none) (z17:bF K aZ "enumerate"=some none) :
  ∀x∈(["len", "range", "sorted", "tuple", "list", "set", "sum", "min", "max", "all", "any", "isinstance", "int", "str", "bool", "zip", "enumerate"]:List Str),bF K aZ x=some none:=λx d=>by
 simp only[aK,fw,or_false] at d;rcases d with rfl|rfl|rfl|rfl|rfl|rfl|rfl|rfl|rfl|rfl|rfl|rfl|rfl|rfl|rfl|rfl|rfl <;> assumption
end L2
set_option maxHeartbeats 1000000
namespace L2
open PySem PySem.Spec PyProof.Rows
def bQv(ifs:List Expr)(env:Env):Sem Bool:=forIn ifs true λc r=>if r=true then do let ok <- isTrue c env (eval c env);pure (bq ok) else pure (bq r)
def aZ1(target:Expr)(ifs:List Expr)(at0:Pos)(m:Sem Unit)(c:Code)(it:ad)(env:Env):Sem Fin :=
 fH at0>>=λ_=>fi it>>=λr=>match r with
  |none=>pure (.done .next)
  |some v=>eW target it v>>=λ_=>iV target env v>>=λ_=>bQv ifs env>>=λok=>if ok=true then m>>=λ_=>again c else again c
def emitOf(elt:Expr)(acc:ad)(env:Env):Sem Unit:=eval elt env>>=λx=>call (.builtin "list.append") [acc,x]>>=λ_=>pure ()
def innerOf(e:Expr)(iter:Expr)(acc:ad)(env:Env):Sem Unit:=eval iter env>>=λx=>fH iter.pos>>=λ_=>bZ iter env x>>=λx=>fv [x] (iW x)>>=λit=>runOwn (.compStart e 1 it acc env) env>>=λ_=>pure ()
theorem aQd(elt target iter:Expr)(ifs:List Expr)(scope:Scope)(pos:Pos)(it acc:ad)(env:Env) :
  eJ (.ListComp elt [⟨target,iter,ifs,0⟩] scope pos) 0 it acc env=aZ1 target ifs iter.pos (emitOf elt acc env) (.compLoop (.ListComp elt [⟨target,iter,ifs,0⟩] scope pos) 0 it acc env) it env:=by
 rw[compTurn_list];unfold aZ1 bQv emitOf;refine congrArg _ (funext λ_=>congrArg _ (funext λr=>?_));cases r with
 |none=>rfl
 |some v =>
  refine congrArg _ (funext λ_=>congrArg _ (funext λ_=>congrArg _ (funext λok=>?_)));cases ok <;> rfl
abbrev TB:=St->Hp->(Hp->Prop)->Prop
def PB(X:Cx)(m:Sem Unit)(t:TB):Prop :=
 ∀(pins:List (Addr×Obj)) (s:ah) (σ:St) (H:Hp) (N:Hp->Prop),Inv X pins σ H s->t σ H N ->
  aH (aE X.prog X.w) X.A m (λ_ s'=>∃σ' H',Inv X pins σ' H' s'/\Wk σ σ'/\N H') (λ_ _=>False) s
def eXd(D:Addr)(te:TE):TB:=fun σ H N=>te σ H λy H4=>∃zs,H4 D=some (.lst zs)/\zs.length<sizeLine/\N (upd H4 D (.lst (zs++[y])))
def bXr(J:It)(σ0:St)(g:TG)(tt:TT)(tb:TB)(Q:Hp->Prop)(H:Hp):Prop :=
 ∃W:Nat->Nat->Hp->Prop,(∃m,W 0 m H)/\∀i m H,W i m H ->
  (J.stop i H/\Q H)\/(J.go i H/\∃ N:Hp->Prop,(∀ H',N H'->∃ m',m' < m/\W (i + 1) m' H') /\
   ∀x H',J.yld i H x H'->g x σ0 H' fun σ2 H2=>Wk σ0 σ2/\tt σ2 H2 λb H3=>if b=true then tb σ2 H3 N else N H3)
def dZp(wi:TI)(g:TG)(tt:TT)(tb:TB):TB:=fun σ H N=>wi σ H λJ H1=>bXr J σ g tt tb N H1
def bJw(is:List (Option Nat))(wi:TI)(g:TG)(tt:TT)(tb:Addr->TB):TE:=fun σ H Q=>wi σ H λJ H1=>∀D,H1 D=none->bXr J (capt is σ) g tt (tb D) (Q (.ref D)) (upd H1 D (.lst []))
theorem Wk.refl(σ:St):Wk σ σ:=⟨rfl,λ_ _ h=>h⟩
theorem Wk.trans{a b c:St}(h:Wk a b)(k:Wk b c):Wk a c:=⟨k.1.trans h.1,λj v e=>k.2 j v (h.2 j v e)⟩
theorem fQy{σ:St}{i:Nat}{v:V}(h:σ[i]?=some none):Wk σ (σ.set i (some v)):=by
 refine⟨List.length_set,λj u e=>?_⟩
 by_cases d:j=i
 ·subst d;rw[h] at e;cases e
 ·rw[fh (cY d)];exact e
section
variable{X:Cx}
theorem aQj{elt:Expr}{te:TE}{D:Addr}(hxe:X.xe=λ_ _=>False)(he:PE X elt te):PB X (emitOf elt (.ref D) X.env) (eXd D te):=by
 intro pins s σ H N I h;unfold emitOf;have h1:=he pins s σ H _ I h;rw[hxe] at h1;refine aa (thn h1 λy s1 ⟨v,H1,J,i,zs,z,d,n⟩=>aa ?_);have h2:=bZx pins s1 σ H1 (.ref D) [v] (.ref D) [y] (λu L=>u=.non/\N L) J rfl (.cons i .nil) ⟨D,zs,v,rfl,rfl,z,d,rfl,n⟩;rw[hxe] at h2;exact thn h2 λ_ s2 ⟨u,H2,B,_,_,j⟩=>ae ⟨σ,H2,B,Wk.refl σ,j⟩
theorem bQw{e target:Expr}{ifs:List Expr}{at0:Pos}{d:Nat}{acc:ad}{it:Addr}{m:Sem Unit}{g:TG}{tt:TT}{tb:TB}{J:It}{fp:List Addr}{tn:Nat->bj->Prop}{Q:Hp->Prop}{R:Result->ah->Prop}{pins:List (Addr×Obj)}{s:ah}{σ:St}{H:Hp}
  (hcalm:X.calm=true) (hxe:X.xe=λ_ _=>False) (hturn:eJ e d (.ref it) acc X.env=aZ1 target ifs at0 m (.compLoop e d (.ref it) acc X.env) (.ref it) X.env)
  (hfr:(gx e d (.ref it) acc X.env).isFrame=false) (hA:X.A.under (gx e d (.ref it) acc X.env)=X.A)
  (T:Turn X.prog X.w X.K target J fp it tn) (hg:PG X target g) (ht:PTs X ifs tt) (hb:PB X m tb)
  (I:Inv X pins σ H s) (st:tn 0 s.heap) (f:∀b∈fp,FpOk X pins H b) (h:bXr J σ g tt tb Q H)
  (fin:∀H' s',Inv X pins σ H' s'->(∀b∈fp,FpOk X pins H' b)->Q H'->R (.ok .next) s') :
  eF (aE X.prog X.w) X.A (.compLoop e d (.ref it) acc X.env) R s:=by
 obtain⟨W,⟨m0,w0⟩,turn⟩:=h;have j:∀{H':Hp},(∀b∈fp,H' b=none)->∀b∈fp,FpOk X pins H' b:=λhn b hb=>⟨hn b hb,(f b hb).2⟩;refine codeAny_loop rfl (λn s'=>∃i H',Inv X pins σ H' s'/\tn i s'.heap/\(∀b∈fp,H' b=none)/\W i n H') ?_ m0 ⟨0,H,I,st,λb hb=>(f b hb).1,w0⟩;rintro n s3 ⟨i,H3,I3,U,D,w3⟩;have eden:(aE X.prog X.w).den (.compLoop e d (.ref it) acc X.env)=(eJ e d (.ref it) acc X.env).onRaise (λx=>do noteFrame x X.env;theTreesLotGoes x):=by
  show(if (gx e d (.ref it) acc X.env).isFrame=true then _ else _)=_
  rw[hfr];rfl
 rw[eden,hturn,hA];refine wpAny_noted ?_;unfold aZ1;refine aa (eZ ?_);rcases turn i n H3 w3 with⟨stop,qn⟩|⟨go,N,hN,step⟩
 ·refine aa (thn (T.done X rfl rfl rfl hcalm i pins s3 σ H3 _ I3 (j D) U stop) λr s4 ⟨hr,I4⟩=>?_);subst hr;exact ae (fin H3 s4 I4 (j D) qn)
 ·refine aa (thn (T.item X rfl rfl rfl hcalm i pins s3 σ H3 _ I3 (j D) U go) λr s4 ⟨u,hr,h4⟩=>?_);subst hr;refine aa (thn h4 λ_ s5 ⟨x,H5,I5,r5,y5,B,fr5⟩=>?_);have I5':=I5.pinned (j fr5) (T.obj _ _ B);have q5:=hg _ s5 σ H5 x u _ I5' r5 (step x H5 y5);rw[hxe] at q5;refine aa (cK q5 (λ_ s6 ⟨σ6,H6,I6,O,q6⟩=>?_) λ_ _ z=>z.elim);have Z:=ht _ s6 σ6 H6 _ I6 q6;rw[hxe] at Z;refine aa (cK Z (λok s7 ⟨H7,I7,Z⟩=>?_) λ_ _ z=>z.elim);have v:∀{σ8:St}{L:Hp}{Y:ah},Inv X (pins++bZs fp s5.heap) σ8 L Y->Wk σ σ8->N L->∃m,m<n/\∃i H',Inv X pins σ H' Y/\tn i Y.heap/\(∀b∈fp,H' b=none)/\W i m H':=λ{σ8 L Y} I8 wk n8=>by
   obtain⟨m',hm,w8⟩:=hN L n8;refine⟨m',hm,i+1,L,I8.unpinned.weak wk.1.symm wk.2,T.keep _ _ _ B λb hb o e=>(I8.pin (b,o) (bf _ (bf _ (aZz hb e)))).1,λb hb=>?_,w8⟩;obtain⟨o,e,_⟩:=T.obj _ _ B b hb;exact(I8.pin (b,o) (bf _ (bf _ (aZz hb e)))).2.1
  cases ok with
  |false=>exact ae ⟨rfl,v I7 O Z⟩
  |true =>
   refine aa (cK (hb _ s7 σ6 H7 N I7 Z) (λ_ Y ⟨σ8,L,I8,wk8,n8⟩=>?_) λ_ _ z=>z.elim);exact ae ⟨rfl,v I8 (O.trans wk8) n8⟩
end
section
variable{X:Cx}
theorem cZx{e target iter:Expr}{ifs:List Expr}{it acc:ad}{env:Env}{A:a8}{prog:aF}{w:aR}{R:Result->ah->Prop}{s:ah}(hc:(clausesOf e)[1]?=some ⟨target,iter,ifs,0⟩)(hfr:(fX e 1 it acc env).isFrame=false)(hA:A.under (fX e 1 it acc env)=A)
  (h0:eF (aE prog w) A (.compLoop e 1 it acc env) R s)
  (h:aH (aE prog w) A (iW it) (λit' s'=>eF (aE prog w) A (.compLoop e 1 it' acc env) R s') (notedBy (aE prog w) A env λx s'=>R (.error x) s') s) :
  eF (aE prog w) A (.compStart e 1 it acc env) R s:=by
 refine gF ?_;have d:(aE prog w).den (.compStart e 1 it acc env)=(compStart e 1 it acc env).onRaise (λx=>do noteFrame x env;fH theWindowsPlace):=by
  show(if (fX e 1 it acc env).isFrame=true then _ else _)=_
  rw[hfr];rfl
 rw[d,hA];refine wpAny_notedAt ?_;unfold compStart;rw[hc];simp only[Option.elim,bne_self_eq_false,aM,if_false];refine aa (cU (wpAny_ite ?_))
 split
 ·first
   |exact aa (ae (ae (iH rfl h0)))
   |exact ae (iH rfl h0)
 ·refine aa (cS ?_);refine aa (eZ (aa (cK h (λit' s' h'=>ae (iH rfl h')) λ_ _ x=>x)))
theorem dQc{e t2 i2:Expr}{ifs2:List Expr}{acc:ad}{m:ad->Sem Unit}{wi:TI}{g:TG}{tt:TT}{tb:TB}(hcalm:X.calm=true)(hxe:X.xe=λ_ _=>False)(hc:(clausesOf e)[1]?=some ⟨t2,i2,ifs2,0⟩)
  (hturn:∀it,eJ e 1 (.ref it) acc X.env=aZ1 t2 ifs2 i2.pos (m acc) (.compLoop e 1 (.ref it) acc X.env) (.ref it) X.env)
  (hi:PI X t2 i2 wi) (hg:PG X t2 g) (ht:PTs X ifs2 tt) (hb:PB X (m acc) tb)
  (hs:∀x,bZ i2 X.env x=pure x) (hfr:∀it,(fX e 1 it acc X.env).isFrame=false) (hfr2:∀it,(gx e 1 it acc X.env).isFrame=false)
  (hA:∀it,X.A.under (fX e 1 it acc X.env)=X.A) (hA2:∀it,X.A.under (gx e 1 it acc X.env)=X.A) :
  PB X (innerOf e i2 acc X.env) (dZp wi g tt tb):=by
 intro pins s σ H N I h;unfold innerOf;have h1:=hi pins s σ H _ I h;rw[hxe] at h1;refine aa (thn h1 λv s1 j=>aa (eZ (aa (wpAny_of_eq (hs v) (aa (bu (thn j λz s2 i=>?_)))))));obtain⟨it,O,L,J,H2,rfl,B,T,d,f2,i⟩:=i;refine aa (wpAny_runOwn ?_);have loop:eF (aE X.prog X.w) X.A (.compLoop e 1 (.ref it) acc X.env) (λr s'=>match r with
   |.ok f=>aH (aE X.prog X.w) X.A (pure ()) (λ_ s'=>∃σ' H',Inv X pins σ' H' s'/\Wk σ σ'/\N H') (λ_ _=>False) s'
   |.error x=>cameBackBy (aE X.prog X.w) X.A X.env (λ_ _=>False) x s') s2 :=
  bQw hcalm hxe (hturn it) (hfr2 _) (hA2 _) T hg ht hb B d f2 i λH' s' D _ n=>ae ⟨σ,H',D,Wk.refl σ,n⟩
 exact cZx hc (hfr _) (hA _) loop (T.self _ 0 _ _ _ d loop)
end
theorem aXp(env:Env):∀(names:List (Str×eX)) (acc:List (Str×Addr)),(∀x,(x,aW)∈names->∃c,env.cells.lookup x=some c) ->
  ∃cl,(forIn names acc λ(y:Str×eX) (cs:List (Str×Addr))=>(if (y.2==aW)=true then do let a <- cellOf env y.1;pure (bq ((y.1,a)::cs)) else pure (bq cs):Sem (ForInStep (List (Str×Addr)))))=pure cl /\
   (∀x c,cl.lookup x=some c->(x,aW)∈names\/acc.lookup x=some c)
 |[],acc,_=>⟨acc,by rfl,λ_ _ h=>.inr h⟩
 |(n,k)::rest,acc,j=>by
  by_cases hk:(k==aW)=true
  ·have v:k=aW:=by cases k <;> first|rfl|cases hk
   subst v;obtain⟨c,B⟩:=j n aq;obtain⟨cl,e,h1⟩:=aXp env rest ((n,c)::acc) (λx i=>j x (au _ i));refine⟨cl,?_,λx d i=>?_⟩
   ·rw[fJ];have D:cellOf env n=pure c:=by unfold cellOf;rw[B]
    simp only[hk,if_true,D,iG];exact e
   ·rcases h1 x d i with z|z
    ·exact .inl (au _ z)
    ·simp only[cu] at z;cases hxn:x==n with
     |true=>rw[fP hxn];exact .inl aq
     |false=>rw[hxn] at z;exact .inr z
  ·obtain⟨cl,e,h1⟩:=aXp env rest acc (λx i=>j x (au _ i));refine⟨cl,?_,λx d i=>?_⟩
   ·rw[fJ];simp only[hk,if_false,iG,aM];exact e
   ·rcases h1 x d i with z|z
    ·exact .inl (au _ z)
    ·exact .inr z
theorem aX5{env:Env}{scope:Scope}(hn:∀x,(x,aW)∈scope.names->∃c,env.cells.lookup x=some c) :
  ∃cl,gZ scope env=pure cl/\(∀x c,cl.lookup x=some c->env.cells.lookup x=some c)/\(∀x,(x,aW)∈scope.names->(cl.lookup x).isSome=true)/\∀x c,cl.lookup x=some c->(x,aW)∈scope.names:=by
 obtain⟨cl,e,h1,h2⟩:=aXn env scope.names [] hn (λx c h=>by cases h)
 obtain⟨cl',v,i⟩:=aXp env scope.names [] hn;have j:cl=cl':=by
  have:=e.symm.trans v
  injection this
 subst j;refine⟨cl,?_,h1,λx d=>h2 x (.inl d),λx c d=>(i x c d).elim id λz=>by cases z⟩
 have q:gZ scope env=(forIn scope.names ([]:List (Str×Addr)) λ(y:Str×eX) (cs:List (Str×Addr))=>(if (y.2==aW)=true then do let a <- cellOf env y.1;pure (bq ((y.1,a)::cs)) else pure (bq cs):Sem (ForInStep (List (Str×Addr))))):=by
  unfold gZ;exact bind_pure _
 rw[q,e]
def ocl(oc:Option Str)(c:Addr)(cl:List (Str×Addr)):List (Str×Addr):=match oc with
 |none=>cl
 |some x=>(x,c)::cl
def ohp(oc:Option Str)(h:bj):bj:=match oc with
 |none=>h
 |some _=>h.push {cls:=.type "cell",data:=.cell none}
theorem aJq{oc:Option Str}{c d:Addr}{cl:List (Str×Addr)}{x:Str}(h:(ocl oc c cl).lookup x=some d):(oc=some x/\d=c)\/cl.lookup x=some d:=by
 cases oc with
 |none=>exact .inr h
 |some z =>
  unfold ocl at h;simp only[cu] at h;cases hx:x==z with
  |true=>rw[hx] at h;cases h;rw[fP hx];exact .inl ⟨rfl,rfl⟩
  |false=>rw[hx] at h;exact .inr h
theorem bJx{oc:Option Str}{c:Addr}{cl:List (Str×Addr)}{x:Str}(h:(cl.lookup x).isSome=true):∃d,(ocl oc c cl).lookup x=some d:=by
 cases oc with
 |none=>exact cr.mp h
 |some z =>
  unfold ocl;simp only[cu];cases hx:x==z with
  |true=>exact⟨_,rfl⟩
  |false=>exact cr.mp h
theorem dXw{c:Addr}{cl:List (Str×Addr)}{x:Str}:(ocl (some x) c cl).lookup x=some c:=by unfold ocl;simp
theorem aJc{oc:Option Str}{h:bj}{b:Addr}{o:Obj}(e:h.get? b=some o):(ohp oc h).get? b=some o:=by
 cases oc with
 |none=>exact e
 |some _=>exact af _ e
def aQa(X:Cx)(N':List Str)(scope:Scope)(cl:List (Str×Addr))(C:Addr)(fp:List Addr)(s:ah)(H:Hp)(oc:Option Str):Cx :=
 {X with N:=N',s₀:=s,H₀:=H,env:=gC scope cl C X.env,outer:=X.stack,ex:=fp,fn:=λx=>decide (oc=some x),pn:=[],xe:=λ_ _=>False}
theorem cZy{scope:Scope}{env:Env}{cl:List (Str×Addr)}{M:Model}{A:a8}{E:ad->ah->Prop}{s:ah}{Q:Env->ah->Prop}
  (h:Q {scope:=scope,locals:=s.heap.objs.size,globals:=env.globals,cells:=eH (s.heap.objs.size+1) scope.names cl,qual:=env.qual,func:=none,code:=env.code,frame:=env.frame,builtins:=env.builtins} {s with heap:=fQ (s.heap.push {cls:=.type "dict",data:=.dict #[]}) scope.names}) :
  aH M A (newFunctionEnv scope env.globals cl [] env.qual none .none (some env)) Q E s:=by
 unfold newFunctionEnv;simp only[Option.isSome_some,if_true];refine aa (wpAny_alloc ?_);refine aa (wpAny_layCells _ (λname kind cells=>by cases hkc:kind==gw <;> simp[hkc]) _ _ _ _ ?_)
 rw[show({s with heap:=s.heap.push {cls:=.type "dict",data:=.dict #[]}}:ah).heap.objs.size=s.heap.objs.size+1 from c8 ..]
 exact aa (ae (ae h))
section
variable{X:Cx}{pins:List (Addr×Obj)}{σ:St}{H H':Hp}{s s2:ah}
theorem bQd{N':List Str}{scope:Scope}{cl:List (Str×Addr)}{fp:List Addr}{oc:Option Str}(I:Inv X pins σ H s)(hf:∀b∈fp,FpOk X pins H b)(hfl:∀b∈fp,b<s.heap.objs.size)(hkind:scope.kind=.function)
  (c1:∀x c,cl.lookup x=some c->X.env.cells.lookup x=some c) (c2:∀x,(x,aW)∈scope.names->(cl.lookup x).isSome=true) (hcell:∀y∈scope.names,y.2=.cell->oc=some y.1) (hun:∀x,oc=some x->cl.lookup x=none) :
  (aQa X N' scope (ocl oc (s.heap.objs.size+1) cl) s.heap.objs.size fp s H oc).Ok where
 mod:=I.ok.mod
 kind:=hkind
 glob:=I.ok.glob
 blt:=I.ok.blt
 above:=Nat.le_refl _
 inj:=λx y c h1 h2=>by
  have old:∀z,cl.lookup z=some (s.heap.objs.size+1)->False:=λz e=>by
   obtain⟨v,q⟩:=I.cell z _ (c1 z _ e);exact absurd (show s.heap.objs.size+1<s.heap.objs.size from q.lt) (Nat.not_lt.mpr (Nat.le_succ _))
  rcases aJq h1 with⟨B,rfl⟩|B <;> rcases aJq h2 with⟨j,e⟩|j
  ·rw[B] at j;exact aS j
  ·exact(old y j).elim
  ·subst e;exact(old x B).elim
  ·exact I.ok.inj x y c (c1 x c B) (c1 y c j)
 has:=λx D=>by
  have d:scope.names.lookup x=some .cell\/scope.names.lookup x=some .free:=aXo (sc:=scope) D;rcases d with d|d
  ·have e:=hcell _ (aJo d) rfl;subst e;exact⟨_,dXw⟩
  ·exact bJx (c2 x (aJo d))
 cab:=λx c h J=>by
  have h':oc=some x:=of_decide_eq_true h;rcases aJq J with⟨_,rfl⟩|e
  ·exact Nat.le_succ _
  ·rw[hun x h'] at e;cases e
 hd:=I.ok.hd
 frames:=I.ok.frames
 gd:=I.ok.gd
 stk:=.inl rfl
 exf:=λb i=>⟨Nat.ne_of_lt (hfl b i),λx c e=>by
  rcases aJq e with⟨_,rfl⟩|e
  ·intro z;exact absurd (show s.heap.objs.size+1<s.heap.objs.size from z▸hfl b i) (Nat.not_lt.mpr (Nat.le_succ _))
  ·exact(hf b i).2.2.2.2.1 x c (c1 x c e)⟩
 bs:=I.bs
 bsz:=Nat.le_trans I.ok.bsz I.sz
 noex:=λb o e i=>by
  rcases(hf b i).2.2.2.1 with z|z
  ·exact I.ok.noex b o e z
  ·have q:=I.ok.bs b o e;exact absurd (Nat.lt_of_lt_of_le (aD q.1) z) (Nat.lt_irrefl _)
 exfs:=λb i z=>by
  rcases aK.mp (I.stkSub b z) with e|e
  ·exact(hf b i).2.1 e
  ·exact(hf b i).2.2.1 e
 funs:=I.stack
 frf:=I.stkFree
theorem aJr{N':List Str}{is:List (Option Nat)}{scope:Scope}{cl:List (Str×Addr)}{fp:List Addr}{oc:Option Str}(I:Inv X pins σ H s)(ok:(aQa X N' scope (ocl oc (s.heap.objs.size+1) cl) s.heap.objs.size fp s H oc).Ok)(hN:X.N.Nodup)
  (c1:∀x c,cl.lookup x=some c->X.env.cells.lookup x=some c) (c2:∀x,(x,aW)∈scope.names->(cl.lookup x).isSome=true) (hu:∀x,(x,aW)∈scope.names->scope.names.lookup x=some .free) (cp:Cap X.N scope N' is)
  (hV:∀x,(x,aW)∈scope.names->Vis X.env.scope x/\X.env.scope.names.lookup x≠some .local) (hun:∀x,oc=some x->cl.lookup x=none) :
  Inv (aQa X N' scope (ocl oc (s.heap.objs.size+1) cl) s.heap.objs.size fp s H oc) [] (capt is σ) H {s with heap:=ohp oc (s.heap.push {cls:=.type "dict",data:=.dict #[]})}:=by
 have kp:∀b o,s.heap.get? b=some o->(ohp oc (s.heap.push {cls:=.type "dict",data:=.dict #[]})).get? b=some o:=λb o e=>aJc (af _ e);exact {
 ok:=ok
 os:=rfl
 bare:=I.bare
 base:=Un.kept kp
 loc:=by
  refine⟨_,(bj.Ns.new s.heap (.type "dict")).keeps λb o e=>aJc e,λj x v e1 e2 e3=>?_⟩;have Y:N'[j]?=some x:=e1;unfold capt at e2;rw[aT] at e2;cases hi:is[j]? with
  |none=>rw[hi] at e2;cases e2
  |some o =>
   rw[hi] at e2;cases o with
   |none=>cases e2
   |some i =>
    obtain⟨hx,d⟩:=cp.get Y hi;have e2':(σ[i]?).join=some v:=aS e2;have e4:σ[i]?=some (some v):=by
     cases q:σ[i]? with
     |none=>rw[q] at e2';cases e2'
     |some z=>rw[q] at e2';cases z with
      |none=>cases e2'
      |some z=>cases e2';rfl
    obtain⟨m,hn,hl⟩:=I.loc;obtain⟨D,U⟩:=hV x d;obtain⟨u,r,l⟩:=hl i x v hx e4 D;refine⟨u,r,.inr ⟨aZs (sc:=scope) (.inr (hu x d)),?_⟩⟩;rcases l with⟨k,_⟩|⟨k,c,e,z⟩
    ·exact absurd k U
    ·obtain⟨J,Z⟩:=bJx (oc:=oc) (c:=s.heap.objs.size+1) (c2 x d);have ee:J=c:=by
      rcases aJq Z with⟨L,_⟩|L
      ·have:=c2 x d;rw[hun x L] at this;cases this
      ·have:=c1 x J L;rw[e] at this;exact(aS this).symm
     subst ee;obtain⟨B,O,hd⟩:=z;exact⟨J,Z,B,kp J B O,hd⟩
 cell:=λx c e=>by
  rcases aJq (show(ocl oc (s.heap.objs.size+1) cl).lookup x=some c from e) with⟨z,rfl⟩|e
  ·subst z;refine⟨none,{cls:=.type "cell",data:=.cell none},?_,rfl⟩;show((s.heap.push _).push _).get? _=_;rw[<- c8 s.heap {cls:=.type "dict",data:=.dict #[]}];exact az _ rfl
  ·obtain⟨v,o,ho,hd⟩:=I.cell x c (c1 x c e);exact⟨v,o,kp c o ho,hd⟩
 free:=I.hok.fresh (Nat.le_refl _)
 freeC:=λx c e=>by
  rcases aJq (show(ocl oc (s.heap.objs.size+1) cl).lookup x=some c from e) with⟨z,rfl⟩|e
  ·exact I.hok.fresh (Nat.le_succ _)
  ·exact I.freeC x c (c1 x c e)
 pin:=λp hp=>absurd (show p∈([]:List (Addr×Obj)) from hp) (by simp)
 hok:=I.hok.kept kp
 len:=by
  show(capt is σ).length=N'.length;unfold capt;rw[am,cp.length]}
def FrC(X:Cx)(pins:List (Addr×Obj))(C:Addr)(H:Hp):Prop:=H C=none/\C≠X.env.locals/\X.s₀.heap.objs.size<=C/\(∀x c,X.env.cells.lookup x=some c->c≠C)/\∀p∈X.pn++pins,p.1≠C
theorem FrC.gone{C:Addr}{h':bj}(f:FrC X pins C H)(I:Inv X pins σ H s)(sb:dP C s.heap h'):Inv X pins σ H {s with heap:=h'} :=
 I.turned (t':=s.toks) (λb o d e=>(sb.2 b d).trans e) f.1 f.2.1 (.inr f.2.2.1) f.2.2.2.1 f.2.2.2.2
theorem comp_gen{elt target iter:Expr}{ifs:List Expr}{gs:List eD}{scope:Scope}{pos:Pos}{N':List Str}{is:List (Option Nat)}{wi:TI}{g:TG}{tt:TT}{tb:Addr->TB}{oc:Option Str}{m:ad->Env->Sem Unit}(hcalm:X.calm=true)(hN:X.N.Nodup)
  (hturn:∀it acc env,eJ (.ListComp elt (⟨target,iter,ifs,0⟩::gs) scope pos) 0 it acc env=aZ1 target ifs iter.pos (m acc env) (.compLoop (.ListComp elt (⟨target,iter,ifs,0⟩::gs) scope pos) 0 it acc env) it env)
  (cp:Cap X.N scope N' is) (hi:PI X target iter wi)
  (hg:∀cl C fp s H,PG (aQa X N' scope cl C fp s H oc) target g) (ht:∀cl C fp s H,PTs (aQa X N' scope cl C fp s H oc) ifs tt) (hb:∀cl C fp s H D,PB (aQa X N' scope cl C fp s H oc) (m (.ref D) (gC scope cl C X.env)) (tb D))
  (hcf:∀n acc,eH n scope.names acc=ocl oc n acc) (hpc:∀h,fQ h scope.names=ohp oc h)
  (hkind:scope.kind=.function) (hcell:∀y∈scope.names,y.2=.cell->oc=some y.1)
  (hu:∀y∈scope.names,scope.names.lookup y.1=some y.2) (hoc:∀x,oc=some x->scope.names.lookup x=some .cell)
  (hVb:okV scope.names X.env.scope.names=true)
  (hs:∀x,bZ iter X.env x=pure x)
  {use:Option (ad->Sem Unit)}{Q:VK}{Qv:ad->ah->Prop}(I:Inv X pins σ H s) (h:bJw is wi g tt tb σ H Q)
  (fin:∀D C H5 s6,Inv X pins σ H5 s6->(∃m,s6.heap.Ns C m)->FrC X pins C H5->Q (.ref D) H5->compPost (aE X.prog X.w) X.A X.xe use Qv (.ref D) C (.ok .next) s6) :
  aH (aE X.prog X.w) X.A (comprehension (.ListComp elt (⟨target,iter,ifs,0⟩::gs) scope pos) scope X.env (firstIterPos (⟨target,iter,ifs,0⟩::gs) pos) (newList []) (firstAsync (⟨target,iter,ifs,0⟩::gs)) (firstIter (⟨target,iter,ifs,0⟩::gs) X.env) use) Qv X.xe s:=by
 have hV:=dZn hVb;have hV':∀x,(x,aW)∈scope.names->Vis X.env.scope x/\X.env.scope.names.lookup x≠some .local:=λx i=>hV (x,.free) i rfl;have hu':∀x,(x,aW)∈scope.names->scope.names.lookup x=some .free:=λx i=>hu (x,.free) i;have j:∀x∈scope.names,x.2=.local->scope.names.lookup x.1=some .local:=λx i hl=>by rw[hu x i,hl]
 obtain⟨cl,L,c1,c2,c3⟩:=aX5 (env:=X.env) (scope:=scope) λx i=>I.ok.has x (by
  obtain⟨v,n⟩:=hV' x i;rcases v with v|v|v
  ·exact absurd v n
  ·exact .inl v
  ·exact .inr v)
 have hun:∀x,oc=some x->cl.lookup x=none:=λx i=>by
  cases e:cl.lookup x with
  |none=>rfl
  |some c =>
   have:=hu' x (c3 x c e)
   rw[hoc x i] at this;cases this
 refine wpAny_comprehension_free (use:=use) rfl hs L hkind j (thn (hi pins s σ H _ I h) λv s1 h1=>thn h1 λitv s2 h2=>?_);obtain⟨it,fp,tn,J,H2,rfl,I2,T,st2,f2,q2⟩:=h2;refine bC ?_;have hD:H2 s2.heap.objs.size=none:=I2.hok.fresh (Nat.le_refl _);have fpl:∀b∈fp,b<s2.heap.objs.size:=λb hb=>by obtain⟨o,e,_⟩:=T.obj _ _ st2 b hb;exact aD e
 have O:Inv X pins σ (upd H2 s2.heap.objs.size (.lst [])) {s2 with heap:=s2.heap.push {cls:=.type "list",dict:=none,data:=.seq ([]:List ad).toArray}} :=
  I2.laid (t':=s2.toks) (λb u e=>af _ e) (Nat.le_refl _) ⟨Nat.zero_le _,[],0,.nil,az _ rfl⟩
 have st3:tn 0 (s2.heap.push {cls:=.type "list",dict:=none,data:=.seq ([]:List ad).toArray}):=T.keep _ _ _ st2 λb hb o e=>af _ e;have U:∀b∈fp,FpOk X pins (upd H2 s2.heap.objs.size (.lst [])) b:=λb hb=>⟨by rw[upd_ne (Nat.ne_of_lt (fpl b hb))];exact(f2 b hb).1,(f2 b hb).2⟩
 have B:∀b∈fp,b<(s2.heap.push {cls:=.type "list",dict:=none,data:=.seq ([]:List ad).toArray}).objs.size:=λb hb=>by rw[c8];exact Nat.lt_succ_of_lt (fpl b hb)
 have q3:=q2 _ hD;generalize hDe:s2.heap.objs.size=D at *
 generalize hs3:({s2 with heap:=s2.heap.push {cls:=.type "list",dict:=none,data:=.seq ([]:List ad).toArray}}:ah)=s3 at *
 have hsh:s3.heap=s2.heap.push {cls:=.type "list",dict:=none,data:=.seq ([]:List ad).toArray}:=by rw[<- hs3]
 rw[<- hsh] at st3 B;have ok:=bQd (N':=N') (cl:=cl) (oc:=oc) O U B hkind c1 c2 hcell hun;have I4:=aJr O ok hN c1 c2 hu' cp hV' hun;refine cZy ?_;rw[hcf,hpc];have kp:∀b o,s3.heap.get? b=some o->(ohp oc (s3.heap.push {cls:=.type "dict",data:=.dict #[]})).get? b=some o:=λb o e=>aJc (af _ e);have Z:tn 0 (ohp oc (s3.heap.push {cls:=.type "dict",data:=.dict #[]})):=T.keep _ _ _ st3 λb _ o e=>kp b o e;have f4:∀b∈fp,FpOk (aQa X N' scope (ocl oc (s3.heap.objs.size+1) cl) s3.heap.objs.size fp s3 (upd H2 D (.lst [])) oc) [] (upd H2 D (.lst [])) b:=λb hb =>
  ⟨(U b hb).1,(ok.exf b hb).1,ok.exfs b hb,.inl hb,(ok.exf b hb).2,λp hp=>absurd (show p∈([]:List (Addr×Obj)) from hp) (by simp)⟩
 have loop:=bQw (X:=aQa X N' scope (ocl oc (s3.heap.objs.size+1) cl) s3.heap.objs.size fp s3 (upd H2 D (.lst [])) oc) (e:=.ListComp elt (⟨target,iter,ifs,0⟩::gs) scope pos) (d:=0) (acc:=.ref D)
  (R:=compPost (aE X.prog X.w) X.A X.xe use Qv (.ref D) s3.heap.objs.size) hcalm rfl (hturn _ _ _) rfl rfl T (hg _ _ _ _ _) (ht _ _ _ _ _) (hb _ _ _ _ _ D) I4 Z f4 q3 (by
   intro H5 s6 Y _ qn;obtain⟨m6,n6,_⟩:=id Y.loc;have un:Un (frs X.stack) fp (upd H2 D (.lst [])) H5 s3.heap s6.heap:=Y.base;have hok':HOk X.prog X.w H5 s6.heap:=Y.hok;refine fin D s3.heap.objs.size H5 s6 (O.call' (s':=s6) (ch:=fp) Y.os un hok' Y.bare λb hb=>⟨(U b hb).2.2.2.1,(U b hb).2.1,(U b hb).2.2.2.2.1,(U b hb).2.2.2.2.2⟩) ⟨m6,n6⟩ ⟨Y.free,Nat.ne_of_gt O.lt,O.sz,λx c e z=>?_,λp hp z=>?_⟩ qn
   ·obtain⟨v,q⟩:=O.cell x c e;exact absurd q.lt (by rw[z];exact Nat.lt_irrefl _)
   ·exact absurd (aD (O.pin p hp).1) (by rw[z];exact Nat.lt_irrefl _))
 exact codeAny_compStart_list loop (T.self _ 0 _ _ _ Z loop)
theorem dQd{elt target iter:Expr}{ifs:List Expr}{gs:List eD}{scope:Scope}{pos:Pos}{N':List Str}{is:List (Option Nat)}{wi:TI}{g:TG}{tt:TT}{tb:Addr->TB}{oc:Option Str}{m:ad->Env->Sem Unit}(hcalm:X.calm=true)(hN:X.N.Nodup)
  (hturn:∀it acc env,eJ (.ListComp elt (⟨target,iter,ifs,0⟩::gs) scope pos) 0 it acc env=aZ1 target ifs iter.pos (m acc env) (.compLoop (.ListComp elt (⟨target,iter,ifs,0⟩::gs) scope pos) 0 it acc env) it env)
  (cp:Cap X.N scope N' is) (hi:PI X target iter wi)
  (hg:∀cl C fp s H,PG (aQa X N' scope cl C fp s H oc) target g) (ht:∀cl C fp s H,PTs (aQa X N' scope cl C fp s H oc) ifs tt) (hb:∀cl C fp s H D,PB (aQa X N' scope cl C fp s H oc) (m (.ref D) (gC scope cl C X.env)) (tb D))
  (hcf:∀n acc,eH n scope.names acc=ocl oc n acc:=by intro _ _;rfl) (hpc:∀h,fQ h scope.names=ohp oc h:=by intro _;rfl)
  (hkind:scope.kind=.function:=by rfl) (hcell:∀y∈scope.names,y.2=.cell->oc=some y.1:=by decide +kernel)
  (hu:∀y∈scope.names,scope.names.lookup y.1=some y.2:=by decide +kernel) (hoc:∀x,oc=some x->scope.names.lookup x=some .cell:=by intro x h;cases h <;> rfl)
  (hVb:okV scope.names X.env.scope.names=true:=by first|rfl|kernel_rfl)
  (hs:∀x,bZ iter X.env x=pure x:=by intro _;rfl) :
  PE X (.ListComp elt (⟨target,iter,ifs,0⟩::gs) scope pos) (bJw is wi g tt tb):=by
 intro pins s σ H Q I h;rw[eval_ListComp];refine comp_gen hcalm hN hturn cp hi hg ht hb hcf hpc hkind hcell hu hoc hVb hs I h λD C z B v ⟨m,n⟩ j i=>?_;exact⟨m,n,λh' d=>⟨.ref D,z,j.gone v d,rfl,i⟩⟩
theorem dXx{x:Str}{i:Nat}{pos' spos:Pos}(hix:X.N[i]?=some x)(hx:Loc X.env.scope x){elt target iter:Expr}{ifs:List Expr}{gs:List eD}{scope:Scope}{pos:Pos}{N':List Str}{is:List (Option Nat)}{wi:TI}{g:TG}{tt:TT}{tb:Addr->TB}{oc:Option Str}{m:ad->Env->Sem Unit}(hcalm:X.calm=true)(hN:X.N.Nodup)
  (hturn:∀it acc env,eJ (.ListComp elt (⟨target,iter,ifs,0⟩::gs) scope pos) 0 it acc env=aZ1 target ifs iter.pos (m acc env) (.compLoop (.ListComp elt (⟨target,iter,ifs,0⟩::gs) scope pos) 0 it acc env) it env)
  (cp:Cap X.N scope N' is) (hi:PI X target iter wi)
  (hg:∀cl C fp s H,PG (aQa X N' scope cl C fp s H oc) target g) (ht:∀cl C fp s H,PTs (aQa X N' scope cl C fp s H oc) ifs tt) (hb:∀cl C fp s H D,PB (aQa X N' scope cl C fp s H oc) (m (.ref D) (gC scope cl C X.env)) (tb D))
  (hcf:∀n acc,eH n scope.names acc=ocl oc n acc:=by intro _ _;rfl) (hpc:∀h,fQ h scope.names=ohp oc h:=by intro _;rfl)
  (hkind:scope.kind=.function:=by rfl) (hcell:∀y∈scope.names,y.2=.cell->oc=some y.1:=by decide +kernel)
  (hu:∀y∈scope.names,scope.names.lookup y.1=some y.2:=by decide +kernel) (hoc:∀x,oc=some x->scope.names.lookup x=some .cell:=by intro x h;cases h <;> rfl)
  (hVb:okV scope.names X.env.scope.names=true:=by first|rfl|kernel_rfl)
  (hs:∀x,bZ iter X.env x=pure x:=by intro _;rfl)
  (hsw:iD (.ListComp elt (⟨target,iter,ifs,0⟩::gs) scope pos) (some (.Name x pos')) spos.line X.env=pure true:=by first|rfl|kernel_rfl) (hf:X.fn x=true\/X.env.scope.names.lookup x=some .local:=by first|exact .inl rfl|exact .inr rfl|assumption) :
  PS X (.Assign [.Name x pos'] (.ListComp elt (⟨target,iter,ifs,0⟩::gs) scope pos) spos) (tAsg (bJw is wi g tt tb) (cZj i)):=by
 intro pins s σ H D I h;rw[exec_Assign_Name_used _ _ _ _ hsw];refine aa (eZ (aa ?_));show aH _ _ (comprehension _ _ _ _ _ _ _ (some _)>>=λ_=>pure ()) _ _ _;refine aa (comp_gen (Qv:=λ_ s'=>aH (aE X.prog X.w) X.A (pure ()) _ X.xe s') hcalm hN hturn cp hi hg ht hb hcf hpc hkind hcell hu hoc hVb hs I h λE C Y s6 U ⟨m,n⟩ v J=>?_);refine wpAny_assign_Name (bZr U hN hix hx (show RelV (.ref E) (.ref E) from rfl) (λZ O ⟨a,B,L⟩=>?_) hf)
 have j:C≠a:=by
  rintro rfl;rcases L with z|z
  ·exact v.2.1 z
  ·exact v.2.2.2.1 x C z rfl
 refine⟨m,n.sameBut B j,λh' d=>ae (ae ?_)⟩;exact⟨_,Y,v.gone O d,J⟩
end
end L2
set_option maxHeartbeats 4000000
namespace L2
open PySem PySem.Spec PyProof.Rows
abbrev Dn(α:Type):=Hp->V->α->Prop
abbrev Fg:=av
def dS:Dn Str:=λ_ v x=>v=.str x
def dB:Dn Bool:=λ_ v b=>v=.bl b
def dT{α:Type}(K:Fg)(R:Dn α):Dn (List α):=λH v ds=>∃a xs,v=.ref a/\SqT K H a xs/\bi (R H) xs ds
def dL{α:Type}(K:Fg)(R:Dn α):Dn (List α):=λH v ds=>∃a xs,v=.ref a/\SqL K H a xs/\bi (R H) xs ds
def SameT(H H':Hp):Prop:=∀a xs,Rd H a (.tup xs)->Rd H' a (.tup xs)
theorem Same.t{H H':Hp}(h:Same H H'):SameT H H':=λa xs r=>by
 rcases r with r|⟨o,r⟩
 ·exact .inl (h _ _ r)
 ·exact .inr ⟨o,h _ _ r⟩
theorem aZc{H:Hp}{p:Addr}{o:HO}(h:H p=none):Same H (upd H p o):=λb o' e=>by
 rw[upd_ne (by rintro rfl;rw[h] at e;cases e)];exact e
theorem SqT.stay{K:Fg}{H H':Hp}{a:Addr}{xs:List V}(h:SqT K H a xs)(s:SameT H H'):SqT K H' a xs:=h.elim (λr=>.inl (s a xs r)) .inr
class Im {α:Type}(R:Dn α):Prop where
 im:∀{H H' v d},SameT H H'->R H v d->R H' v d
class Mo {α:Type}(R:Dn α):Prop where
 mo:∀{H H' v d},Same H H'->R H v d->R H' v d
instance (priority:=low) {α:Type}{R:Dn α}[Im R]:Mo R:=⟨λs r=>Im.im s.t r⟩
theorem Paired.imp{α β:Type}{F G:α->β->Prop}(h:∀a b,F a b->G a b):∀{l:List α}{m:List β},bi F l m->bi G l m
 |_,_,.nil=>.nil
 |_,_,.cons p q=>.cons (h _ _ p) (Paired.imp h q)
instance:Im dS:=⟨λ_ h=>h⟩
instance {α:Type}{K:Fg}{R:Dn α}[Im R]:Im (dT K R):=⟨λs ⟨a,xs,e,q,p⟩=>⟨a,xs,e,q.stay s,Paired.imp (λ_ _ r=>Im.im s r) p⟩⟩
theorem beq_dec{α:Type}[DecidableEq α][BEq α][LawfulBEq α](a b:α):(a==b)=decide (a=b):=by
 by_cases h:a=b
 ·subst h;simp
 ·simp[h]
theorem Paired.get'{α β:Type}{F:α->β->Prop}:∀{l:List α}{m:List β}{i:Nat}{a:α},bi F l m->l[i]?=some a->∃b,m[i]?=some b/\F a b
 |_,_,_,_,.nil,h=>by simp at h
 |_,_,0,_,.cons p _,h=>by simp at h;subst h;exact⟨_,rfl,p⟩
 |_,_,i+1,a,.cons _ q,h=>by
  obtain⟨b,e,f⟩:=Paired.get' (i:=i) (a:=a) q (by simpa using h)
  exact⟨b,by simpa using e,f⟩
theorem eXe{α:Type}[DecidableEq α]:∀(ds es:List α),((a6 (min ds.length es.length)).all λj=>decide (ds[j]?=es[j]?))=true->ds.length=es.length->ds=es:=λds es h d=>by
 apply fb;intro i
 by_cases hi:i<ds.length
 ·have:=bY.mp h i (aX.mpr (by lia))
  exact of_decide_eq_true this
 ·rw[bV (by lia),bV (by lia)]
theorem cZz{α:Type}[DecidableEq α](ds es:List α)(n m:Nat)(hn:n=ds.length)(hm:m=es.length):((a6 (min n m)).all (λj=>decide (ds[j]?=es[j]?))&&(n==m))=decide (ds=es):=by
 subst hn;subst hm
 by_cases h:ds=es
 ·subst h;simp
 ·rw[decide_eq_false h,gg]
  by_cases d:ds.length=es.length
  ·left
   cases q:(a6 (min ds.length es.length)).all λj=>decide (ds[j]?=es[j]?) with
   |false=>rfl
   |true=>exact absurd (eXe ds es q d) h
  ·right;simpa using d
variable{α β γ:Type}
end L2
namespace ST
open PySem PySem.SetTable
def step(mask:Nat)(p:Probe):Probe :=
 if p.more>0 then {p with j:=p.j+1,more:=p.more-1} else
 {p with j:=(leap mask p.i p.perturb).1,more:=runEnd mask (leap mask p.i p.perturb).1-(leap mask p.i p.perturb).1,i:=(leap mask p.i p.perturb).1,perturb:=(leap mask p.i p.perturb).2}
theorem bQe(t:aV)(p:Probe):t.advance p=step t.mask p:=by
 unfold aV.advance step
 split <;> rfl
def road(mask:Nat):Nat->Probe->Probe
 |0,p=>p
 |m+1,p=>road mask m (step mask p)
theorem aJs(mask:Nat):∀(m:Nat) (p:Probe),road mask (m+1) p=step mask (road mask m p)
 |0,_=>rfl
 |m+1,p=>by
  show road mask (m+1) (step mask p)=step mask (road mask m (step mask p));exact aJs mask m (step mask p)
theorem aQr(mask:Nat):∀(a b:Nat) (p:Probe),road mask (a+b) p=road mask b (road mask a p)
 |0,b,p=>by rw[Nat.zero_add];rfl
 |a+1,b,p=>by
  rw[Nat.add_right_comm];show road mask (a+b) (step mask p)=road mask b (road mask a (step mask p));exact aQr mask a b _
theorem bQf(mask:Nat)(p:Probe):(step mask p).dummy=p.dummy:=by unfold step;split <;> rfl
theorem aJt(mask i:Nat)(h:i<=mask):i<=runEnd mask i/\runEnd mask i<=mask/\runEnd mask i<=i+9:=by
 unfold runEnd;split <;> lia
structure PV(mask:Nat)(p:Probe):Prop where
 more:p.more<=9
 i:p.i<=mask
 j:p.j+p.more<=mask
 pt:p.perturb<2^64
theorem bXs(mask i pt:Nat):(leap mask i pt).1<=mask:=by
 unfold leap
 have:=Nat.mod_lt (i*5+1+pt/32) (show 0<mask+1 by lia)
 show(i*5+1+pt/32)%(mask+1)<=mask;lia
theorem PV.step{mask:Nat}{p:Probe}(v:PV mask p):PV mask (ST.step mask p):=by
 unfold ST.step;have h1:=v.more;have h2:=v.i;have z:=v.j;have d:=v.pt
 split
 ·exact⟨by dsimp only;lia,h2,by dsimp only;lia,d⟩
 ·have l:=bXs mask p.i p.perturb;have r:=aJt mask _ l;refine⟨by dsimp only;lia,l,by dsimp only;lia,?_⟩
  show p.perturb/32<2^64;exact Nat.lt_of_le_of_lt (Nat.div_le_self _ _) d
theorem PV.road{mask:Nat}:∀(m:Nat) {p:Probe},PV mask p->PV mask (ST.road mask m p)
 |0,_,v=>v
 |m+1,_,v=>PV.road m v.step
theorem dXy(h:Int):bits h<2^64:=by
 unfold bits;have h1:=Int.emod_nonneg h (show(2^64:Int)≠0 by decide)
 have h2:=Int.emod_lt_of_pos h (show(0:Int)<2^64 by decide)
 have:(2:Int)^64=18446744073709551616:=by decide
 have:(2:Nat)^64=18446744073709551616:=by decide
 lia
def start(mask:Nat)(h:Int):Probe:={j:=bits h%(mask+1),more:=runEnd mask (bits h%(mask+1))-bits h%(mask+1),i:=bits h%(mask+1),perturb:=bits h,dummy:=none}
theorem aXd(mask:Nat)(h:Int):PV mask (start mask h):=by
 have l:bits h%(mask+1)<=mask:=Nat.le_of_lt_succ (Nat.mod_lt _ (Nat.succ_pos mask));have r:=aJt mask _ l;exact⟨by show _-_<=9;lia,l,by show bits h%(mask+1)+(runEnd mask (bits h%(mask+1))-bits h%(mask+1))<=mask;lia,dXy h⟩
theorem cX0(mask:Nat):∀(k:Nat) (p:Probe),k<=p.more->road mask k p={p with j:=p.j+k,more:=p.more-k}
 |0,p,_=>rfl
 |k+1,p,h=>by
  show road mask k (step mask p)=_;have e:step mask p={p with j:=p.j+1,more:=p.more-1}:=by unfold step;rw[if_pos (by lia)]
  rw[e,cX0 mask k _ (by show k<=p.more-1;lia)]
  show({j:=p.j+1+k,more:=p.more-1-k,i:=p.i,perturb:=p.perturb,dummy:=p.dummy}:Probe)={j:=p.j+(k+1),more:=p.more-(k+1),i:=p.i,perturb:=p.perturb,dummy:=p.dummy};rw[show p.j+1+k=p.j+(k+1) by lia,show p.more-1-k=p.more-(k+1) by lia]
theorem cX1(mask:Nat)(p:Probe):road mask (p.more+1) p={p with j:=(leap mask p.i p.perturb).1,more:=runEnd mask (leap mask p.i p.perturb).1-(leap mask p.i p.perturb).1,i:=(leap mask p.i p.perturb).1,perturb:=(leap mask p.i p.perturb).2}:=by
 rw[aJs,cX0 mask p.more p (Nat.le_refl _)];unfold step;rw[if_neg (by show ¬ p.more-p.more>0;lia)]
def aZf(mask:Nat):Nat->Nat×Nat->Nat×Nat
 |0,s=>s
 |l+1,s=>aZf mask l (leap mask s.1 s.2)
theorem aZi(mask:Nat):∀(l:Nat) (s:Nat×Nat),aZf mask (l+1) s=leap mask (aZf mask l s).1 (aZf mask l s).2
 |0,_=>rfl
 |l+1,s=>by
  show aZf mask (l+1) (leap mask s.1 s.2)=_;exact aZi mask l _
theorem bQx(mask:Nat):∀(l:Nat) (s:Nat×Nat),(aZf mask l s).2=s.2/32^l
 |0,s=>by simp[aZf]
 |l+1,s=>by
  rw[aZi];show(aZf mask l s).2/32=_;rw[bQx mask l s,Nat.div_div_eq_div_mul,Nat.pow_succ]
theorem far(mask:Nat):∀(l:Nat) (p:Probe),PV mask p->∃m,m<=10*l/\(road mask m p).i=(aZf mask l (p.i,p.perturb)).1/\(road mask m p).perturb=(aZf mask l (p.i,p.perturb)).2/\(0<l->(road mask m p).j=(road mask m p).i)
 |0,p,_=>⟨0,Nat.le_refl _,rfl,rfl,λh=>absurd h (Nat.lt_irrefl _)⟩
 |l+1,p,v=>by
  obtain⟨m,h1,h2,z,B⟩:=far mask l p v;have d:=PV.road m v;refine⟨m+((road mask m p).more+1),?_,?_⟩
  ·have:=d.more;lia
  ·rw[aQr,cX1,aZi,<- h2,<- z];exact⟨rfl,rfl,λ_=>rfl⟩
def f5(N x:Nat):Nat:=(x*5+1)%N
def f5s(N:Nat):Nat->Nat->Nat
 |0,x=>x
 |a+1,x=>f5s N a (f5 N x)
theorem bQy(N:Nat):∀(a b x:Nat),f5s N (a+b) x=f5s N b (f5s N a x)
 |0,b,x=>by rw[Nat.zero_add];rfl
 |a+1,b,x=>by rw[Nat.add_right_comm];exact bQy N a b _
def dXz(N:Nat):Nat->Nat->List Nat->List Nat
 |0,_,acc=>acc
 |a+1,x,acc=>dXz N a (f5 N x) (x::acc)
theorem bZy(N:Nat):∀(a x:Nat) (acc:List Nat) (y:Nat),y∈dXz N a x acc->y∈acc\/∃b,b<a/\f5s N b x=y
 |0,_,_,_,h=>.inl h
 |a+1,x,acc,y,h=>by
  rcases bZy N a (f5 N x) (x::acc) y h with h|⟨b,d,e⟩
  ·rcases aK.mp h with h|h
   ·exact .inr ⟨0,Nat.succ_pos _,h.symm⟩
   ·exact .inl h
  ·exact .inr ⟨b+1,Nat.succ_lt_succ d,e⟩
def Full(N:Nat):Prop:=f5s N N 0=0/\∀y,y<N->∃b,b<N/\f5s N b 0=y
theorem bQz{N:Nat}(h:(f5s N N 0==0&&(a6 N).all λy=>(dXz N N 0 []).contains y)=true):Full N:=by
 simp only[bb,beq_iff_eq,bY,aX] at h;refine⟨h.1,λy d=>?_⟩;have q:=h.2 y d;rcases bZy N N 0 [] y (by simpa using q) with z|z
 ·cases z
 ·exact z
theorem Full.from{N:Nat}(F:Full N){x y:Nat}(hx:x<N)(hy:y<N):∃a,a<N/\f5s N a x=y:=by
 obtain⟨b,v,i⟩:=F.2 x hx;obtain⟨c,j,d⟩:=F.2 y hy
 by_cases h:b<=c
 ·refine⟨c-b,by lia,?_⟩
  rw[<- i,<- bQy,show b+(c-b)=c by lia,d]
 ·refine⟨N-b+c,by lia,?_⟩
  rw[<- i,<- bQy,show b+(N-b+c)=N+c by lia,bQy,F.1,d]
theorem fQz:Full 8:=bQz (by decide +kernel)
theorem eXf:Full 32:=bQz (by decide +kernel)
theorem dJ0:Full 128:=bQz (by decide +kernel)
theorem dJ1:Full 512:=bQz (by decide +kernel)
def Mask(mask:Nat):Prop:=mask=7\/mask=31\/mask=127\/mask=511
theorem Mask.full{mask:Nat}(h:Mask mask):Full (mask+1):=by
 rcases h with rfl|rfl|rfl|rfl
 ·exact fQz
 ·exact eXf
 ·exact dJ0
 ·exact dJ1
theorem bZ0{mask:Nat}:∀(a:Nat) (s:Nat×Nat),s.2<32->(aZf mask a s).1=f5s (mask+1) a s.1
 |0,_,_=>rfl
 |a+1,s,h=>by
  show(aZf mask a (leap mask s.1 s.2)).1=f5s (mask+1) a (f5 (mask+1) s.1);have e:s.2/32=0:=Nat.div_eq_of_lt h;have d:(leap mask s.1 s.2).1=f5 (mask+1) s.1:=by
   show(s.1*5+1+s.2/32)%(mask+1)=_;rw[e];rfl
  rw[bZ0 a _ (by show s.2/32<32;lia),d]
theorem aJu(mask:Nat):∀(a b:Nat) (s:Nat×Nat),aZf mask (a+b) s=aZf mask b (aZf mask a s)
 |0,b,s=>by rw[Nat.zero_add];rfl
 |a+1,b,s=>by rw[Nat.add_right_comm];exact aJu mask a b _
theorem eXg{mask:Nat}(hm:Mask mask){p:Probe}(v:PV mask p){y:Nat}(hy:y<=mask):∃m,m<10*(mask+15)/\(road mask m p).j=y:=by
 have d:(aZf mask 12 (p.i,p.perturb)).1<mask+1:=by
  rw[aZi mask 11];exact Nat.lt_succ_of_le (bXs _ _ _)
 have z:(aZf mask 12 (p.i,p.perturb)).2<32:=by
  rw[bQx]
  have:=v.pt
  show p.perturb/32^12<32;have e:(2:Nat)^64=18446744073709551616:=by decide
  have J:(32:Nat)^12=1152921504606846976:=by decide
  rw[J];lia
 obtain⟨a,L,D⟩:=hm.full.from d (Nat.lt_succ_of_le hy)
 obtain⟨m,h1,h2,_,B⟩:=far mask (12+a) p v;refine⟨m,by lia,?_⟩
 rw[B (by lia),h2,aJu,bZ0 a _ z,D]
def Ris(xs:List Nat):Prop:=xs.Pairwise (· < ·)
theorem bZ1(xs:Array Nat)(j:Nat)(hr:Ris xs.toList):∀(fuel lo hi:Nat),hi-lo<=fuel->lo<=hi->hi<=xs.size->(∀i,i<lo->xs.getD i j<j)->(∀i,hi<=i->i<xs.size->j<=xs.getD i j) ->
  below.go xs j fuel lo hi<=xs.size/\(∀i,i<below.go xs j fuel lo hi->xs.getD i j<j)/\∀i,below.go xs j fuel lo hi<=i->i<xs.size->j<=xs.getD i j
 |0,lo,hi,hf,N,z,h1,h2=>by
  have e:lo=hi:=by lia
  subst e;exact⟨z,h1,h2⟩
 |fuel+1,lo,hi,hf,N,z,h1,h2=>by
  unfold below.go
  by_cases d:lo<hi
  ·rw[if_pos d];have mlt:(lo+hi)/2<xs.size:=by lia
   have mono:∀a b,a<=b->b<xs.size->xs.getD a j<=xs.getD b j:=λa b L D=>by
    rcases Nat.lt_or_eq_of_le L with h|h
    ·have q:=(bQ.mp hr) a b (by simpa using Nat.lt_trans h D) (by simpa using D) h
     simp only[gp,D,Nat.lt_trans h D,dif_pos];simpa using Nat.le_of_lt q
    ·subst h;exact Nat.le_refl _
   show(if xs.getD ((lo+hi)/2) j<j then _ else _)<=_/\_
   by_cases B:xs.getD ((lo+hi)/2) j<j
   ·simp only[B,if_true];exact bZ1 xs j hr fuel _ hi (by lia) (by lia) z (λi v=>Nat.lt_of_le_of_lt (mono i ((lo+hi)/2) (by lia) mlt) B) h2
   ·simp only[B,if_false];exact bZ1 xs j hr fuel lo _ (by lia) (by lia) (by lia) h1 (λi v J=>Nat.le_trans (Nat.le_of_not_lt B) (mono _ i v J))
  ·rw[if_neg d];have e:lo=hi:=by lia
   subst e;exact⟨z,h1,h2⟩
theorem bQg{xs:Array Nat}(hr:Ris xs.toList)(j:Nat):below xs j<=xs.size/\(∀i,i<below xs j->xs.getD i j<j)/\∀i,below xs j<=i->i<xs.size->j<=xs.getD i j :=
 bZ1 xs j hr xs.size 0 xs.size (by lia) (by lia) (Nat.le_refl _) (λi h=>absurd h (Nat.not_lt_zero _)) (λi h h'=>absurd h' (Nat.not_lt.mpr h))
theorem dQe{xs:Array Nat}(hr:Ris xs.toList){i j:Nat}(h:xs[i]?=some j):below xs j=i:=by
 obtain⟨hi,e⟩:=c9.mp h;obtain⟨U,D,B⟩:=bQg hr j;have O:∀k,k<xs.size->xs.getD k j=xs.getD k 0:=λk z=>by simp[gp,z]
 have N:xs.getD i j=j:=by simp[gp,hi,e]
 have inc:∀a b,a<b->b<xs.size->xs.getD a j<xs.getD b j:=λa b d v=>by
  have q:=(bQ.mp hr) a b (by simpa using Nat.lt_trans d v) (by simpa using v) d
  simp only[gp,v,Nat.lt_trans d v,dif_pos];simpa using q
 rcases Nat.lt_trichotomy (below xs j) i with h|h|h
 ·have L:=inc _ _ h hi;have J:=B _ (Nat.le_refl _) (Nat.lt_trans h hi);lia
 ·exact h
 ·have q:=D i h;lia
structure Tab(t:aV):Prop where
 mask:Mask t.mask
 nodum:t.dummies=#[]
 ris:Ris t.place.toList
 top:∀j∈t.place.toList,j<=t.mask
theorem bXt{t:aV}(T:Tab t){j i:Nat}(h:t.place[i]?=some j):t.slot j=.live i:=by
 unfold aV.slot;dsimp only;rw[dQe T.ris h,h];simp
theorem cX2{t:aV}(T:Tab t){j:Nat}(h:j∉t.place.toList):t.slot j=.empty:=by
 unfold aV.slot;dsimp only;have e:(t.place[below t.place j]?==some j)=false:=by
  cases q:t.place[below t.place j]?==some j with
  |false=>rfl
  |true =>
   have:=fP q
   obtain⟨hi,e⟩:=c9.mp this;exact absurd (by rw[<- e];simp) h
 rw[e];simp only[aM,if_false];have d:has t.dummies j=false:=by rw[T.nodum];unfold has;simp
 rw[d];simp
theorem cZ0{t:aV}(T:Tab t)(j:Nat):(∃i,t.slot j=.live i/\t.place[i]?=some j)\/(t.slot j=.empty/\j∉t.place.toList):=by
 by_cases h:j∈t.place.toList
 ·obtain⟨i,hi,e⟩:=bd h;have q:t.place[i]?=some j:=by
   rw[c9];exact⟨by simpa using hi,by simpa using e⟩
  exact .inl ⟨i,bXt T q,q⟩
 ·exact .inr ⟨cX2 T h,h⟩
theorem cX3{t:aV}(T:Tab t)(hashAt:Nat->Int)(h:Int):∀(fuel:Nat) (p:Probe),p.dummy=none->(∃m,m<fuel/\(road t.mask m p).j∉t.place.toList) ->
    ∃m,m<fuel/\(∀m',m'<m->∃i,t.place[i]? =some (road t.mask m' p).j/\hashAt i≠h) /\
      (((road t.mask m p).j ∉ t.place.toList /\ probe.go t hashAt h fuel p=some (.empty (road t.mask m p).j none)) \/
       ∃i,t.place[i]? =some (road t.mask m p).j/\t.slot (road t.mask m p).j=.live i/\hashAt i=h/\probe.go t hashAt h fuel p=some (.candidate (road t.mask m p).j i (road t.mask (m+1) p)))
  |0,p,_,⟨m,hm,_⟩ =>absurd hm (Nat.not_lt_zero _)
  |fuel+1,p,hd,⟨m,hm,hf⟩ =>by
    unfold probe.go;rcases cZ0 T p.j with⟨i,e,q⟩|⟨e,q⟩
    · rw [e]
      dsimp only
      by_cases hh:hashAt i=h
      · refine⟨0,Nat.succ_pos _,λ_ h' =>absurd h' (Nat.not_lt_zero _),.inr ⟨i,q,e,hh,?_⟩⟩
        rw [if_pos (by simpa using hh),bQe]
        rfl
      · rw [if_neg (by simpa using hh),bQe]
        cases m with
        |zero =>exact absurd (dH.mpr (e7 q)) hf
        |succ m =>
          obtain⟨d,h1,h2,z⟩:=cX3 T hashAt h fuel (step t.mask p) (by rw [bQf]; exact hd) ⟨m,by lia,hf⟩
          refine⟨d+1,by lia,λm' v =>?_,z⟩
          cases m' with
          |zero =>exact⟨i,q,hh⟩
          |succ m' =>exact h2 m' (by lia)
    · rw [e]
      exact⟨0,Nat.succ_pos _,λ_ h' =>absurd h' (Nat.not_lt_zero _),.inl ⟨q,by rw [hd]; rfl⟩⟩
theorem bQh{t:aV}(T:Tab t)(hn:t.place.size<=t.mask):∃y,y<=t.mask/\y∉t.place.toList:=by
 apply ba;intro i;have all:∀y,y<t.mask+1->y∈t.place.toList:=λy d=>ba λh=>i ⟨y,Nat.le_of_lt_succ d,h⟩;have j:(a6 (t.mask+1)).length<=t.place.toList.length:=by
  apply g6.length_le_of_subset List.nodup_range;intro y d;exact all y (aX.mp d)
 rw[cj] at j
 have:t.place.toList.length=t.place.size:=by simp
 lia
theorem cZ1{t:aV}(T:Tab t)(hn:t.place.size<=t.mask)(hashAt:Nat->Int)(h:Int){p:Probe}(v:PV t.mask p)(hd:p.dummy=none) :
    ∃m,(∀m',m'<m->∃i,t.place[i]? =some (road t.mask m' p).j/\hashAt i≠h) /\
      (((road t.mask m p).j ∉ t.place.toList /\ t.probe hashAt h p=some (.empty (road t.mask m p).j none)) \/
       ∃i,t.place[i]? =some (road t.mask m p).j/\t.slot (road t.mask m p).j=.live i/\hashAt i=h/\t.probe hashAt h p=some (.candidate (road t.mask m p).j i (road t.mask (m+1) p))):=by
  obtain⟨y,z,hf⟩:=bQh T hn;obtain⟨m,hm,e⟩:=eXg T.mask v z;obtain⟨d,_,h2,B⟩:=cX3 T hashAt h (10*turns t.mask) p hd ⟨m,hm,by rw [e]; exact hf⟩
  exact⟨d,h2,B⟩
end ST
set_option autoImplicit false
namespace ST
open PySem PySem.SetTable
theorem aXe{α:Type}(xs:Array α)(p:Nat)(x:α)(h:p<=xs.size):(insertAt xs p x).toList=xs.toList.take p++x::xs.toList.drop p:=by
 unfold insertAt;simp only[cg,b7,Array.toList_extract,aU,List.singleton_append];simp only[List.extract,fm,Nat.sub_zero];rw[br (l:=List.drop p xs.toList) (by simp)]
theorem aX0{α:Type}{l:List α}{p i:Nat}{x y:α}(hp:p<=l.length)(h:(l.take p++x::l.drop p)[i]?=some y):(i<p/\l[i]?=some y)\/(i=p/\y=x)\/(p<i/\l[i-1]?=some y):=by
 have d:(l.take p).length=p:=by rw[aQ];lia
 rcases Nat.lt_trichotomy i p with c|c|c
 ·left
  rw[dA (by lia),fE c] at h
  exact⟨c,h⟩
 ·right;left
  subst c;rw[bU (by lia),d,Nat.sub_self] at h
  simp at h;exact⟨rfl,h.symm⟩
 ·right;right
  rw[bU (by lia),d] at h
  rw[show i-p=(i-1-p)+1 by lia,iI,g7] at h
  rw[show p+(i-1-p)=i-1 by lia] at h
  exact⟨c,h⟩
structure SetI(es:Array (Int×ad))(t:aV):Prop where
 tab:Tab t
 size:t.place.size=es.size
 room:es.size*5<t.mask*3
 reach:∀(i j:Nat) (e:Int×ad),t.place[i]?=some j->es[i]?=some e->∃r,(road t.mask r (start t.mask e.1)).j=j/\∀r',r'<r->(road t.mask r' (start t.mask e.1)).j∈t.place.toList
theorem SetI.le{es:Array (Int×ad)}{t:aV}(I:SetI es t):t.place.size<=t.mask:=by have:=I.size;have:=I.room;lia
theorem SetI.fits{es:Array (Int×ad)}{t:aV}(I:SetI es t):t.fits es.size=true:=by
 unfold jy jz;rw[I.tab.nodum,I.size]
 have:=I.room
 simp only[bb,beq_iff_eq,decide_eq_true_eq];refine⟨trivial,?_⟩;simp;lia
theorem SetI.way{es:Array (Int×ad)}{t:aV}(I:SetI es t):t.gaveWay=false:=by
 unfold aV.gaveWay;rcases I.tab.mask with e|e|e|e <;> rw[e] <;> rfl
theorem dQf(f m:Nat)(led:Bool):SetI #[] (jl f m led) where
 tab:=⟨.inl rfl,rfl,.nil,λj h=>by simp[jl] at h⟩
 size:=rfl
 room:=by show 0*5<7*3;decide
 reach:=λi j e h=>by simp[jl] at h
structure Put(t t':aV)(j p:Nat):Prop where
 tab:Tab t'
 mask:t'.mask=t.mask
 le:p<=t.place.size
 place:t'.place.toList=t.place.toList.take p++j::t.place.toList.drop p
theorem eXh{t:aV}(T:Tab t){j:Nat}(hj:j<=t.mask)(hf:j∉t.place.toList):Put t (t.put j).1 j (t.put j).2:=by
 obtain⟨O,Z,Y⟩:=bQg T.ris j;have e:(t.put j).1.place.toList=t.place.toList.take (below t.place j)++j::t.place.toList.drop (below t.place j):=aXe _ _ _ O;have U:(t.put j).1.dummies=#[]:=by
  show(if has t.dummies j=true then _ else t.dummies)=#[]
  have q:has t.dummies j=false:=by rw[T.nodum];unfold has;simp
  rw[q];simp[T.nodum]
 refine⟨⟨T.mask,U,?_,?_⟩,rfl,O,e⟩
 ·unfold Ris;rw[e,a9,aY];have L:=T.ris;unfold Ris at L;have B:∀a∈t.place.toList.take (below t.place j),a<j:=λa d=>by
   obtain⟨i,hi,J⟩:=bd d;rw[aQ] at hi;have v:i<t.place.size:=by (have:t.place.toList.length=t.place.size:=by simp);lia
   have q:=Z i (by lia)
   simp only[gp,v,dif_pos] at q;rw[fc] at J;rw[<- J];simpa using q
  have D:∀a∈t.place.toList.drop (below t.place j),j<a:=λa d=>by
   obtain⟨i,hi,J⟩:=bd d;rw[bn] at hi;have hl:t.place.toList.length=t.place.size:=by simp
   have v:below t.place j+i<t.place.size:=by lia
   have q:=Y (below t.place j+i) (by lia) v
   simp only[gp,v,dif_pos] at q;rw[fY] at J;have ne:a≠j:=λz=>hf (by rw[<- z];exact cV d)
   have q':j<=a:=by rw[<- J];simpa using q
   lia
  refine⟨L.sublist (c7 _ _),⟨D,L.sublist (List.drop_sublist _ _)⟩,λa d b N=>?_⟩;rcases aK.mp N with rfl|N
  ·exact B a d
  ·exact Nat.lt_trans (B a d) (D b N)
 ·intro a d;rw[e] at d;rcases aL.mp d with d|d
  ·exact T.top a (bD d)
  ·rcases aK.mp d with rfl|d
   ·exact hj
   ·exact T.top a (cV d)
theorem put_set{es:Array (Int×ad)}{t:aV}(I:SetI es t){j r:Nat}{h:Int}{x:ad}(hj:j<=t.mask)(hf:j∉t.place.toList)(e:(road t.mask r (start t.mask h)).j=j)(hr:∀r',r'<r->(road t.mask r' (start t.mask h)).j∈t.place.toList) :
  ∀b,(insertAt es (t.put j).2 (h,x)).toList=es.toList.take (t.put j).2++(h,x)::es.toList.drop (t.put j).2/\(insertAt es (t.put j).2 (h,x)).size=es.size+1 /\
   Tab { (t.put j).1 with plain:=b}/\(t.put j).1.place.size=es.size+1/\(t.put j).1.mask=t.mask /\
   ∀(i j':Nat) (e':Int×ad),(t.put j).1.place[i]?=some j'->(insertAt es (t.put j).2 (h,x))[i]?=some e'->∃r,(road t.mask r (start t.mask e'.1)).j=j'/\∀r',r'<r->(road t.mask r' (start t.mask e'.1)).j∈(t.put j).1.place.toList:=by
 intro b;have P:=eXh I.tab hj hf;have hle:(t.put j).2<=es.size:=by rw[<- I.size];exact P.le
 have el:=aXe es (t.put j).2 (h,x) hle;have sz:(insertAt es (t.put j).2 (h,x)).size=es.size+1:=by
  have q:=congrArg gz el;rw[aG,bA,aQ,bn] at q
  have:es.toList.length=es.size:=by simp
  rw[show(insertAt es (t.put j).2 (h,x)).toList.length=(insertAt es (t.put j).2 (h,x)).size by simp] at q
  lia
 have N:(t.put j).1.place.size=es.size+1:=by
  have q:=congrArg gz P.place;rw[aG,bA,aQ,bn] at q
  have:t.place.toList.length=t.place.size:=by simp
  have:=I.size
  have:=P.le
  rw[show(t.put j).1.place.toList.length=(t.put j).1.place.size by simp] at q
  lia
 refine⟨el,sz,⟨P.tab.mask,P.tab.nodum,P.tab.ris,P.tab.top⟩,N,P.mask,λi j' e' h1 h2=>?_⟩;have sub:∀a∈t.place.toList,a∈(t.put j).1.place.toList:=λa J=>by
  rw[P.place];rw[<- bg (t.put j).2 t.place.toList] at J;rcases aL.mp J with J|J
  ·exact cC _ J
  ·exact bf _ (au _ J)
 have old:∀L,t.place.toList[L]?=some j'->es.toList[L]?=some e'->∃r,(road t.mask r (start t.mask e'.1)).j=j'/\∀r',r'<r->(road t.mask r' (start t.mask e'.1)).j∈(t.put j).1.place.toList:=λL a b=>by
  obtain⟨r,z,d⟩:=I.reach L j' e' (by rw[<- aN];exact a) (by rw[<- aN];exact b)
  exact⟨r,z,λr' B=>sub _ (d r' B)⟩
 have O:(t.place.toList.take (t.put j).2++j::t.place.toList.drop (t.put j).2)[i]?=some j':=by rw[<- P.place];simpa using h1
 have D:(es.toList.take (t.put j).2++(h,x)::es.toList.drop (t.put j).2)[i]?=some e':=by rw[<- el];simpa using h2
 rcases aX0 (by simpa using P.le) O with⟨U,z⟩|⟨U,z⟩|⟨U,z⟩
 ·rcases aX0 (by simpa using hle) D with⟨v,d⟩|⟨v,d⟩|⟨v,d⟩
  ·exact old i z d
  ·lia
  ·lia
 ·rcases aX0 (by simpa using hle) D with⟨v,d⟩|⟨v,d⟩|⟨v,d⟩
  ·lia
  ·subst z d;exact⟨r,e,λr' B=>sub _ (hr r' B)⟩
  ·lia
 ·rcases aX0 (by simpa using hle) D with⟨v,d⟩|⟨v,d⟩|⟨v,d⟩
  ·lia
  ·lia
  ·exact old (i-1) z d
abbrev Own:=Array (Option Nat)
def liveOf(mask:Nat)(owner:Own):List (Nat×Nat):=(a6 (mask+1)).filterMap λj=>(owner.getD j none).map (j,·)
theorem aZ4{α β:Type}{f g:α->Option β}:∀{l:List α},(∀a∈l,f a=g a)->l.filterMap f=l.filterMap g
 |[],_=>rfl
 |a::l,h=>by
  rw[cf,cf,h a aq,aZ4 λb d=>h b (au _ d)]
theorem dQg{mask:Nat}{owner:Own}{j k:Nat}(hs:owner.size=mask+1)(hj:j<=mask)(hn:owner.getD j none=none):(liveOf mask (owner.setIfInBounds j (some k))).Perm ((j,k)::liveOf mask owner):=by
 unfold liveOf;obtain⟨s,u,e⟩:=List.append_of_mem (aX.mpr (Nat.lt_succ_of_le hj));have nd:(a6 (mask+1)).Nodup:=List.nodup_range;rw[e] at nd ⊢;have h1:j∉s:=λh=>by
  have:=da.mp nd
  exact absurd rfl (this.2.2 j h j aq)
 have h2:j∉u:=λh=>by
  have:=da.mp nd
  exact(bM.mp this.2.1).1 h
 have g:∀a,a≠j->(owner.setIfInBounds j (some k)).getD a none=owner.getD a none:=λa d=>by
  rw[bR,bR,gb (cY d)]
 have i:(owner.setIfInBounds j (some k)).getD j none=some k:=by
  rw[bR,fg (by lia)];rfl
 rw[gh,gh,cf,cf,i,hn];simp only[Option.map_some,Option.map_none];rw[aZ4 (l:=s) (g:=λj=>(owner.getD j none).map (j,·)) λa d=>by rw[g a λz=>h1 (z▸d)],aZ4 (l:=u) (g:=λj=>(owner.getD j none).map (j,·)) λa d=>by rw[g a λz=>h2 (z▸d)]]
 exact fx
theorem bJy{owner:Own}{j:Nat}(h:j<owner.size)(d:Option Nat):owner.getD j d=owner[j]:=by simp[gp,h]
theorem bZz{mask:Nat}{owner:Own}(hs:owner.size=mask+1):∀(fuel:Nat) (p:Probe),PV mask p->p.j=p.i->p.more=runEnd mask p.i-p.i->(∃l,l<fuel/\owner.getD (aZf mask l (p.i,p.perturb)).1 none=none) ->
  ∃r j,layClean.free mask owner fuel p.i p.perturb=some j/\(road mask r p).j=j/\j<=mask/\owner.getD j none=none/\∀r',r'<r->(owner.getD (road mask r' p).j none).isSome=true
 |0,p,_,_,_,⟨l,h,_⟩=>absurd h (Nat.not_lt_zero _)
 |fuel+1,p,v,N,hm,⟨l,hl,hf⟩=>by
  have re:=aJt mask p.i v.i;have Z:=v.j;have B:∀k,k<=p.more->p.i+k<=mask:=λk d=>by lia
  have gd:∀k,k<=p.more->owner.getD (p.i+k) (some 0)=owner.getD (p.i+k) none:=λk d=>by
   have:p.i+k<owner.size:=by have:=B k d;lia
   rw[bJy this,bJy this]
  have rd:∀k,k<=p.more->(road mask k p).j=p.i+k:=λk d=>by rw[cX0 mask k p d,<- N]
  unfold layClean.free;have Y:runEnd mask p.i+1-p.i=p.more+1:=by lia
  rw[Y];cases hq:(a6 (p.more+1)).find? λk=>(owner.getD (p.i+k) (some 0)).isNone with
  |some k =>
   rw[List.find?_range_eq_some] at hq;obtain⟨h1,h2,O⟩:=hq;have d:k<=p.more:=Nat.le_of_lt_succ (aX.mp h2);refine⟨k,p.i+k,rfl,rd k d,B k d,?_,λr' D=>?_⟩
   ·rw[gd k d] at h1;exact Option.isNone_iff_eq_none.mp h1
   ·have q:=O r' D;rw[gd r' (by lia)] at q
    rw[rd r' (by lia)]
    cases e:owner.getD (p.i+r') none with
    |none=>rw[e] at q;cases q
    |some z=>rfl
  |none =>
   rw[List.find?_eq_none] at hq;have taken:∀k,k<=p.more->(owner.getD (p.i+k) none).isSome=true:=λk d=>by
    have q:=hq k (aX.mpr (Nat.lt_succ_of_le d));rw[gd k d] at q;cases e:owner.getD (p.i+k) none with
    |none=>rw[e] at q;exact absurd rfl q
    |some z=>rfl
   cases l with
   |zero =>
    have q:=taken 0 (Nat.zero_le _);have J:owner.getD p.i none=none:=hf;rw[Nat.add_zero,J] at q;cases q
   |succ l =>
    have e:=cX1 mask p;have L:PV mask (road mask (p.more+1) p):=PV.road _ v;obtain⟨r,j,f1,f2,U,f4,f5⟩:=bZz hs fuel (road mask (p.more+1) p) L (by rw[e]) (by rw[e]) ⟨l,by lia,by rw[e];exact hf⟩
    refine⟨p.more+1+r,j,?_,by rw[aQr];exact f2,U,f4,λr' D=>?_⟩
    ·rw[e] at f1;exact f1
    ·by_cases c:r'<=p.more
     ·rw[rd r' c];exact taken r' c
     ·have q:=f5 (r'-(p.more+1)) (by lia)
      rw[<- aQr,show p.more+1+(r'-(p.more+1))=r' by lia] at q
      exact q
structure OwnI(mask:Nat)(owner:Own)(hs:List Int):Prop where
 size:owner.size=mask+1
 perm:((liveOf mask owner).map (·.2)).Perm (a6 hs.length)
 reach:∀(j k:Nat),owner.getD j none=some k->∃h,hs[k]?=some h/\∃r,(road mask r (start mask h)).j=j/\∀r',r'<r->(owner.getD (road mask r' (start mask h)).j none).isSome=true
theorem OwnI.free{mask:Nat}(hm:Mask mask){owner:Own}{hs:List Int}(I:OwnI mask owner hs)(hl:hs.length<=mask):∃y,y<=mask/\owner.getD y none=none:=by
 apply ba;intro i;have all:∀y,y<mask+1->(owner.getD y none).isSome=true:=λy d=>by
  cases e:owner.getD y none with
  |none=>exact absurd ⟨y,Nat.le_of_lt_succ d,e⟩ i
  |some z=>rfl
 have len:((a6 (mask+1)).filterMap λj=>(owner.getD j none).map (j,·)).length=mask+1:=by
  have gen:∀l:List Nat,(∀y∈l,(owner.getD y none).isSome=true)->(l.filterMap λj=>(owner.getD j none).map (j,·)).length=l.length:=by
   intro l
   induction l with
   |nil=>intro _;rfl
   |cons a l v =>
    intro h;obtain⟨z,e⟩:=cr.mp (h a aq);rw[cf,e];simp only[Option.map_some,bA];rw[v λy d=>h y (au _ d)]
  rw[gen _ λy d=>all y (aX.mp d),cj]
 have q:=I.perm.length_eq;rw[am,cj] at q;unfold liveOf at q;lia
theorem cX4{mask:Nat}(hm:Mask mask){owner:Own}{y:Nat}(hy:y<=mask)(hf:owner.getD y none=none)(p:Probe)(v:PV mask p):∃l,l<turns mask/\owner.getD (aZf mask l (p.i,p.perturb)).1 none=none:=by
 have d:(aZf mask 12 (p.i,p.perturb)).1<mask+1:=by rw[aZi mask 11];exact Nat.lt_succ_of_le (bXs _ _ _)
 have j:(aZf mask 12 (p.i,p.perturb)).2<32:=by
  rw[bQx]
  have:=v.pt
  show p.perturb/32^12<32;have e:(2:Nat)^64=18446744073709551616:=by decide
  have B:(32:Nat)^12=1152921504606846976:=by decide
  rw[B];lia
 obtain⟨a,D,z⟩:=hm.full.from d (Nat.lt_succ_of_le hy)
 refine⟨12+a,by unfold turns;lia,?_⟩
 rw[aJu,bZ0 a _ j,z];exact hf
def cX5(mask:Nat)(acc:Option (Own×Nat))(h:Int):Option (Own×Nat):=do
 let (owner,k) <- acc
 let j <- layClean.free mask owner (turns mask) (bits h%(mask+1)) (bits h)
 pure (owner.setIfInBounds j (some k),k+1)
theorem bJz{mask:Nat}(hm:Mask mask):∀(hs done:List Int) (owner:Own),OwnI mask owner done->done.length+hs.length<=mask ->
  ∃owner',hs.foldl (cX5 mask) (some (owner,done.length))=some (owner',(done++hs).length)/\OwnI mask owner' (done++hs)
 |[],done,owner,I,_=>⟨owner,by rw[a7];rfl,by rw[a7];exact I⟩
 |h::hs,done,owner,I,Z=>by
  rw[bA] at Z;obtain⟨y,U,hf⟩:=I.free hm (by lia)
  have v:=aXd mask h;obtain⟨r,j,f1,f2,f3,f4,f5⟩:=bZz I.size (turns mask) (start mask h) v rfl rfl (cX4 hm U hf _ v);have J:j<owner.size:=by have:=I.size;lia
  have d:∀a,a≠j->(owner.setIfInBounds j (some done.length)).getD a none=owner.getD a none:=λa L=>by
   rw[bR,bR,gb (cY L)]
  have O:(owner.setIfInBounds j (some done.length)).getD j none=some done.length:=by
   rw[bR,fg J];rfl
  have more:∀a,(owner.getD a none).isSome=true->((owner.setIfInBounds j (some done.length)).getD a none).isSome=true:=λa L=>by
   by_cases c:a=j
   ·rw[c,O];rfl
   ·rw[d a c];exact L
  have I':OwnI mask (owner.setIfInBounds j (some done.length)) (done++[h]):=by
   refine⟨by rw[Array.size_setIfInBounds];exact I.size,?_,λa k e=>?_⟩
   ·have q:=(dQg (k:=done.length) I.size f3 f4).map (·.2);rw[bz] at q;refine q.trans ?_;rw[aG,d3,gG];exact(I.perm.cons _).trans (g8 _ _).symm
   ·by_cases c:a=j
    ·subst c;rw[O] at e;cases e;refine⟨h,by simp,r,f2,λB D=>more _ (f5 B D)⟩
    ·rw[d a c] at e;obtain⟨h',i,B,z,e3⟩:=I.reach a k e;exact⟨h',by rw[dA (aA.mp i).1];exact i,B,z,λx Y=>more _ (e3 x Y)⟩
  obtain⟨owner',i,z⟩:=bJz hm hs (done++[h]) _ I' (by rw[aG,d3];lia)
  refine⟨owner',?_,by rw[aU] at z;exact z⟩
  rw[List.foldl_cons];have es:cX5 mask (some (owner,done.length)) h=some (owner.setIfInBounds j (some done.length),done.length+1):=by
   show(do let j <- layClean.free mask owner (turns mask) (bits h%(mask+1)) (bits h);pure (owner.setIfInBounds j (some done.length),done.length+1))=_
   have N:layClean.free mask owner (turns mask) (bits h%(mask+1)) (bits h)=some j:=f1;rw[N]
   rfl
  rw[es];rw[aG,d3,aU] at i;exact i
theorem cX6(mask:Nat):OwnI mask (fK (mask+1) none) [] where
 size:=by simp
 perm:=by
  have e:liveOf mask (fK (mask+1) none)=[]:=by
   unfold liveOf;rw[List.filterMap_eq_nil_iff];intro a d
   have:(fK (mask+1) (none:Option Nat)).getD a none=none:=by
    rw[bR,iu];split <;> rfl
   rw[this];rfl
  rw[e];exact db _
 reach:=λj k e=>by
  have:(fK (mask+1) (none:Option Nat)).getD j none=none:=by
   rw[bR,iu];split <;> rfl
  rw[this] at e;cases e
theorem bXu{mask:Nat}(hm:Mask mask)(hs:Array Int)(hl:hs.size<=mask):∃owner,layClean mask hs=some owner/\OwnI mask owner hs.toList:=by
 obtain⟨owner,i,d⟩:=bJz hm hs.toList [] _ (cX6 mask) (by simpa using hl)
 refine⟨owner,?_,by simpa using d⟩
 unfold layClean
 have:hs.foldl (init:=some (fK (mask + 1) (none:Option Nat),0)) (λacc h=>do
  let (owner,k) <- acc
  let j <- layClean.free mask owner (turns mask) (bits h%(mask+1)) (bits h)
  pure (owner.setIfInBounds j (some k),k+1))=some (owner,hs.size):=by
  rw[<- Array.foldl_toList];have q:=i;simp only[bN,dM] at q;rw[show hs.toList.length=hs.size by simp] at q
  exact q
 rw[this]
 rfl
theorem cQ0{α β:Type}{f:α->Option β}:∀{l:List α},(∀a∈l,(f a).isSome=true)->(l.filterMap f).length=l.length/\∀i:Nat,(l.filterMap f)[i]?=(l[i]?).bind f
 |[],_=>⟨rfl,λi=>by simp⟩
 |a::l,h=>by
  obtain⟨z,e⟩:=cr.mp (h a aq);obtain⟨h1,h2⟩:=cQ0 (l:=l) (f:=f) λb d=>h b (au _ d);rw[cf,e];refine⟨by simp[h1],λi=>?_⟩
  cases i with
  |zero=>simp[e]
  |succ i=>simpa using h2 i
theorem cQ1{mask:Nat}{owner:Own}{j k:Nat}(h:(j,k)∈liveOf mask owner):j<=mask/\owner.getD j none=some k:=by
 unfold liveOf at h;obtain⟨a,d,e⟩:=eT.mp h;cases q:owner.getD a none with
 |none=>rw[q] at e;cases e
 |some z=>rw[q] at e;cases e;exact⟨Nat.le_of_lt_succ (aX.mp d),q⟩
theorem dQh{mask:Nat}{owner:Own}{j k:Nat}(h1:j<=mask)(h2:owner.getD j none=some k):(j,k)∈liveOf mask owner :=
 eT.mpr ⟨j,aX.mpr (Nat.lt_succ_of_le h1),by rw[h2];rfl⟩
theorem dQi(mask:Nat)(owner:Own):Ris ((liveOf mask owner).map (·.1)):=by
 unfold Ris liveOf;rw[de];refine jA.filterMap _ ?_ (fZ (n:=mask+1));intro a i d b hb v hb';cases q:owner.getD a none with
 |none=>rw[q] at hb;cases hb
 |some z =>
  rw[q] at hb;cases hb;cases q':owner.getD i none with
  |none=>rw[q'] at hb';cases hb'
  |some j=>rw[q'] at hb';cases hb';exact d
theorem cQ2{α:Type}(es:Array α):((a6 es.size).filterMap λk=>es[k]?)=es.toList:=by
 apply fb;intro i;have h:=cQ0 (l:=a6 es.size) (f:=λk=>es[k]?) (λa d=>by
  have:=aX.mp d
  simp[this])
 rw[h.2 i]
 by_cases c:i<es.size
 ·rw[List.getElem?_range c];simp
 ·rw[bV (by simpa using c)];simp[c]
theorem cX7{es:Array (Int×ad)}{mask' wanted:Nat}(t:aV)(hm:Mask mask')(hw:sizeAbove wanted-1=mask')(hsz:es.size*5<mask'*3) :
  ∃t' order,t.relaid (es.map (·.1)) wanted=some (t',order)/\(order.filterMap (es[·]?)).size=es.size/\SetI (order.filterMap (es[·]?)) t'/\(order.filterMap (es[·]?)).toList.Perm es.toList:=by
 obtain⟨owner,e1,I⟩:=bXu hm (es.map (·.1)) (by rw[jm];lia)
 have el:(es.map (·.1)).toList.length=es.size:=by simp
 have B:=I.perm;rw[el] at B;have ks:∀k∈(liveOf mask' owner).map (·.2),(es[k]?).isSome=true:=λk hk=>by
  have:=aX.mp (B.mem_iff.mp hk)
  simp[this]
 obtain⟨f1,f2⟩:=cQ0 (f:=λk=>es[k]?) ks;have v:(jd (es[·]?) ((liveOf mask' owner).map (·.2)).toArray).toList=((liveOf mask' owner).map (·.2)).filterMap (λk=>es[k]?):=by simp
 have perm:(jd (es[·]?) ((liveOf mask' owner).map (·.2)).toArray).toList.Perm es.toList:=by
  rw[v,<- cQ2 es];exact B.filterMap _
 have size:(jd (es[·]?) ((liveOf mask' owner).map (·.2)).toArray).size=es.size:=by
  have:=perm.length_eq
  simpa using this
 refine⟨{mask:=mask',place:=((liveOf mask' owner).map (·.1)).toArray,dummies:=#[],finger:=t.finger,led:=t.led,moves:=t.movedTo mask',plain:=t.plain},((liveOf mask' owner).map (·.2)).toArray,?_,size,?_,perm⟩
 ·unfold relaid laid;rw[hw,e1]
  rfl
 ·refine⟨⟨hm,rfl,?_,λj hj=>?_⟩,?_,?_,λi j e h1 h2=>?_⟩
  ·show Ris ((liveOf mask' owner).map (·.1)).toArray.toList;exact dQi _ _
  ·have J:j∈(liveOf mask' owner).map (·.1):=hj;obtain⟨⟨a,k⟩,h,rfl⟩:=bW.mp J;exact(cQ1 h).1
  ·rw[size];show((liveOf mask' owner).map (·.1)).toArray.size=es.size
   have:=B.length_eq
   simpa using this
  ·rw[size];exact hsz
  ·have h1':((liveOf mask' owner).map (·.1))[i]?=some j:=by simpa using h1
   have d:(((liveOf mask' owner).map (·.2)).filterMap (λk=>es[k]?))[i]?=some e:=by
    rw[<- v,aN];exact h2
   rw[f2 i] at d;rw[aT] at h1' d;cases q:(liveOf mask' owner)[i]? with
   |none=>rw[q] at h1';cases h1'
   |some jk =>
    obtain⟨a,k⟩:=jk;rw[q] at h1' d;have ea:a=j:=aS h1';subst ea;have ek:es[k]?=some e:=d;obtain⟨_,Z⟩:=cQ1 (ao q);obtain⟨h,O,r,Y,U⟩:=I.reach a k Z;have L:e.1=h:=by
     have:(es.map (·.1)).toList[k]?=some e.1:=by
      rw[aN,Array.getElem?_map,ek];rfl
     rw[this] at O;exact aS O
    rw[L];refine⟨r,Y,λN D=>?_⟩;obtain⟨z,ez⟩:=cr.mp (U N D);have pv:=PV.road N (aXd mask' h)
    have:=pv.j
    show _∈((liveOf mask' owner).map (·.1)).toArray.toList;exact bW.mpr ⟨_,dQh (by lia) ez,rfl⟩
theorem grow{mask n:Nat}(hm:Mask mask)(h1:n*5<mask*3)(h2:(n+1)*5>=mask*3)(hn:n+1<=300):∃mask',Mask mask'/\sizeAbove (grown (n+1))-1=mask'/\(n+1)*5<mask'*3/\¬ sizeAbove (grown (n+1))>sizeLine:=by
 rcases hm with rfl|rfl|rfl|rfl
 ·have e:n=4:=by lia
  subst e;exact⟨31,.inr (.inl rfl),by decide +kernel,by decide,by decide +kernel⟩
 ·have e:n=18:=by lia
  subst e;exact⟨127,.inr (.inr (.inl rfl)),by decide +kernel,by decide,by decide +kernel⟩
 ·have e:n=76:=by lia
  subst e;exact⟨511,.inr (.inr (.inr rfl)),by decide +kernel,by decide,by decide +kernel⟩
 ·lia
open PySem.Spec PyProof.Rows
section
variable{prog:aF}{w:aR}{A:a8}{E:ad->ah->Prop}{s:ah}
def TK(prog:aF)(w:aR)(h:bj)(k:List Str)(v:ad):Prop:=∃b,v=.ref b/\IsTupleKey (strKind prog w) h k b
theorem TK.inj{h:bj}{k k':List Str}{v:ad}(a:TK prog w h k v)(b:TK prog w h k' v):k=k':=by
 obtain⟨i,rfl,h1⟩:=a;obtain⟨d,e,h2⟩:=b;cases e;exact h1.inj h2
abbrev aQx(prog:aF)(w:aR)(k:List Str):Int:=tupleKeyHash (strKind prog w) k
theorem bZ2{k:List Str}{vs:List ad}(h:ItemsAre (strKind prog w) k vs):∀v∈vs,∃x t,v=iA x t:=by
 induction h with
 |nil=>intro v hv;cases hv
 |cons h1 _ d =>
  intro v hv;rcases aK.mp hv with rfl|hv
  ·obtain⟨t,e⟩:=eE h1;exact⟨_,t,e⟩
  ·exact d v hv
theorem cQ3{k:List Str}{v:ad}{Q:Bool->ah->Prop}(hk:TK prog w s.heap k v)(h:Q false s):aH (aE prog w) A (ff 8 v) Q E s:=by
 obtain⟨b,rfl,hk⟩:=hk;have B:=hk.typeIs;obtain⟨o,items,n,z,_,hd,hi⟩:=hk;unfold ff;refine aa (fW B ?_);dsimp only;simp only[beq_self_eq_true,if_true];refine aa (ae ?_);simp only[fG,aM,if_false];refine aa (eK z hd ?_);dsimp only;refine aa ?_;show aH _ _ (forIn items _ _) _ _ s;rw[<- Array.forIn_toList];refine iJ _ (λrest r s'=>r.1=none/\s'=s/\∀v∈rest,∃x t,v=iA x t) _ ?_ ?_ _ _ ⟨rfl,rfl,bZ2 hi⟩
 ·rintro x rest r s' ⟨i,rfl,d⟩;obtain⟨y,t,rfl⟩:=d x aq;unfold ff;refine aa (ae ?_);simp only[aM,if_false];exact ae ⟨rfl,rfl,λu j=>d u (au _ j)⟩
 ·rintro⟨J,D⟩ s' ⟨i,rfl,_⟩;simp only at i;subst i;exact ae h
theorem dZq{k:List Str}{v:ad}{Q:Bool->ah->Prop}(hk:TK prog w s.heap k v)(h:Q true s):aH (aE prog w) A (eqIsQuiet 8 v) Q E s:=by
 obtain⟨b,rfl,hk⟩:=hk;exact wpAny_eqIsQuiet_tuple hk h
theorem dJ2{k:List Str}{x:ad}{stored:List ad}{Q:Bool->ah->Prop}(hx:TK prog w s.heap k x)(hs:∀y∈stored,∃k',TK prog w s.heap k' y)(h:Q false s) :
  aH (aE prog w) A (searchCouldBeSeen x stored) Q E s:=by
 unfold searchCouldBeSeen;refine aa (iJ _ (λrest r s'=>r.1=none/\s'=s/\∀y∈rest,∃k',TK prog w s.heap k' y) _ ?_ ?_ _ _ ⟨rfl,rfl,hs⟩)
 ·rintro y rest r s' ⟨D,rfl,d⟩;obtain⟨k',B⟩:=d y aq;have fin:∀y∈rest,∃k',TK prog w s'.heap k' y:=λz L=>d z (au _ L);obtain⟨J,ex,_⟩:=id hx;obtain⟨j,N,_⟩:=id B
  have main:∀ c:Bool,aH (aE prog w) A (if c=true then pure (bq ((none,()):Option Bool × Unit)) else do
    if !(<- eqIsQuiet 8 x) then pure (be (some true,())) else
    if !(<- eqIsQuiet 8 y) then pure (be (some true,())) else
    if <- ff 8 x then pure (be (some true,())) else
    if <- ff 8 y then pure (be (some true,())) else pure (bq (none,())))
    (λr i=>match r with
     |bq v=>v.fst=none/\i=s'/\∀(y:ad),y∈rest->∃k',TK prog w s'.heap k' y
     |be v=>False) E s':=by
   intro c;cases c with
   |true=>exact ae ⟨rfl,rfl,fin⟩
   |false =>
    simp only[aM,if_false];refine aa (dZq hx ?_);simp only[fG,aM,if_false];refine aa (dZq B ?_);simp only[fG,aM,if_false];refine aa (cQ3 hx ?_);simp only[aM,if_false];refine aa (cQ3 B ?_);simp only[aM,if_false];exact ae ⟨rfl,rfl,fin⟩
  rw[ex,N] at main ⊢;dsimp only;refine cK (main ((J==j)||(carriedByValue (.ref J)&&carriedByValue (.ref j)))) (λr s1 h=>?_) (λ_ _ e=>e)
  cases r with
  |yield v=>exact h
  |done v=>exact h.elim
 ·rintro⟨U,O⟩ s' ⟨D,rfl,_⟩;simp only at D;subst D;exact ae h
def ElT(prog:aF)(w:aR)(h:bj)(es:List (Int×ad)):Prop:=∀e∈es,∃k,TK prog w h k e.2/\e.1=aQx prog w k
structure SetAt(h:bj)(a:Addr)(es:Array (Int×ad))(ep:Nat)(t:aV):Prop where
 obj:h.get? a=some {cls:=.type "set",dict:=none,data:=.set es ep t}
 inv:SetI es t
theorem SetAt.state{a:Addr}{es:Array (Int×ad)}{ep:Nat}{t:aV}{Q:(Array (Int×ad)×Nat×aV)->ah->Prop}(S:SetAt s.heap a es ep t)(h:Q (es,ep,t) s):aH (aE prog w) A (setState a) Q E s :=
 dg S.obj rfl S.inv.fits h
theorem bXv{a:Addr}{es:Array (Int×ad)}{ep:Nat}{t:aV}{k:List Str}{x:ad}{adding:Bool}(S:SetAt s.heap a es ep t)(hu:A.units<cE)(hel:ElT prog w s.heap es.toList)(hx:TK prog w s.heap k x)
  {M0:Nat}(hM:(road t.mask M0 (start t.mask (aQx prog w k))).j∉t.place.toList) {Q:SetFound->ah->Prop}
  (hfound:∀i?,(adding=true\/i?.isSome=true)->(∃e∈es.toList,TK prog w s.heap k e.2)->Q (.there i?) s)
  (hfree:∀j r,j<=t.mask->j∉t.place.toList->(road t.mask r (start t.mask (aQx prog w k))).j=j->(∀r',r'<r->(road t.mask r' (start t.mask (aQx prog w k))).j∈t.place.toList)->(¬ ∃e∈es.toList,TK prog w s.heap k e.2)->Q (.free j false) s) :
  ∀(fuel m:Nat) (stand:Option Probe),M0<fuel+m->stand.getD (t.probeStart (aQx prog w k))=road t.mask m (start t.mask (aQx prog w k)) ->
   (∀m',m'<m->∃(i:Nat) (e:Int×ad),t.place[i]?=some (road t.mask m' (start t.mask (aQx prog w k))).j/\es[i]?=some e/\¬ TK prog w s.heap k e.2)->m<=M0 ->
   aH (aE prog w) A (setSearchFrom a x (aQx prog w k) adding fuel stand) Q E s
 |0,m,stand,hf,_,_,hm=>by lia
 |fuel+1,m,stand,hf,hst,Z,hm=>by
  unfold setSearchFrom;refine aa (S.state ?_);dsimp only;rw[S.inv.way];simp only[aM,if_false];have v:=PV.road m (aXd t.mask (aQx prog w k));have dn:∀m,(road t.mask m (start t.mask (aQx prog w k))).dummy=none:=λm=>by
   induction m with
   |zero=>rfl
   |succ m ih=>rw[aJs,bQf];exact ih
  obtain⟨L,p1,p2⟩:=cZ1 S.inv.tab S.inv.le (λi=>(es[i]?.map (·.1)).getD 0) (aQx prog w k) v (dn m);rw[hst];have ahead:∀r,r<m+L->∃(i:Nat) (e:Int×ad),t.place[i]?=some (road t.mask r (start t.mask (aQx prog w k))).j/\es[i]?=some e/\¬ TK prog w s.heap k e.2:=λr hr=>by
   by_cases c:r<m
   ·exact Z r c
   ·obtain⟨i,J,q2⟩:=p1 (r-m) (by lia)
    rw[<- aQr,show m+(r-m)=r by lia] at J
    obtain⟨hi,_⟩:=c9.mp J;have O:i<es.size:=by rw[<- S.inv.size];exact hi
    have U:es[i]?=some es[i]:=by simp[O]
    refine⟨i,es[i],J,U,λz=>q2 ?_⟩;obtain⟨N,z',eh⟩:=hel es[i] (by simp)
    rw[U];show es[i].1=_;rw[eh,z'.inj z]
  have inplace:∀r,r<m+L->(road t.mask r (start t.mask (aQx prog w k))).j∈t.place.toList:=λr hr=>by
   obtain⟨i,e,q,_⟩:=ahead r hr;exact dH.mpr (e7 q)
  have hmM:m+L<=M0:=by
   rcases Nat.lt_or_ge M0 (m+L) with c|c
   ·exact absurd (inplace M0 c) hM
   ·exact c
  rcases p2 with⟨J,q2⟩|⟨i,J,q2,q3,q4⟩
  ·generalize hP:aV.probe t _ (aQx prog w k) (road t.mask m (start t.mask (aQx prog w k)))=pr;have e2:pr=some (.empty (road t.mask L (road t.mask m (start t.mask (aQx prog w k)))).j none):=by rw[<- hP];exact q2
   rw[e2];dsimp only;rw[<- aQr] at J ⊢;have pv:=(PV.road (m+L) (aXd t.mask (aQx prog w k))).j;refine ae (hfree _ (m+L) (by lia) J rfl inplace ?_)
   rintro⟨e,he,hke⟩;obtain⟨i,hi,ei⟩:=bd he;have U:es[i]?=some e:=by
    have h2:i<es.size:=by simpa using hi
    rw[<- ei];simp[h2]
   have O:i<t.place.size:=by rw[S.inv.size];simpa using hi
   obtain⟨r,r1,r2⟩:=S.inv.reach i t.place[i] e (by simp[O]) U
   obtain⟨N,z',eh⟩:=hel e he;have hk':N=k:=z'.inj hke;rw[eh,hk'] at r1 r2;rcases Nat.lt_or_ge r (m+L) with c|c
   ·obtain⟨i',e',a1,a2,a3⟩:=ahead r c;rw[r1] at a1;have s1:=bXt S.inv.tab a1;have s2:=bXt (j:=t.place[i]) (i:=i) S.inv.tab (by simp[O])
    rw[s1] at s2;cases s2;rw[U] at a2;cases a2;exact a3 hke
   ·rcases Nat.lt_or_eq_of_le c with c|c
    ·exact J (r2 _ c)
    ·rw[c,r1] at J;exact J (by simp)
  ·generalize hP:aV.probe t _ (aQx prog w k) (road t.mask m (start t.mask (aQx prog w k)))=pr;have e2:pr=some (.candidate (road t.mask L (road t.mask m (start t.mask (aQx prog w k)))).j i (road t.mask (L+1) (road t.mask m (start t.mask (aQx prog w k))))):=by rw[<- hP];exact q4
   rw[e2];dsimp only;have O:i<es.size:=by
    obtain⟨hi,_⟩:=c9.mp J;rw[<- S.inv.size];exact hi
   have U:es[i]?=some es[i]:=by simp[O]
   obtain⟨N,hy,eh⟩:=hel es[i] (by simp)
   by_cases Y:t.led=true
   ·rw[Y];simp only[fG,aM,if_false];rw[U];obtain⟨b,eb,hb⟩:=hy;obtain⟨bx,ex,hbx⟩:=id hx;have D:es[i]=(es[i].1,jt b):=by rw[<- eb]
    rw[D];dsimp only;refine aa (bu ?_);rw[ex];refine wpAny_eqBool_tuple hu hb hbx ?_;refine aa (S.state ?_);dsimp only;have yes:N=k->∃e∈es.toList,TK prog w s.heap k e.2:=λc=>⟨es[i],by simp,⟨b,eb,c▸hb⟩⟩
    by_cases B:(adding&&decide (N=k))=true
    ·rw[if_pos B];have c:N=k:=by
      simp only[bb,decide_eq_true_eq] at B;exact B.2
     exact ae (hfound none (.inl (by simp only[bb] at B;exact B.1)) (yes c))
    ·rw[if_neg B];have sm:t.sameMemory t.moves t.mask=some true:=by unfold sameMemory;rw[if_pos (by simp)]
     rw[sm];dsimp only;rw[if_pos rfl,q2];dsimp only;rw[U,D];dsimp only;refine aa (wpAny_isSame_ref_self ?_);rw[if_pos rfl];refine aa (ae ?_);dsimp only
     by_cases c:N=k
     ·rw[decide_eq_true c,if_pos rfl];exact ae (hfound _ (.inr rfl) (yes c))
     ·rw[decide_eq_false c,if_neg dZ];rw[<- ex];refine bXv S hu hel hx hM hfound hfree fuel (m+L+1) _ (by lia) ?_ (λr hr=>?_) ?_
      ·show road t.mask (L+1) (road t.mask m _)=_;rw[<- aQr,Nat.add_assoc]
      ·rcases Nat.lt_or_eq_of_le (Nat.le_of_lt_succ hr) with d|d
       ·exact ahead r d
       ·rw[d];rw[<- aQr] at J;refine⟨i,es[i],J,U,λz=>c ?_⟩;exact TK.inj ⟨b,eb,hb⟩ z
      ·rcases Nat.lt_or_eq_of_le hmM with d|d
       ·exact d
       ·rw[<- aQr] at J;rw[d] at J;exact absurd (dH.mpr (e7 J)) hM
   ·have hled':t.led=false:=eA.mpr Y;rw[hled'];simp only[jn,if_true];refine aa (dJ2 hx (λy hy'=>?_) ?_)
    ·obtain⟨e,he,rfl⟩:=bW.mp hy';have he':e∈es.toList:=by
      have:=dH.mp he
      exact dH.mpr (Array.mem_filter.mp this).1
     obtain⟨N,z,_⟩:=hel e he';exact⟨N,z⟩
    ·simp only[aM,if_false];rw[U];obtain⟨b,eb,hb⟩:=hy;obtain⟨bx,ex,hbx⟩:=id hx;have D:es[i]=(es[i].1,jt b):=by rw[<- eb]
     rw[D];dsimp only;refine aa (bu ?_);rw[ex];refine wpAny_eqBool_tuple hu hb hbx ?_;refine aa (S.state ?_);dsimp only;have yes:N=k->∃e∈es.toList,TK prog w s.heap k e.2:=λc=>⟨es[i],by simp,⟨b,eb,c▸hb⟩⟩
     by_cases B:(adding&&decide (N=k))=true
     ·rw[if_pos B];have c:N=k:=by
       simp only[bb,decide_eq_true_eq] at B;exact B.2
      exact ae (hfound none (.inl (by simp only[bb] at B;exact B.1)) (yes c))
     ·rw[if_neg B];have sm:t.sameMemory t.moves t.mask=some true:=by unfold sameMemory;rw[if_pos (by simp)]
      rw[sm];dsimp only;rw[if_pos rfl,q2];dsimp only;rw[U,D];dsimp only;refine aa (wpAny_isSame_ref_self ?_);rw[if_pos rfl];refine aa (ae ?_);dsimp only
      by_cases c:N=k
      ·rw[decide_eq_true c,if_pos rfl];exact ae (hfound _ (.inr rfl) (yes c))
      ·rw[decide_eq_false c,if_neg dZ];rw[<- ex];refine bXv S hu hel hx hM hfound hfree fuel (m+L+1) _ (by lia) ?_ (λr hr=>?_) ?_
       ·show road t.mask (L+1) (road t.mask m _)=_;rw[<- aQr,Nat.add_assoc]
       ·rcases Nat.lt_or_eq_of_le (Nat.le_of_lt_succ hr) with d|d
        ·exact ahead r d
        ·rw[d];rw[<- aQr] at J;refine⟨i,es[i],J,U,λz=>c ?_⟩;exact TK.inj ⟨b,eb,hb⟩ z
       ·rcases Nat.lt_or_eq_of_le hmM with d|d
        ·exact d
        ·rw[<- aQr] at J;rw[d] at J;exact absurd (dH.mpr (e7 J)) hM
end
section
variable{prog:aF}{w:aR}{A:a8}{E:ad->ah->Prop}{s:ah}
theorem bXw(a:Addr)(wanted:Nat):setRelay a wanted=(do
 let (es,_,t) <- setState a
 if aV.sizeAbove wanted>sizeLine then eQ "set:memory"
 let (es,t) <- (do
  let some (t,order):=t.relaid (es.map (·.1)) wanted|eQ "internal:set-table-without-room"
  let es':=order.filterMap (es[·]?)
  if es'.size !=es.size then eQ "internal:set-table-lost-an-element"
  pure (es',t))
 storeSet a es t):=by rfl
theorem hbvT{k:List Str}{v:ad}{Q:Bool->ah->Prop}(hk:TK prog w s.heap k v)(h:Q (decide (k=[])) s):aH (aE prog w) A (hashByValue 8 v) Q E s:=by
 obtain⟨b,rfl,hk⟩:=hk;have i:=hk.typeIs;obtain⟨o,items,n,d,_,hd,hi⟩:=hk;unfold hashByValue;refine aa (wpAny_specialOf i PySem.F.slot_tuple_hash.lookup ?_);dsimp only;refine aa (eK d hd ?_);refine aa ?_;show aH _ _ (forIn items _ _) _ _ s;rw[<- Array.forIn_toList];generalize hits:items.toList=its at hi;cases hi with
 |nil =>
  rw[List.forIn_nil];exact ae (ae h)
 |cons h1 h2 =>
  obtain⟨t,e⟩:=eE h1;subst e;rw[fJ];have j:∀n x t,hashByValue n (iA x t)=pure false:=λn x t=>by unfold hashByValue;rfl
  rw[j];refine aa (aa (ae ?_));simp only[jn,if_true];refine ae ?_;exact ae (ae (by simpa using h))
def bQi(prog:aF)(w:aR)(h:bj)(es:List (Int×ad))(t:aV):Prop:=t.plain=true->∀e∈es,TK prog w h [] e.2
theorem addT{a:Addr}{es:Array (Int×ad)}{ep:Nat}{t:aV}{k:List Str}{x:ad}(S:SetAt s.heap a es ep t)(hu:A.units<cE)(hel:ElT prog w s.heap es.toList)(hpl:bQi prog w s.heap es.toList t)(hx:TK prog w s.heap k x)(hn:es.size+1<=300){Q:Bool->ah->Prop}
  (h:∀ h' es' ep' t' added,SetAt h' a es' ep' t'->dP a s.heap h'->bQi prog w s.heap es'.toList t'->t'.led=t.led ->
   ((added=false/\es'=es/\∃e∈es.toList,TK prog w s.heap k e.2)\/(added=true/\es'.toList.Perm ((aQx prog w k,x)::es.toList)/\¬ ∃e∈es.toList,TK prog w s.heap k e.2))->Q added {s with heap:=h'}) :
  aH (aE prog w) A (i7 a x (aQx prog w k)) Q E s:=by
 unfold i7 setAddHashedIn;refine bu (aa (S.state ?_));dsimp only;have hbs:byScan x es=false:=by
  obtain⟨b,rfl,_⟩:=hx
  rfl
 rw[hbs];simp only[aM,if_false];obtain⟨y,hy,hf⟩:=bQh S.inv.tab S.inv.le;obtain⟨m,hm,e⟩:=eXg S.inv.tab.mask (aXd t.mask (aQx prog w k)) hy;have hm':m<100000+0:=by
  have:=S.inv.tab.mask
  have:t.mask<=511:=by rcases this with z|z|z|z <;> lia
  lia
 refine aa ?_;unfold setSearch;refine bXv S hu hel hx (M0:=m) (by rw[e];exact hf) (λi? _ hyes=>?_) (λj r hj hfj ej hrj hno=>?_) 100000 0 none hm' rfl (λm' h'=>absurd h' (Nat.not_lt_zero _)) (Nat.zero_le _)
 ·dsimp only;have q:=h s.heap es ep t false S (jC a s.heap) hpl rfl (.inl ⟨rfl,rfl,hyes⟩);exact ae q
 ·dsimp only;refine aa (S.state ?_);dsimp only;have P:=put_set (x:=x) S.inv hj hfj ej hrj true;obtain⟨p1,p2,p3,p4,p5,p6⟩:=P;have Y:(t.put j).1.dummies=#[]:=p3.nodum;have p3r:Ris (t.put j).1.place.toList:=p3.ris;have p3t:∀a∈(t.put j).1.place.toList,a<=(t.put j).1.mask:=p3.top;generalize hes:aV.insertAt es (t.put j).2 (aQx prog w k,x)=d at p1 p2 p6 ⊢;have v:d.toList.Perm ((aQx prog w k,x)::es.toList):=by
   rw[p1];refine fx.trans ?_;rw[bg]
  have rest:∀ tt:aV,tt.place=(t.put j).1.place->tt.dummies=#[]->tt.mask=t.mask->tt.led=t.led->(tt.plain=true->t.plain=true/\k=[])->aH (aE prog w) A (do
    storeSet a d tt
    if (!false&&tt.tooFull)=true then do
     setRelay a (dh (es.size+1))
     pure true
    else pure true) Q E s:=by
   intro tt h1 h2 h3 h4 h5;have T':Tab tt:=⟨by rw[h3];exact S.inv.tab.mask,h2,by rw[h1];exact p3r,λa ha=>by rw[h1] at ha;rw[h3,<- p5];exact p3t a ha⟩
   have D:∀J:List (Int×ad),J.Perm ((aQx prog w k,x)::es.toList)->∀t2:aV,t2.plain=tt.plain->bQi prog w s.heap J t2:=by
    intro J hp t2 ht2 hpt ee hee;rw[ht2] at hpt;obtain⟨q1,q2⟩:=h5 hpt;rcases aK.mp (hp.mem_iff.mp hee) with q|q
    ·rw[q,<- q2];exact hx
    ·exact hpl q1 ee q
   have hz:d.size<=sizeLine:=by rw[p2,bh];lia
   refine aa (f7 S.obj rfl ?_ hz);have N:(s.heap.update a (dF d tt)).get? a=some {cls:=.type "set",dict:=none,data:=.set d (ep+1) tt}:=by
    have:=cw (dF d tt) S.obj (by rw[gq _ _ rfl];rfl)
    rw[gq _ _ rfl] at this;exact this
   have O:=cv s.heap a (dF d tt);have tf:tt.tooFull=decide ((es.size+1)*5>=t.mask*3):=by
    unfold aV.tooFull jz;rw[h2,h1,p4,h3]
    rfl
   have room:=S.inv.room
   by_cases B:(es.size+1)*5>=t.mask*3
   ·rw[tf,decide_eq_true B];simp only[jn,Bool.and_self,if_true];obtain⟨mask',hm1,hm2,hm3,hm4⟩:=grow S.inv.tab.mask room B hn;obtain⟨t',order,r1,r2,r3,r4⟩:=cX7 (es:=d) tt hm1 hm2 (by rw[p2];exact hm3)
    have U:t'.led=tt.led/\t'.plain=tt.plain:=by
     unfold relaid laid at r1;cases hq:layClean (sizeAbove (grown (es.size+1))-1) (Array.map (·.1) d) with
     |none=>rw[hq] at r1;cases r1
     |some ow=>rw[hq] at r1;cases r1;exact⟨rfl,rfl⟩
    have Z:tt.fits d.size=true:=by
     unfold jy jz
     have:t.mask>=7:=by rcases S.inv.tab.mask with z|z|z|z <;> lia
     simp only[bb,beq_iff_eq,decide_eq_true_eq];rw[h2,h1,p4,p2,h3];refine⟨rfl,?_⟩;show es.size+1+0<=t.mask;lia
    refine aa ?_;rw[bXw];refine aa (dg N rfl Z ?_);dsimp only;rw[if_neg hm4,r1];dsimp only;rw[r2];simp only[bne_self_eq_false,aM,if_false,iG];have hz2:(order.filterMap (d[·]?)).size<=sizeLine:=by rw[r2];exact hz
    refine f7 N rfl ?_ hz2;have ho2:((s.heap.update a (dF d tt)).update a (dF (order.filterMap (d[·]?)) t')).get? a=some {cls:=.type "set",dict:=none,data:=.set (order.filterMap (d[·]?)) (ep+1+1) t'}:=by
     have:=cw (dF (order.filterMap (d[·]?)) t') N (by rw[gq _ _ rfl];rfl)
     rw[gq _ _ rfl] at this;exact this
    have hsb2:=O.trans (cv (s.heap.update a (dF d tt)) a (dF (order.filterMap (d[·]?)) t'));exact ae (h _ _ _ _ true ⟨ho2,r3⟩ hsb2 (D _ (r4.trans v) _ U.2) (U.1.trans h4) (.inr ⟨rfl,r4.trans v,hno⟩))
   ·rw[tf,decide_eq_false B];simp only[Bool.and_false,aM,if_false];have I':SetI d tt:=by
     refine⟨T',by rw[h1,p4,p2],by rw[h3,p2];lia,λi j' e' q1 q2=>?_⟩
     rw[h1] at q1;obtain⟨r,r1,r2⟩:=p6 i j' e' q1 q2;rw[h3,h1];exact⟨r,r1,r2⟩
    exact ae (h _ _ (ep+1) _ true ⟨N,I'⟩ O (D _ v _ rfl) h4 (.inr ⟨rfl,v,hno⟩))
  by_cases hp:t.plain=true
  ·have L:(t.put j).1.plain=true:=hp;rw[L];simp only[if_true];refine aa (hbvT hx ?_)
   by_cases hk:k=[]
   ·rw[decide_eq_true hk];simp only[if_true];exact rest (t.put j).1 rfl Y p5 rfl (λ_=>⟨hp,hk⟩)
   ·rw[decide_eq_false hk];simp only[aM,if_false];exact rest { (t.put j).1 with plain:=false} rfl Y p5 rfl (λz=>nomatch z)
  ·have L:(t.put j).1.plain=false:=eA.mpr hp;rw[L];simp only[aM,if_false];refine aa (ae ?_);simp only[if_true];exact rest (t.put j).1 rfl Y p5 rfl (λz=>by rw[L] at z;cases z)
theorem dJ3{a:Addr}{es:Array (Int×ad)}{ep:Nat}{t:aV}{k:List Str}{x:ad}(S:SetAt s.heap a es ep t)(hu:A.units<cE)(hel:ElT prog w s.heap es.toList)(hpl:bQi prog w s.heap es.toList t)(hx:TK prog w s.heap k x)(hn:es.size+1<=300){Q:Bool->ah->Prop}
  (h:∀ h' tk es' ep' t' added,SetAt h' a es' ep' t'->dP a s.heap h'->bQi prog w s.heap es'.toList t'->t'.led=t.led->s.toks<=tk ->
   ((added=false/\es'=es/\∃e∈es.toList,TK prog w s.heap k e.2)\/(added=true/\es'.toList.Perm ((aQx prog w k,x)::es.toList)/\¬ ∃e∈es.toList,TK prog w s.heap k e.2))->Q added {s with heap:=h',toks:=tk}) :
  aH (aE prog w) A (setAdd a x) Q E s:=by
 obtain⟨b,rfl,d⟩:=id hx;unfold setAdd;refine bu (aa (wpAny_pyHash_tuple hu d ?_));exact addT (s:={s with toks:=s.toks+(k.length+1)}) S hu hel hpl hx hn λh' es' ep' t' added h1 h2 v j i=>h h' _ es' ep' t' added h1 h2 v j (Nat.le_add_right _ _) i
end
def TupKeep(h h':bj):Prop:=∀b o,h.get? b=some o->o.cls=.type "tuple"->h'.get? b=some o
theorem TupKeep.trans{a b c:bj}(x:TupKeep a b)(y:TupKeep b c):TupKeep a c:=λd o e h=>y d o (x d o e h) h
def setOb(es:Array (Int×ad))(ep:Nat)(t:aV):Obj:={cls:=.type "set",dict:=none,data:=.set es ep t}
structure SetKd(prog:aF)(w:aR)(κ:Type) where
 is:bj->κ->ad->Prop
 I:bj->Addr->Array (Int×ad)->Nat->aV->Prop
 inj:∀{h:bj}{k k':κ}{v:ad},is h k v->is h k' v->k=k'
 obj:∀{h:bj}{a:Addr}{es:Array (Int×ad)}{ep:Nat}{t:aV},I h a es ep t->h.get? a=some (setOb es ep t)
 fits:∀{h:bj}{a:Addr}{es:Array (Int×ad)}{ep:Nat}{t:aV},I h a es ep t->t.fits es.size=true
 few:∀{h:bj}{a:Addr}{es:Array (Int×ad)}{ep:Nat}{t:aV}{ks:List κ},I h a es ep t->bi (λ(e:Int×ad) k=>is h k e.2) es.toList ks->ks.Nodup->t.plain=true->es.size<=1
 fresh:∀{h:bj}{a:Addr}{led:Bool},h.get? a=some (setOb #[] 0 (.fresh 0 0 led))->I h a #[] 0 (.fresh 0 0 led)
 keepIs:∀{h h':bj}{k:κ}{v:ad},is h k v->TupKeep h h'->is h' k v
 keepI:∀{h h':bj}{a:Addr}{es:Array (Int×ad)}{ep:Nat}{t:aV},I h a es ep t->h'.get? a=h.get? a->TupKeep h h'->I h' a es ep t
 add:∀{A:a8}{E:ad->ah->Prop}{s:ah}{a:Addr}{es:Array (Int×ad)}{ep:Nat}{t:aV}{k:κ}{x:ad}{Q:Bool->ah->Prop},A.units<cE->I s.heap a es ep t->is s.heap k x->es.size+1<=300 ->
  (∀ h' tk es' ep' t' added,I h' a es' ep' t'->dP a s.heap h'->t'.led=t.led->s.toks<=tk ->
   ((added=false/\es'=es/\∃e∈es.toList,is s.heap k e.2)\/(added=true/\(∃hh,es'.toList.Perm ((hh,x)::es.toList))/\¬ ∃e∈es.toList,is s.heap k e.2))->Q added {s with heap:=h',toks:=tk}) ->
  aH (aE prog w) A (setAdd a x) Q E s
theorem aX9{h h':bj}{a:Addr}{es:Array (Int×ad)}{ep:Nat}{t:aV}(ho:h.get? a=some (setOb es ep t))(sb:dP a h h'):TupKeep h h':=λb o e c=>by
 refine(sb.2 b ?_).trans e;rintro rfl;rw[ho] at e;have i:o=setOb es ep t:=(aS e).symm;rw[i] at c;have j:dD "set"=dD "tuple":=c;injection j with d
 exact absurd d (by decide)
section
variable{prog:aF}{w:aR}
theorem TK.keep{h h':bj}{k:List Str}{v:ad}(x:TK prog w h k v)(kp:TupKeep h h'):TK prog w h' k v:=by
 obtain⟨b,rfl,o,items,n,i,d,hd,hi⟩:=x;exact⟨b,rfl,o,items,n,kp b o i d,d,hd,hi⟩
theorem bQj{α β:Type}{R:α->β->Prop}:∀{l:List α}{m:List β},bi R l m->∀a∈l,∃b∈m,R a b
 |_,_,.nil,a,h=>nomatch h
 |_,_,.cons r t,a,h=>by
  rcases aK.mp h with rfl|h
  ·exact⟨_,aq,r⟩
  ·obtain⟨b,d,q⟩:=bQj t a h;exact⟨b,au _ d,q⟩
theorem aJv{α β:Type}{R:α->β->Prop}:∀{l:List α}{m:List β},bi R l m->∀b∈m,∃a∈l,R a b
 |_,_,.nil,a,h=>nomatch h
 |_,_,.cons r t,a,h=>by
  rcases aK.mp h with rfl|h
  ·exact⟨_,aq,r⟩
  ·obtain⟨b,d,q⟩:=aJv t a h;exact⟨b,au _ d,q⟩
theorem paired_perm{α β:Type}{R:α->β->Prop}{l l':List α}(p:l'.Perm l):∀{m:List β},bi R l m->∃m',m'.Perm m/\bi R l' m':=by
 have gen:∀{l l':List α},l.Perm l'->∀{m:List β},bi R l m->∃m',m'.Perm m/\bi R l' m':=by
  intro l l' p
  induction p with
  |nil=>intro m h;cases h;exact⟨[],db _,.nil⟩
  |cons x _ B =>
   intro m h;cases h with
   |cons r t =>
    obtain⟨m',h1,h2⟩:=B t;exact⟨_,h1.cons _,.cons r h2⟩
  |swap x y l =>
   intro m h;cases h with
   |cons r t =>
    cases t with
    |cons v j=>exact⟨_,ju.swap _ _ _,.cons v (.cons r j)⟩
  |trans _ _ i d =>
   intro m h;obtain⟨L,a1,J⟩:=i h;obtain⟨z,a2,D⟩:=d J;exact⟨z,a2.trans a1,D⟩
 intro m h;exact gen p.symm h
theorem few_aux{α β:Type}{R:α->β->Prop}{k0:β}{l:List α}{m:List β}(hp:bi R l m)(h0:∀a∈l,R a k0)(inj:∀a b b',R a b->R a b'->b=b')(nd:m.Nodup):l.length<=1:=by
 cases hp with
 |nil=>exact Nat.zero_le _
 |cons i t1 =>
  cases t1 with
  |nil=>exact Nat.le_refl _
  |cons d z =>
   have v:=inj _ _ _ (h0 _ aq) i;have j:=inj _ _ _ (h0 _ (au _ aq)) d
   have:=(bM.mp nd).1
   exact absurd (by rw[<- v,j];exact aq) this
theorem empty_el{P:Int×ad->Prop}:∀e∈(#[]:Array (Int×ad)).toList,P e:=λe he=>absurd he (by simp)
def tupKd(prog:aF)(w:aR):SetKd prog w (List Str) where
 is:=TK prog w
 I:=λh a es ep t=>SetAt h a es ep t/\ElT prog w h es.toList/\bQi prog w h es.toList t
 inj:=λa b=>a.inj b
 obj:=λx=>x.1.obj
 fits:=λx=>x.1.inv.fits
 few:=λ{h a es ep t ks} x hp nd hpl=>by
  have q:=few_aux hp (x.2.2 hpl) (λ_ _ _ r1 r2=>r1.inj r2) nd;simpa using q
 fresh:=λho=>⟨⟨ho,dQf _ _ _⟩,empty_el,λ_=>empty_el⟩
 keepIs:=λx kp=>x.keep kp
 keepI:=λx e kp=>⟨⟨by rw[e];exact x.1.obj,x.1.inv⟩,λe he=>by
  obtain⟨k,q1,q2⟩:=x.2.1 e he;exact⟨k,q1.keep kp,q2⟩,λhp e he=>(x.2.2 hp e he).keep kp⟩
 add:=λ{A E s a es ep t k x Q} hu hI hx hn h=>by
  obtain⟨S,hel,hpl⟩:=hI;refine dJ3 S hu hel hpl hx hn λh' tk es' ep' t' added h1 h2 h3 h4 h5 h6=>?_;have kp:=aX9 S.obj h2;refine h h' tk es' ep' t' added ⟨h1,?_,λhp e he=>(h3 hp e he).keep kp⟩ h2 h4 h5 ?_
  ·intro e he;rcases h6 with⟨_,rfl,_⟩|⟨_,hp,_⟩
   ·obtain⟨k,q1,q2⟩:=hel e he;exact⟨k,q1.keep kp,q2⟩
   ·rcases aK.mp (hp.mem_iff.mp he) with q|q
    ·rw[q];exact⟨k,hx.keep kp,rfl⟩
    ·obtain⟨k,q1,q2⟩:=hel e q;exact⟨k,q1.keep kp,q2⟩
  ·rcases h6 with q|⟨q1,q2,q3⟩
   ·exact .inl q
   ·exact .inr ⟨q1,⟨_,q2⟩,q3⟩
theorem bXx(t:aV)(n:Nat):(t.orStandIn n).led=t.led:=by unfold aV.orStandIn;split <;> rfl
theorem addS{A:a8}{E:ad->ah->Prop}{s:ah}{a:Addr}{es:Array (Int×ad)}{ep:Nat}{t:aV}{k:Str}{x:ad}{Q:Bool->ah->Prop}(ho:s.heap.get? a=some (setOb es ep t))(hf:t.fits es.size=true)(hel:ElemsOf (strKind prog w) es.toList)
    (hpl:t.plain=true->es=#[]) (hx:(strKind prog w).is k x=true) (hn:es.size+1<=300)
    (h:∀ h' es' ep' t' added,h'.get? a=some (setOb es' ep' t') -> t'.fits es'.size=true -> ElemsOf (strKind prog w) es'.toList -> (t'.plain=true -> es'=#[]) -> dP a s.heap h' -> t'.led=t.led ->
      ((added=false/\es'=es/\∃e∈es.toList,(strKind prog w).is k e.2=true)\/(added=true/\es'.toList.Perm (((strKind prog w).hash k,x)::es.toList)/\¬ ∃e∈es.toList,(strKind prog w).is k e.2=true))->Q added {s with heap:=h'}) :
    aH (aE prog w) A (i7 a x ((strKind prog w).hash k)) Q E s:=by
  obtain⟨tok,rfl⟩:=eE hx;have hb:es.size<scanBound:=by unfold scanBound; lia
  unfold i7 setAddHashedIn;refine bu (aa (dg ho rfl hf ?_));dsimp only;rw [byScan_of rfl hb hel];simp only [↓reduceIte];unfold setAddByScan;refine aa ?_;refine aa (cS ?_);refine aa (wpAny_setScan_of hx ho rfl hf hel ?_);cases hr:List.findIdx? (λe=>(strKind prog w).is k e.2) es.toList with
  |some j =>
    dsimp only;obtain⟨hj,hpj,_⟩:=List.findIdx?_eq_some_iff_getElem.mp hr;refine ae (ae ?_);exact h s.heap es ep t false ho hf hel hpl (jC a s.heap) rfl (.inl ⟨rfl,rfl,es.toList[j],dX hj,hpj⟩)
  |none =>
    dsimp only;have hno:¬ ∃e∈es.toList,(strKind prog w).is k e.2=true:=by
      rintro⟨e,he,Y⟩;have:=List.findIdx?_eq_none_iff.mp hr e he;rw [Y] at this; exact Bool.noConfusion this
    have hgw:∀(b:Bool) {s1:ah}{Q':Unit->ah->Prop},Q' () s1->aH (aE prog w) A (match b with|true=>rule "set.scan.the-table-gave-way"|false=>pure ()) Q' E s1 :=
      λb s1 Q' hq =>by cases b <;> first|exact ae hq|exact cS hq
    have d:=layNew_perm t es ((strKind prog w).hash k) (.str k tok);have v:=layNew_fits t es ((strKind prog w).hash k) (.str k tok);have B:(layNew t es ((strKind prog w).hash k) (.str k tok)).2.1.led=t.led:=by
      unfold layNew
      split
      · exact bXx _ _
      · rfl
    generalize hL:layNew t es ((strKind prog w).hash k) (.str k tok)=L at d v B ⊢;obtain⟨es1,t1,D,gave⟩:=L;dsimp only at d v B ⊢;rw [b7] at d;have i:es1.toList.Perm (((strKind prog w).hash k,.str k tok)::es.toList):=d.trans (g8 _ _);have U:ElemsOf (strKind prog w) es1.toList:=(hel.push hx rfl).perm d;have hsz1:es1.size=es.size+1:=by
      have:=i.length_eq;simpa using this
    have hz1:es1.size<=sizeLine:=by rw [hsz1,bh]; lia
    refine aa (hgw _ ?_)
    have rest:∀ t2:aV,t2.fits es1.size=true -> t2.plain=false -> t2.led=t.led -> aH (aE prog w) A (do
        storeSet a es1 t2
        if (!D&&t2.tooFull)=true then do
            (match (iK t2 es1 (dh es1.size)).2.2 with|true =>rule "set.scan.the-table-gave-way"|false =>pure ())
            storeSet a (iK t2 es1 (dh es1.size)).1 (iK t2 es1 (dh es1.size)).2.1
            pure (some true)
          else pure (some true)) (λr s'=>aH (aE prog w) A (match r with|some added=>pure added|none=>setAddHashedIn a (.str k tok) ((strKind prog w).hash k) 99999) Q E s') E s:=by
      intro t2 q1 q2 q3;refine aa (f7 ho rfl ?_ hz1);have Z:(s.heap.update a (dF es1 t2)).get? a=some (setOb es1 (ep+1) t2):=by
        have:=cw (dF es1 t2) ho (by rw [gq _ _ rfl]; rfl)
        rw [gq _ _ rfl] at this; exact this
      have O:=cv s.heap a (dF es1 t2)
      split
      · have Y:=relayAll_perm t2 es1 (dh es1.size)
        have hfr:=relayAll_fits t2 es1 (dh es1.size);have N:(iK t2 es1 (dh es1.size)).2.1.led=t2.led/\(iK t2 es1 (dh es1.size)).2.1.plain=false:=by
          unfold iK
          split
          · rename_i t' order hq
            have : t'.led=t2.led/\t'.plain=t2.plain:=by
              unfold relaid laid at hq;cases hc:layClean (sizeAbove (dh es1.size)-1) (Array.map (·.1) es1) with
              |none =>rw [hc] at hq; cases hq
              |some ow =>rw [hc] at hq; cases hq; exact⟨rfl,rfl⟩
            dsimp only
            split
            · exact⟨this.1,this.2.trans q2⟩
            · exact⟨rfl,rfl⟩
          · exact⟨rfl,rfl⟩
        generalize hRl:iK t2 es1 (dh es1.size)=Rl at Y hfr N ⊢;obtain⟨J,t3,gave2⟩:=Rl;dsimp only at Y hfr N ⊢;have hsz2:J.size=es1.size:=by
          have:=Y.length_eq;simpa using this
        refine aa (hgw _ ?_);refine aa (f7 Z rfl ?_ (by rw [hsz2]; exact hz1))
        have ho2:((s.heap.update a (dF es1 t2)).update a (dF J t3)).get? a=some (setOb J (ep+1+1) t3):=by
          have:=cw (dF J t3) Z (by rw [gq _ _ rfl]; rfl)
          rw [gq _ _ rfl] at this; exact this
        refine ae (ae ?_);exact h _ J _ t3 true ho2 hfr (U.perm Y) (λz =>by rw [N.2] at z; cases z) (O.trans (cv _ a _)) (N.1.trans q3) (.inr ⟨rfl,Y.trans i,hno⟩)
      · refine ae (ae ?_)
        exact h _ es1 _ t2 true Z q1 U (λz =>by rw [q2] at z; cases z) O q3 (.inr ⟨rfl,i,hno⟩)
    split
    · refine aa ?_
      rw [hashByValue_scannable 8 rfl];refine ae ?_;exact rest _ (aV.fits_plain_off v) rfl B
    · rename_i hnp
      refine aa (ae ?_);simp only [↓reduceIte];exact rest t1 v (eA.mpr hnp) B
end
section
variable{prog:aF}{w:aR}
def strKd(prog:aF)(w:aR):SetKd prog w Str where
 is:=λ_ k v=>(dW prog w).is k v=true
 I:=λh a es ep t=>h.get? a=some (setOb es ep t)/\t.fits es.size=true/\ElemsOf (dW prog w) es.toList/\(t.plain=true->es=#[])
 inj:=λa b=>(dW prog w).inj _ _ _ a b
 obj:=λx=>x.1
 fits:=λx=>x.2.1
 few:=λx _ _ hp=>by rw[x.2.2.2 hp];exact Nat.zero_le _
 fresh:=λho=>⟨ho,rfl,empty_el,λ_=>rfl⟩
 keepIs:=λx _=>x
 keepI:=λx e _=>⟨by rw[e];exact x.1,x.2⟩
 add:=λ{A E s a es ep t k x Q} hu hI hx hn h=>by
  obtain⟨ho,hf,hel,hpl⟩:=hI;unfold setAdd;refine bu (aa ((dW prog w).pyHash hx ?_));exact addS (s:={ s with toks:=s.toks + 1 }) ho hf hel hpl hx hn λh' es' ep' t' added h1 h2 h3 h4 h5 h6 h7=>h h' _ es' ep' t' added ⟨h1,h2,h3,h4⟩ h5 h6 (Nat.le_succ _) (by
   rcases h7 with q|⟨q1,q2,q3⟩
   ·exact .inl q
   ·exact .inr ⟨q1,⟨_,q2⟩,q3⟩)
structure Mem{κ:Type}(D:SetKd prog w κ)(h:bj)(a:Addr)(done:List κ)(led:Bool)(ks:List κ):Prop where
 ex:∃es ep t,D.I h a es ep t/\t.led=led/\bi (λ(e:Int×ad) k=>D.is h k e.2) es.toList ks
 nd:ks.Nodup
 mem:∀k,k∈ks↔k∈done
theorem Mem.keep{κ:Type}{D:SetKd prog w κ}{h h':bj}{a:Addr}{done:List κ}{led:Bool}{ks:List κ}(M:Mem D h a done led ks)(e:h'.get? a=h.get? a)(kp:TupKeep h h'):Mem D h' a done led ks:=by
 obtain⟨es,i,t,h1,h2,d⟩:=M.ex;exact⟨⟨es,i,t,D.keepI h1 e kp,h2,L2.Paired.mapP d λ_ _ q=>D.keepIs q kp⟩,M.nd,M.mem⟩
theorem Mem.size{κ:Type}{D:SetKd prog w κ}{h:bj}{a:Addr}{done:List κ}{led:Bool}{ks:List κ}(M:Mem D h a done led ks):ks.length<=done.length :=
 M.nd.length_le_of_subset λk d=>(M.mem k).mp d
theorem addM{κ:Type}[DecidableEq κ](D:SetKd prog w κ){A:a8}{E:ad->ah->Prop}{s:ah}{a:Addr}{done:List κ}{led:Bool}{ks:List κ}{k:κ}{x:ad}{Q:Bool->ah->Prop}(hu:A.units<cE)(M:Mem D s.heap a done led ks)(hx:D.is s.heap k x)(hn:ks.length+1<=300)
  (h:∀h' tk ks',Mem D h' a (done++[k]) led ks'->dP a s.heap h'->TupKeep s.heap h'->s.toks<=tk->Q (decide (k∉ks)) {s with heap:=h',toks:=tk}) :
  aH (aE prog w) A (setAdd a x) Q E s:=by
 obtain⟨es,ep,t,h1,h2,J⟩:=M.ex;have hl:es.size=ks.length:=by have:=cq J;simpa using this
 refine D.add hu h1 hx (by lia) λh' tk j v Z added q1 U q3 q4 q5=>?_
 have kp:=aX9 (D.obj h1) U;have i:bi (λ(e:Int×ad) k=>D.is h' k e.2) es.toList ks:=L2.Paired.mapP J λ_ _ q=>D.keepIs q kp;have isin:(∃e∈es.toList,D.is s.heap k e.2)↔k∈ks:=by
  constructor
  ·rintro⟨e,he,q⟩;obtain⟨B,Y,q'⟩:=bQj J e he;rw[D.inj q q'];exact Y
  ·intro d;obtain⟨e,he,q⟩:=aJv J k d;exact⟨e,he,q⟩
 rcases q5 with⟨O,N,L⟩|⟨O,⟨hh,N⟩,L⟩
 ·have d:=isin.mp L;have q:=h h' tk ks ⟨⟨j,v,Z,q1,q3.trans h2,by rw[N];exact i⟩,M.nd,λB=>by
   rw[M.mem B,aL,ay];exact⟨.inl,λz=>z.elim id λz=>by rw[z];exact(M.mem k).mp d⟩⟩ U kp q4
  rw[decide_eq_false (λz=>z d)] at q;rw[O];exact q
 ·have d:k∉ks:=λz=>L (isin.mpr z);obtain⟨ks',p1,p2⟩:=paired_perm N (R:=λ(e:Int × ad) k=>D.is h' k e.2) (m:=k::ks) (.cons (D.keepIs hx kp) i);have q:=h h' tk ks' ⟨⟨j,v,Z,q1,q3.trans h2,p2⟩,p1.nodup_iff.mpr (bM.mpr ⟨d,M.nd⟩),λB=>by
   rw[p1.mem_iff,aK,aL,ay,M.mem B];exact⟨λz=>z.symm,λz=>z.symm⟩⟩ U kp q4
  rw[decide_eq_true d] at q;rw[O];exact q
theorem dQj{κ:Type}[DecidableEq κ](D:SetKd prog w κ){A:a8}{R:Result->ah->Prop}{I S l:Addr}{items:Array ad}{ks:List κ}{led:Bool}(hh:A.in1.handled=none)(hu:A.in1.units<cE)(hne:l≠I)(hSI:S≠I)(hSl:S≠l){cs:List κ}(hcs:∀k∈ks,k∈cs)(hn:cs.length+1<=300) :
  ∀(j i:Nat) (s:ah),items.size-i=j->i<=items.size->s.heap.IsListIter I l i->s.heap.IsList l items->bi (λv k=>D.is s.heap k v) items.toList ks->(∃ms,Mem D s.heap S (ks.take i) led ms) ->
   (∀h' tk ms,Mem D h' S ks led ms->TupKeep s.heap h'->(∀b o,b≠S->b≠I->s.heap.get? b=some o->h'.get? b=some o)->R (.ok (.ret .none)) {s with heap:=h',toks:=tk}) ->
   eF (aE prog w) A (.builtin "set.update.loop" ⟨[.ref S,.ref I],[]⟩) R s:=by
 have Y:∀ {h h':bj} {i:Nat},h.IsListIter I l i->(∀ b o,b≠I->h.get? b=some o->h'.get? b=some o)->TupKeep h h':=λst k b o e c=>k b o (by
  rintro rfl;obtain⟨o',e',c',_⟩:=st;rw[e] at e';cases e';rw[c] at c';injection c' with c''
  exact absurd c'' (by decide)) e
 intro j
 induction j with
 |zero =>
  intro i s hj hi d hl L hM hR;have hin:i=items.size:=by lia
  subst hin;refine ci fD ?_;rw[bJ dO _];show aH _ A.in1 (fi (.ref I)>>=_) _ _ s;refine aa (wpAny_pyNext_list_end hh d hl (by simp) λh' eb=>?_)
  show aH _ A.in1 (ret cB) _ _ _;have kp:=Y d λb o hb e=>eb b o hb e;obtain⟨ms,M⟩:=hM;have hlen:ks.length=items.size:=by have:=cq L;simpa using this.symm
  rw[br (by lia)] at M
  obtain⟨es,ep,t,h1,_⟩:=id M.ex;have hS:=D.obj h1;exact ae (hR h' s.toks ms (M.keep (by rw[hS];exact eb S _ hSI hS) kp) kp λb o _ hb e=>eb b o hb e)
 |succ j ih =>
  intro i s hj hi d hl L hM hR;have N:i<items.size:=by lia
  refine ci fD ?_;rw[bJ dO _];show aH _ A.in1 (fi (.ref I)>>=_) _ _ s;refine aa (wpAny_pyNext_list_item d hl (x:=items[i]) (by simp[N]) λh1 st1 z=>?_)
  have B:=Y d λb o hb e=>(z.2 b hb).trans e;obtain⟨ms,M⟩:=hM;obtain⟨es,ep,t,q1,_⟩:=id M.ex;have hS:=D.obj q1;have M1:=M.keep (h':=h1) (by rw[z.2 S hSI]) B
  have hlen:ks.length=items.size:=by have:=cq L;simpa using this.symm
  have Z:ks[i]?=some ks[i]:=ag (by lia)
  have hx:D.is s.heap ks[i] items[i]:=by
   have gen:∀{l:List ad}{m:List κ},bi (λv k=>D.is s.heap k v) l m->∀(n:Nat) (v:ad) (k:κ),l[n]?=some v->m[n]?=some k->D.is s.heap k v:=by
    intro l m L
    induction L with
    |nil=>intro n v k h;simp at h
    |cons r _ ih =>
     intro n v k h1 h2;cases n with
     |zero=>simp at h1 h2;subst h1;subst h2;exact r
     |succ n=>exact ih n v k (by simpa using h1) (by simpa using h2)
   exact gen L i _ _ (by simp[N]) Z
  show aH _ A.in1 (fv [items[i]] (setAdd S items[i])>>=_) _ _ _;refine aa (bu ?_);have hms:ms.length<=cs.length:=M1.nd.length_le_of_subset λk hk=>hcs k (bD ((M1.mem k).mp hk));refine addM D (s:={s with heap:=h1}) hu M1 (D.keepIs hx B) (by lia) λh2 tk ms' M2 J U htk=>?_
  have hl2:h2.IsList l items:=by
   obtain⟨o,e,r⟩:=hl;exact⟨o,(J.2 l (cY hSl)).trans ((z.2 l hne).trans e),r⟩
  have st2:h2.IsListIter I l (i+1):=by
   obtain⟨o,e,r⟩:=st1;exact⟨o,(J.2 I (cY hSI)).trans e,r⟩
  refine ae ⟨cZ dO _,ih (i+1) _ (by lia) N st2 hl2 (L2.Paired.mapP L λ_ _ q=>D.keepIs q (B.trans U)) ⟨ms',?_⟩ λh' tk' O a1 a2 a3=>?_⟩
  ·have et:ks.take (i+1)=ks.take i++[ks[i]]:=by rw[cL,Z];rfl
   rw[et];exact M2
  ·exact hR h' tk' O a1 ((B.trans U).trans a2) λb o hb1 hb2 e=>a3 b o hb1 hb2 ((J.2 b hb1).trans ((z.2 b hb2).trans e))
abbrev ledOf(w:aR):Bool:=!(w.params.followText "set-order")
theorem dQk{A:a8}{E:ad->ah->Prop}{s:ah}(a:ad){Q1:ad->ah->Prop}
  (h:Q1 (.ref s.heap.objs.size) {s with heap:=s.heap.push (setOb #[] 0 (.fresh 0 0 (ledOf w)))}) :
  eF (aE prog w) A (.call (.builtin "set.__new__") ⟨[.type "set",a],[]⟩) (wants Q1 E) s:=by
 refine gF ?_;show aH _ A.in1 (do checkBuiltinCall "set.__new__" ⟨[.type "set",a],[]⟩;again (.builtin "set.__new__" ⟨[.type "set",a],[]⟩)) _ _ s
 refine aa (wpAny_of_eq (PySem.F.newCall_set_1 a) (ae ⟨cZ jh _,ci PySem.F.entry_set_new ?_⟩));rw[bJ jh _];unfold cx.«set.__new__» cx.Frozenset.newClass;have i:=sub_set_self;obtain⟨v,g,d,j,os⟩:=s;dsimp only
 wp_walk
 refine cU (ae ?_);dsimp only;simp only[newObj];refine aa (wpAny_alloc (ae ?_));exact ae h
end
section
variable{prog:aF}{w:aR}
theorem cZ2{κ:Type}[DecidableEq κ](D:SetKd prog w κ){A:a8}{E:ad->ah->Prop}{s:ah}{l:Addr}{items:Array ad}{ks:List κ}{Q:ad->ah->Prop}
  (hh:A.handled=none) (hu:A.units+8<cE) (hl:s.heap.IsList l items) (hi:bi (λv k=>D.is s.heap k v) items.toList ks) {cs:List κ}(hcs:∀k∈ks,k∈cs) (hb:cs.length+1<=300)
  (h:∀ (h':bj) (tk:Nat) ms,Mem D h' s.heap.objs.size ks (ledOf w) ms->TupKeep s.heap h' ->
   (∀b o,b<s.heap.objs.size->s.heap.get? b=some o->h'.get? b=some o)->Q (.ref s.heap.objs.size) {s with heap:=h',toks:=tk}) :
  aH (aE prog w) A (call (.type "set") [.ref l]) Q E s:=by
 obtain⟨c,tl,hmro⟩:=PySem.F.called_set.mro;have hmade:=PySem.F.called_set.made;have hsub:=PySem.F.called_set.sub;refine wpAny_call (gF ?_);show aH _ _ (callAny (.type "set") _) _ _ _;refine ae ⟨Code.quiet_builtin _ (by decide +kernel),ci PySem.F.entry_type_call ?_⟩
 rw[a8.under_plain (weight_type_call_type "set" [.ref l] []) rfl];have h1:=PySem.F.called_set.notType;have h2:=PySem.F.called_set.canCreate;have hct:=PySem.F.typeCall_set_1 (.ref l)
 repeat (any_goals (first|assumption|wp_step))
 refine gJ (dQk (.ref l) (E:=E) (Q1:=λobj s1=>obj=.ref s.heap.objs.size/\s1={s with heap:=s.heap.push (setOb #[] 0 (.fresh 0 0 (ledOf w)))}) ⟨rfl,rfl⟩) λr s1 hr=>?_
 cases r with
 |error e=>exact hr
 |ok fl =>
  cases fl with
  |ret obj =>
   obtain⟨rfl,rfl⟩:=hr;have hS:(s.heap.push (setOb #[] 0 (.fresh 0 0 (ledOf w)))).get? s.heap.objs.size=some (setOb #[] 0 (.fresh 0 0 (ledOf w))):=az _ rfl;have hT:ah.TypeIs {s with heap:=s.heap.push (setOb #[] 0 (.fresh 0 0 (ledOf w)))} (.ref s.heap.objs.size) "set":=⟨_,hS,rfl⟩
   have hli:=PySem.F.called_set.init.lookup;have hbi:=PySem.F.called_set.init.bind (.ref s.heap.objs.size)
   repeat (any_goals (first|assumption|wp_step))
   refine gJ (codeAny_call_builtin (R:=wants (λr s2=>r=.none/\∃ h' tk ms,s2={ s with heap:=h',toks:=tk }/\Mem D h' s.heap.objs.size ks (ledOf w) ms/\TupKeep s.heap h' /\
     (∀b o,b<s.heap.objs.size->s.heap.get? b=some o->h'.get? b=some o)) E) PySem.F.called_set.init.plain PySem.F.entry_set_init (check_set_init_1 hT ?_)) λr2 s2 z=>?_
   ·obtain⟨ol,L,hcl,nl,Z⟩:=hl;obtain⟨ocls,i,odata,d⟩:=ol;simp only at hcl Z;subst hcl;subst Z;have J:(s.heap.push (setOb #[] 0 (.fresh 0 0 (ledOf w)))).get? l=some {cls:=.type "list",dict:=i,data:=.seq items nl,slots:=d}:=af _ L;have hsls:=PySem.F.sub_list_set;have hslf:=PySem.F.sub_list_frozenset;have hne:(dD "list" ==dD "dict")=false:=by decide
    have U:(s.heap.push (setOb #[] 0 (.fresh 0 0 (ledOf w)))).IsList l items:=⟨_,J,rfl,nl,rfl⟩;unfold cx.«set.__init__» noKeywords cx.Frozenset.updateFrom;generalize hPI:iW=PI;unfold setOb at *
    wp_walk
    subst hPI;refine f8 U ?_;refine aa (wpAny_runValue ?_);have O:l<s.heap.objs.size:=aD L;have hh3:A.in1.in1.in1.handled=none:=by simp[hh]
    have hu3:A.in1.in1.in1.units<cE:=by show A.units+1+1+1<cE;lia
    have N:l≠(s.heap.push {cls:=.type "set",dict:=none,data:=.set #[] 0 (.fresh 0 0 (ledOf w))}).objs.size:=by
     rw[c8];exact Nat.ne_of_lt (Nat.lt_succ_of_lt O)
    have hSI:s.heap.objs.size≠(s.heap.push {cls:=.type "set",dict:=none,data:=.set #[] 0 (.fresh 0 0 (ledOf w))}).objs.size:=by
     rw[c8];exact Nat.ne_of_lt (Nat.lt_succ_self _)
    have kp:TupKeep s.heap ((s.heap.push {cls:=.type "set",dict:=none,data:=.set #[] 0 (.fresh 0 0 (ledOf w))}).push {cls:=.type "list_iterator",data:=.fields #[.ref l,.int 0 0]}):=λb o e _=>af _ (af _ e)
    have Y:((s.heap.push {cls:=.type "set",dict:=none,data:=.set #[] 0 (.fresh 0 0 (ledOf w))}).push {cls:=.type "list_iterator",data:=.fields #[.ref l,.int 0 0]}).get? s.heap.objs.size
       =some (setOb #[] 0 (.fresh 0 0 (ledOf w))):=af _ hS
    refine dQj D hh3 hu3 N hSI (cY (Nat.ne_of_lt O)) hcs hb (items.size-0) 0 _ (by lia) (Nat.zero_le _) ⟨_,az _ rfl,rfl,rfl⟩ (U.push _) (L2.Paired.mapP hi λ_ _ q=>D.keepIs q kp)
     ⟨[],⟨⟨#[],0,.fresh 0 0 (ledOf w),D.fresh Y,rfl,.nil⟩,eM,λk=>by simp⟩⟩ ?hR
    case hR =>
     intro h' tk' ms hM j B;show aH _ _ _ _ _ _;refine ae ?_;show aH _ _ (ret cB) _ _ _;refine ae ⟨rfl,h',tk',ms,rfl,hM,kp.trans j,λb o hb e=>?_⟩;exact B b o (Nat.ne_of_lt hb) (by rw[c8];exact Nat.ne_of_lt (Nat.lt_succ_of_lt hb)) (af _ (af _ e))
   ·cases r2 with
    |error e=>exact z
    |ok fl2 =>
     cases fl2 with
     |ret r =>
      obtain⟨rfl,h',tk,ms,rfl,hM,j,B⟩:=z
      repeat (any_goals (first|assumption|wp_step))
      exact h _ _ _ hM j B
     |_=>exact z.elim
  |_=>exact hr.elim
theorem call_setK{κ:Type}[DecidableEq κ](D:SetKd prog w κ){A:a8}{E:ad->ah->Prop}{s:ah}{l:Addr}{items:Array ad}{ks:List κ}{Q:ad->ah->Prop}
  (hh:A.handled=none) (hu:A.units+8<cE) (hl:s.heap.IsList l items) (hi:bi (λv k=>D.is s.heap k v) items.toList ks) (hb:items.size+1<=300)
  (h:∀ (h':bj) (tk:Nat) ms,Mem D h' s.heap.objs.size ks (ledOf w) ms->TupKeep s.heap h' ->
   (∀b o,b<s.heap.objs.size->s.heap.get? b=some o->h'.get? b=some o)->Q (.ref s.heap.objs.size) {s with heap:=h',toks:=tk}) :
  aH (aE prog w) A (call (.type "set") [.ref l]) Q E s :=
 cZ2 D hh hu hl hi (cs:=ks) (λ_ h=>h) (by have:=cq hi;simp at this;lia) h
end
end ST
set_option maxHeartbeats 1000000
namespace L2
open PySem PySem.Spec PyProof.Rows
variable{α β:Type}
theorem cX8{H:Hp}{xs:List V}{us:List ad}{bs:List Bool}(p:bi (dB H) xs bs)(r:Vals xs us){i:Nat}{v:ad}(h:us[i]?=some v):∃b,bs[i]?=some b/\v=.bool b:=by
 have D:=r.length;have hi:i<xs.length:=by
  rcases Nat.lt_or_ge i us.length with z|z
  ·omega
  ·rw[bV z] at h;cases h
 obtain⟨b,e,B⟩:=Paired.get' p (ag hi);obtain⟨u,eu,j⟩:=r.get (ag hi);rw[h] at eu;cases eu;have d:xs[i]=V.bl b:=B;rw[d] at j;exact⟨b,e,j⟩
theorem cQ4{h h':bj}{o:Obj}(hk:∀b x,b∉[h.objs.size]->(h.push o).get? b=some x->h'.get? b=some x):∀b x,h.get? b=some x->h'.get? b=some x:=λb x e =>
 hk b x (λz=>by have:=ay.mp z;subst this;exact Nat.lt_irrefl _ (aD e)) (af _ e)
theorem cZ3(bs:List Bool):∀n,n=bs.length->((a6 n).all λi=>(bs[i]?).getD true)=bs.all id:=by
 rintro n rfl;rw[Bool.eq_iff_iff,bY,bY];refine⟨λh b j=>?_,λh i hi=>?_⟩
 ·obtain⟨i,hi,rfl⟩:=bd j
  have:=h i (aX.mpr hi)
  rwa [ag hi] at this
 ·have d:=aX.mp hi;rw[ag d];exact h _ (dX d)
theorem cZ4(bs:List Bool):∀n,n=bs.length->((a6 n).any λi=>(bs[i]?).getD false)=bs.any id:=by
 rintro n rfl;rw[Bool.eq_iff_iff,dY,dY];refine⟨λ⟨i,hi,h⟩=>?_,λ⟨b,j,h⟩=>?_⟩
 ·have d:=aX.mp hi;rw[ag d] at h;exact⟨_,dX d,h⟩
 ·obtain⟨i,hi,rfl⟩:=bd j;exact⟨i,aX.mpr hi,by rw[ag hi];exact h⟩
section
variable{X:Cx}
theorem cX9(hc:X.calm=true):CallR X (.builtin "all") (λxs H Q=>∃x bs,xs=[x]/\dL X.K dB H x bs/\Q (.bl (bs.all id)) H):=by
 intro pins s σ H xs us Q I r h;obtain⟨x,bs,rfl,⟨a,ys,rfl,B,p⟩,q⟩:=h;obtain⟨u,rfl,rx⟩:=aXc r;cases rx;obtain⟨its,d,pl,_⟩:=I.list B;obtain⟨o,D,_⟩:=id pl.isList;refine PySem.call_all_walk (f8 pl.isList ⟨_,_,_,_,_,_,λi=>(bs[i]?).getD true,rfl,PySem.Walks.list (A:=X.A.in1) (by have:=I.ok.hd hc;simp[this]) _ a (Nat.ne_of_lt (aD D)) its.toArray,⟨⟨_,az _ rfl,rfl,rfl⟩,pl.isList.push _⟩,λi v s' N O L j=>?_,λh' z J=>?_⟩)
 ·obtain⟨b,e,rfl⟩:=cX8 p d (show its[i]?=some v by simpa using L)
  simp only[e,Option.getD_some] at j;exact dI j
 ·rw[cZ3 bs _ (by rw[ar,<- d.length,p.length])]
  exact⟨.bl _,H,I.kept (t':=z) (cQ4 J),rfl,q⟩
theorem cXa(hc:X.calm=true):CallR X (.builtin "any") (λxs H Q=>∃x bs,xs=[x]/\dL X.K dB H x bs/\Q (.bl (bs.any id)) H):=by
 intro pins s σ H xs us Q I r h;obtain⟨x,bs,rfl,⟨a,ys,rfl,B,p⟩,q⟩:=h;obtain⟨u,rfl,rx⟩:=aXc r;cases rx;obtain⟨its,d,pl,_⟩:=I.list B;obtain⟨o,D,_⟩:=id pl.isList;refine PySem.call_any_walk (f8 pl.isList ⟨_,_,_,_,_,_,λi=>(bs[i]?).getD false,rfl,PySem.Walks.list (A:=X.A.in1) (by have:=I.ok.hd hc;simp[this]) _ a (Nat.ne_of_lt (aD D)) its.toArray,⟨⟨_,az _ rfl,rfl,rfl⟩,pl.isList.push _⟩,λi v s' N O L j=>?_,λh' z J=>?_⟩)
 ·obtain⟨b,e,rfl⟩:=cX8 p d (show its[i]?=some v by simpa using L)
  simp only[e,Option.getD_some] at j;exact dI j
 ·rw[cZ4 bs _ (by rw[ar,<- d.length,p.length])]
  exact⟨.bl _,H,I.kept (t':=z) (cQ4 J),rfl,q⟩
def SzOk(ds:List α)(n:Nat):Prop:=n<=ds.length/\(n=ds.length↔ds.Nodup)
theorem aXz[DecidableEq α]:∀(ds ms:List α),ms.Nodup->ms⊆ds->ds.length<=ms.length->ds.Nodup
 |[],_,_,_,_=>eM
 |x::xs,ms,nd,sub,le=>by
  have i:x∉xs:=λi=>by
   have:ms⊆xs:=λk j=>by
    rcases aK.mp (sub j) with rfl|z
    ·exact i
    ·exact z
   have:=nd.length_le_of_subset this
   simp only[bA] at le;omega
  refine bM.mpr ⟨i,aXz xs (ms.erase x) (nd.erase x) (λk j=>?_) ?_⟩
  ·have d:=(g6.mem_erase_iff nd).mp j;exact(aK.mp (sub d.2)).resolve_left d.1
  ·simp only[bA] at le
   have:=List.length_erase (a:=x) (l:=ms)
   split at this <;> omega
theorem dJ4[DecidableEq α]{ds ms:List α}(nd:ms.Nodup)(h:∀k,k∈ms↔k∈ds):SzOk ds ms.length:=by
 have sub:ms⊆ds:=λk i=>(h k).mp i;have le:ms.length<=ds.length:=nd.length_le_of_subset sub;refine⟨le,λe=>?_,λd=>Nat.le_antisymm le (d.length_le_of_subset λk i=>(h k).mpr i)⟩;exact aXz ds ms nd sub (by omega)
theorem fZ0{P:aF}{w:aR}{h:bj}{H:Hp}{K:Fg}{b:Addr}{xs:List V}{its:List ad}{k:List Str}(p:bi (dS H) xs k)(r:Vals xs its)(t:iB h b its.toArray):ST.TK P w h k (.ref b):=by
 obtain⟨o,i,j,n,hd⟩:=t;refine⟨b,rfl,o,its.toArray,n,i,j,hd,?_⟩;show ItemsAre (dW P w) k its;have go:∀{xs:List V}{its:List ad}{k:List Str},bi (dS H) xs k->Vals xs its->ItemsAre (dW P w) k its:=by
  intro xs its k p r
  induction p generalizing its with
  |nil=>cases r;first|exact trivial|exact .nil
  |cons e _ d =>
   cases r with
   |cons r t =>
    cases e;obtain⟨v,rfl⟩:=r
    first
     |exact⟨by simp[dW,eB],d t⟩
     |exact .cons (by simp[dW,eB]) (d t)
 exact go p r
end
end L2
set_option maxHeartbeats 4000000
namespace L2
open PySem PySem.Spec PyProof.Rows
end L2
namespace HT
open PySem PyProof.Rows
def ltS(a b:Str):Bool:=decide (a.cps.toList<b.cps.toList)
def lexS:List Str->List Str->Bool
 |[],[]=>false
 |[],_::_=>true
 |_::_,[]=>false
 |x::xs,y::ys=>if x=y then lexS xs ys else ltS x y
theorem lexS_cons(x y:Str)(xs ys:List Str):lexS (x::xs) (y::ys)=if x=y then lexS xs ys else ltS x y:=rfl
theorem bX0:lexS [] []=false:=rfl
theorem lexS_nil_cons(y:Str)(ys:List Str):lexS [] (y::ys)=true:=rfl
theorem lexS_cons_nil(x:Str)(xs:List Str):lexS (x::xs) []=false:=rfl
abbrev SAre:List ad->List Str->Prop:=bi λv x=>∃t,v=.str x t
theorem SAre.len{l:List ad}{m:List Str}(h:SAre l m):l.length=m.length:=cq h
theorem dJ5(A:a8)(s:ah)(a:Str)(t:Tok)(c:Str)(u:Tok):∃e,cR A s (.str a t) (.str c u) e/\(e=true↔a=c) :=
 ⟨(a==c),g9 a t c u,by simp⟩
theorem dJ6(A:a8)(s:ah)(a:Str)(t:Tok)(c:Str)(u:Tok)(prog:aF)(w:aR)(E:ad->ah->Prop)(Q:ad->ah->Prop)(h:Q (.bool (ltS a c)) s) :
  aH (aE prog w) A (richCompare .Lt (.str a t) (.str c u)) Q E s :=
 (jw h:aH (aE prog w) A (cA .Lt (.str a t) (.str c u)) Q E s)
section
open PySem.SeqAt
open PySem.AutoSeq1 (wpAny_loadPart')
open PySem.MeetsSeq PySem.MeetsSeq2 PySem.MeetsSeq3
theorem tuple_lt_strs(l b:Addr)(items items2:Array ad)(n n2:Nat)(dd dd2:Option Addr)(sl sl2:Array (Option ad))(ns ms:List Str)(hi:SAre items.toList ns)(hj:SAre items2.toList ms) :
  Meets (cx.«tuple.__lt__» ⟨[.ref l,.ref b],[]⟩)
   (λ_ R s=>s.heap.get? l=some { cls:=.type "tuple",dict:=dd,data:=.seq items n,slots:=sl }/\s.heap.get? b=some { cls:=.type "tuple",dict:=dd2,data:=.seq items2 n2,slots:=sl2 } /\
    R (.ok (.ret (.bool (lexS ns ms)))) s) :=
 .of_wp λprog w A R s h=>by
  obtain⟨U,g,d,O,os⟩:=s;obtain⟨hl,hb,h⟩:=h;have f2:=AutoSeq1.sub_tuple_tuple;have z1:items.size=ns.length:=by rw[<- hi.len];simp
  have z2:items2.size=ms.length:=by rw[<- hj.len];simp
  wp_walk using wpAny_loadPart' hl,wpAny_loadPart' hb,iJ _ (λrest b s'=>b.1=none/\s'=⟨U,g,d,O,os⟩/\∃ (N ws:List ad) (i j:List Str),rest=N.zip ws /\
   SAre N i/\SAre ws j/\i.length+items2.size=j.length+items.size/\R (.ok (.ret (.bool (lexS i j)))) ⟨U,g,d,O,os⟩) _
  case turn =>
   rintro⟨y,x⟩ rest b s' ⟨D,rfl,N,ws,i,j,hz,hvi,hwi,hlen,z⟩;cases hvi with
   |nil=>rw[List.zip_nil_left] at hz;cases hz
   |@cons va a _ _ ha L =>
    obtain⟨t,rfl⟩:=ha;cases hwi with
    |nil=>rw[List.zip_nil_right] at hz;cases hz
    |@cons vc c _ _ hc J =>
     obtain⟨u,rfl⟩:=hc;rw[eV] at hz;injection hz with Y B
     injection Y with hy hx
     subst hy hx;rw[lexS_cons] at z;simp only[bA] at hlen;obtain⟨e,he,v⟩:=dJ5 A.in1 ⟨U,g,d,O,os⟩ a t c u;refine aa (he prog w _ _ ?_);cases e with
     |true =>
      rw[if_pos (v.mp rfl)] at z
      wp_walk
      exact⟨rfl,rfl,_,_,_,_,B,L,J,by lia,z⟩
     |false =>
      rw[if_neg (λq=>absurd (v.mpr q) dZ)] at z;have Z:=dJ6 A.in1 ⟨U,g,d,O,os⟩ a t c u prog w
      wp_walk using Z
      exact⟨_,rfl,by simpa using z⟩
  case fin =>
   rintro⟨b1,b2⟩ s' ⟨D,rfl,N,ws,i,j,hz,hvi,hwi,hlen,z⟩;simp only at D;subst D;have hv:lexS i j=decide (items.size<items2.size):=by
    cases hvi with
    |nil =>
     cases hwi with
     |nil =>
      simp only[dM] at hlen;rw[bX0];exact(decide_eq_false (by lia)).symm
     |cons hc hw =>
      simp only[dM,bA] at hlen;rw[lexS_nil_cons];exact(decide_eq_true (by lia)).symm
    |cons ha hv =>
     cases hwi with
     |nil =>
      simp only[dM,bA] at hlen;rw[lexS_cons_nil];exact(decide_eq_false (by lia)).symm
     |cons hc hw =>
      rw[eV] at hz;cases hz
   rw[hv] at z
   wp_walk
   exact⟨_,rfl,by simpa [cx.Tuple.tupleCompareSizes] using z⟩
  case h =>
   exact⟨rfl,rfl,items.toList,items2.toList,ns,ms,rfl,hi,hj,by lia,h⟩
end
section
variable{prog:aF}{w:aR}{A:a8}{E:ad->ah->Prop}{s:ah}
theorem lt_tupStrs{l b:Addr}{items items2:Array ad}{ns ms:List Str}{Q:ad->ah->Prop}(hl:iB s.heap l items)(hb:iB s.heap b items2)(hi:SAre items.toList ns)(hj:SAre items2.toList ms)
  (hu:A.units<cE) (h:Q (.bool (lexS ns ms)) s):aH (aE prog w) A (cA .Lt (.ref l) (.ref b)) Q E s:=by
 obtain⟨⟨cls,dd,data,sl⟩,z,B,n,hd⟩:=id hl;obtain⟨⟨D,v,data2,j⟩,d,i,J,hd2⟩:=id hb;simp only at B hd i hd2;subst B hd i hd2;exact richCompare_meets_room (op:=.Lt) ⟨_,z,rfl⟩ ⟨_,d,rfl⟩ gi i8 (iL _ _) (tuple_lt_strs l b items items2 n J dd v sl j ns ms hi hj)
  ⟨z,d,show ad.bool (lexS ns ms)≠ad.notImplemented/\Q (.bool (lexS ns ms)) s from⟨(λx=>nomatch x),h⟩⟩ hu
end
end HT
namespace L2
open PySem PySem.Spec PyProof.Rows
theorem aJw{H:Hp}:∀{xs:List V}{us:List ad}{ds:List Str},bi (dS H) xs ds->Vals xs us->HT.SAre us ds
 |_,_,_,.nil,.nil=>.nil
 |_,_,_,.cons p q,.cons r t=>by
  cases p;exact .cons r (aJw q t)
def rLtS(K:Fg):R2:=λx y H Q=>∃d e,dT K dS H x d/\dT K dS H y e/\Q (.bl (HT.lexS d e)) H
theorem eXi{X:Cx}(hu:X.A.units<cE):OpR X (cA .Lt) (rLtS X.K):=by
 intro pins s σ H x y v u Q I rx ry h;obtain⟨d,e,⟨a,xs,rfl,N,D⟩,⟨b,ys,rfl,L,B⟩,q⟩:=h;cases rx;cases ry;obtain⟨its,z,J,_⟩:=I.tuple N;obtain⟨i,j,p2,_⟩:=I.tuple L;exact HT.lt_tupStrs J p2 (aJw D z) (aJw B j) hu ⟨.bl (HT.lexS d e),H,I,rfl,q⟩
end L2
set_option maxHeartbeats 1000000
namespace L2
open PySem PySem.Spec PyProof.Rows
variable{α β γ:Type}
theorem nd_(l:List Str)(h:l.Nodup:=by decide +kernel):l.Nodup:=h
theorem lt64{k n:Nat}{A:a8}(r:Room k A)(h:n<=64:=by decide):A.units+n<cE:=by have:=r.units;omega
section
variable{X:Cx}{K:Fg}{tg:Expr}{a:Expr}{ta:TE}
theorem dJ7(hK:X.K=K:=by rfl):SlR X (rSlT K):=hK▸eX5
theorem dQl(hK:X.K=K:=by rfl):SlR X (rSlL K):=hK▸dXt
theorem dQm(hK:X.K=K:=by rfl):OpR X (eg .Add) (dXr K):=hK▸dXs
theorem bXy(hK:X.K=K:=by rfl):CallR X (.type "tuple") (λxs H Q=>∃p ys,xs=[.ref p]/\((SqL K H p ys/\∀l,H l=none->Q (.ref l) (upd H l (.tup ys)))\/(SqT K H p ys/\Q (.ref p) H))):=hK▸bQu
theorem cZ5(hK:X.K=K:=by rfl):CallR X (.type "list") (λxs H Q=>∃p ys,xs=[.ref p]/\(SqL K H p ys\/SqT K H p ys)/\∀l,H l=none->Q (.ref l) (upd H l (.lst ys))):=hK▸call_list_of
theorem cXb(hK:X.K=K:=by rfl)(hc:X.calm=true:=by rfl):CallR X (.builtin "all") (λxs H Q=>∃x bs,xs=[x]/\dL K dB H x bs/\Q (.bl (bs.all id)) H):=hK▸cX9 hc
theorem cXc(hK:X.K=K:=by rfl)(hc:X.calm=true:=by rfl):CallR X (.builtin "any") (λxs H Q=>∃x bs,xs=[x]/\dL K dB H x bs/\Q (.bl (bs.any id)) H):=hK▸cXa hc
theorem dJ8(hu:X.A.units<cE)(hK:X.K=K:=by rfl):OpR X (cA .Lt) (rLtS K):=hK▸eXi hu
theorem cXd(ha:PE X a ta)(he:∀whole,isTrue a X.env whole=(do let v <- whole;fH a.pos;fv [v] (truthy v)))(hK:X.K=K:=by rfl):PT X a (fun σ H Q=>ta σ H λx H'=>∃k,TruV K x H' k/\Q k H'):=by subst hK;exact dQ3 ha he
end
end L2
set_option maxHeartbeats 4000000
namespace KS
open PySem PySem.W PyProof.Rows
variable{lt:Nat->Nat->Bool}{n:Nat}
end KS
set_option maxHeartbeats 1000000
namespace ST
open PySem PySem.SetTable PySem.Spec PyProof.Rows
theorem bQ8:entryFor table "set.__iter__"=some cx.«frozenset.__iter__»:=entryFor_alias (id':="frozenset.__iter__") (by kernel_rfl) rfl (by decide +kernel) (by kernel_rfl)
theorem slot_setit_next:Slot "set_iterator" "__next__" "set_iterator.__next__" :=
 .of (owner:="set_iterator") (n:="__next__") (by rw[typeLookup_type,builtinLookup_eq_fast];kernel_rfl) (by decide +kernel) (by decide +kernel) (by decide +kernel)
  (by first|exact .inl (by decide +kernel)|exact .inr (by decide +kernel)) (by rw[isSubtype_type];kernel_rfl)
theorem aJ6:entryFor table "set_iterator.__next__"=some cx.«set_iterator.__next__»:=entryFor_of_tree (by kernel_rfl)
theorem aJx(a:ad):argsOk "set_iterator.__next__" ⟨[a],[]⟩:=by unfold argsOk;kernel_rfl
theorem dQn:typeLookup (.type "set") "__len__"=pure (some (.builtin "set.__len__")):=by rw[typeLookup_type,builtinLookup_eq_fast];kernel_rfl
section
variable{prog:aF}{w:aR}{A:a8}{E:ad->ah->Prop}{s:ah}
theorem dJ9{p:Addr}{es:Array (Int×ad)}{ep:Nat}{t:aV}{Q:Bool->ah->Prop}(ho:s.heap.get? p=some (setOb es ep t))(h:Q false s):aH (aE prog w) A (gL (.ref p)) Q E s:=by
 have d:s.TypeIs (.ref p) "set":=⟨_,ho,rfl⟩;unfold gL;refine aa (wpAny_specialOf d dQn ?_);dsimp only;have j:splitId "set.__len__"=some ("set", "__len__"):=by decide +kernel
 rw[j];dsimp only;refine aa (wpAny_isInstance (b:=true) d (by rw[isSubtype_type];kernel_rfl) ?_)
 rw[if_neg (show ¬ ((!true)=true) by decide)]
 refine gH (λi=>?_) (λi=>absurd (by decide +kernel) i)
 refine aa (fW d ?_);exact ae h
theorem bQk{α:Type}{l:List α}{i:Nat}(h:i<l.length):(l[i]::l.eraseIdx i).Perm l:=by
 have e:l=l.take i++l[i]::l.drop (i+1):=by
  rw[<- cJ h,bg]
 rw[List.eraseIdx_eq_take_drop_succ];refine fx.symm.trans ?_;rw[<- e]
theorem dJa{n:Nat}{Q:Nat->ah->Prop}(hn:n≠0)(h:∀i,i<n->Q i {s with drawn:=s.drawn.bump .order}):aH (aE prog w) A (choose .order n) Q E s:=fun Γ p hΓ=>by
 show Sem.wp _ _ (.choose .order n .pure) _ _ _ _;rw[Sem.wp_choose];exact⟨hn,h _ (Nat.mod_lt _ (Nat.pos_of_ne_zero hn))⟩
theorem eXj{α:Type}:∀(n:Nat) (xs:List α) {s:ah}{Q:List α->ah->Prop},xs.length=n->(∀ys d,ys.Perm xs->Q ys {s with drawn:=d})->aH (aE prog w) A (drawOrder n xs) Q E s
 |0,xs,s,Q,hl,h=>by
  have e:xs=[]:=fR.mp hl;subst e;unfold drawOrder;exact ae (h [] s.drawn (db _))
 |n+1,xs,s,Q,hl,h=>by
  cases xs with
  |nil=>cases hl
  |cons x r =>
   unfold drawOrder;refine aa ?_;have j:(x::r).length≠0:=by simp
   refine dJa j λi hi=>?_;have z:(x::r)[i]?=some (x::r)[i]:=ag hi;rw[z];dsimp only;refine aa (eXj n ((x::r).eraseIdx i) (s:={s with drawn:=s.drawn.bump .order}) (by rw[hJ hi];simp at hl ⊢;omega) λys d v=>?_)
   refine ae (h _ d ?_);refine(v.cons _).trans ?_;exact bQk hi
theorem bX1{α:Type}(next:Nat->Nat):∀(fuel k:Nat) (left:List α) (out:Array α),left.length=fuel->(jD next fuel k left out).toList.Perm (out.toList++left)
 |0,k,left,out,d=>by
  have e:left=[]:=fR.mp d;subst e;unfold jD;rw[a7]
 |fuel+1,k,left,out,d=>by
  unfold jD;have hi:next k%left.length<left.length:=Nat.mod_lt _ (by omega)
  rw[ag hi];dsimp only;refine(bX1 next fuel (k+1) _ _ (by rw[hJ hi];omega)).trans ?_
  rw[b7,aU];exact d4 _ (bQk hi)
theorem bQ9{α:Type}(next:Nat->Nat)(xs:Array α):(gQ next xs).toList.Perm xs.toList:=by
 have:=bX1 next xs.size 0 xs.toList #[] (by simp)
 simpa [gQ] using this
def itOb(first:ad)(i:Nat)(p:Addr)(n ep:Nat):Obj:={cls:=.type "set_iterator",dict:=none,data:=.fields #[first,.int i 0,.ref p,.int n 0,.int ep 0],slots:=#[]}
theorem dJb{I:Addr}{Q:Option ad->ah->Prop}{s:ah}(hh:A.in1.handled=none)(h:∀h',(∀b o,s.heap.get? b=some o->h'.get? b=some o)->Q none {s with heap:=h'}) :
  aH (aE prog w) A.in1 (newExc (.type "StopIteration") []>>=λe=>(raiseNew e:Sem Fin)) (λfin s'=>∃r,fin=.done (.ret r)/\aH (aE prog w) A (pure (some r)) Q E s') (λe s'=>aH (aE prog w) A (do if <- isInstance e (.type "StopIteration") then pure none else throw e) Q E s') s:=by
 refine aa ?_;simp only[newExc,newTuple];refine aa (bC ?_ (by size_fits))
 refine aa (m:=firstArgMember _ _) (wpAny_of_eq (a:=cB) (by first|rfl|(simp only[firstArgMember];rfl)) ?_)
 refine bC ?_ (by size_fits)
 simp only[raiseNew];refine aa (wpAny_handled ?_);rw[hh];refine aa (ae (wpAny_throw ?_));refine aa (wpAny_isInstance (T:="StopIteration") (b:=true) ⟨_,az _ rfl,rfl⟩ isSubtype_stop ?_);exact ae (h _ λb o e=>af _ (af _ e))
theorem aXq{I p:Addr}{es:Array (Int×ad)}{ep:Nat}{t:aV}{first:ad}{i:Nat}{Q:Option ad->ah->Prop}(hp:s.heap.get? p=some (setOb es ep t))(hf:t.fits es.size=true)(hI:s.heap.get? I=some (itOb first i p es.size ep))
  (h:aH (aE prog w) A.in1 (if let .int slot _:=first then do
    match <- setNext p slot.toNat (i:Int).toNat (ep:Int).toNat with
    |some (x,next)=>do
     jo (.ref I) 0 (e6 next)
     jo (.ref I) 1 (e6 ((i:Int)+1))
     ret x
    |none=>do jo (.ref I) 2 .none;raiseNew (<- newExc (.type "StopIteration") [])
   else do
    let some places <- seqItems? first|eQ "internal:set_iterator"
    match places[(i:Int).toNat]? with
    |some (.int place _)=>do
     let x <- setNextDrawn p place.toNat (ep:Int).toNat
     jo (.ref I) 1 (e6 ((i:Int)+1))
     ret x
    |some _=>eQ "internal:set_iterator"
    |none=>do jo (.ref I) 0 (e6 0);jo (.ref I) 2 .none;raiseNew (<- newExc (.type "StopIteration") []))
   (λfin s'=>∃r,fin=.done (.ret r)/\aH (aE prog w) A (pure (some r)) Q E s') (λe s'=>aH (aE prog w) A (do if <- isInstance e (.type "StopIteration") then pure none else throw e) Q E s') s) :
  aH (aE prog w) A (fi (.ref I)) Q E s:=by
 have d:s.TypeIs (.ref I) "set_iterator":=⟨_,hI,rfl⟩;unfold fi;refine aa (wpAny_attempt (fO (name:=Str.ofString "__next__") d slot_setit_next
  (dE slot_setit_next d aJ6 ?_ (aJx _))))
 unfold cx.«set_iterator.__next__» slotArgs;simp only[iM,fG,aM,↓reduceIte,bind_assoc,dM,bne_self_eq_false];refine aa (ae ?_)
 try dsimp only
 refine aa (wpAny_fieldsOf hI rfl ?_);dsimp only;refine aa (wpAny_setEntries_of hp rfl hf ?_);rw[if_neg (by simp)]
 exact h
structure Gives(prog:aF)(w:aR)(A:a8)(I:Addr)(fp:List Addr)(vals:List ad)(St:Nat->bj->Prop):Prop where
 mem:I∈fp
 frame:∀i h h',St i h->(∀b∈fp,∀o,h.get? b=some o->h'.get? b=some o)->St i h'
 item:∀(i:Nat) (s:ah) (v:ad) (Q:Option ad->ah->Prop) (E:ad->ah->Prop),vals[i]?=some v->St i s.heap ->
  (∀h',St (i+1) h'->(∀b o,b≠I->s.heap.get? b=some o->h'.get? b=some o)->Q (some v) {s with heap:=h'})->aH (aE prog w) A (fi (.ref I)) Q E s
 done:∀(s:ah) (Q:Option ad->ah->Prop) (E:ad->ah->Prop),St vals.length s.heap ->
  (∀h',(∀b o,b≠I->s.heap.get? b=some o->h'.get? b=some o)->Q none {s with heap:=h'})->aH (aE prog w) A (fi (.ref I)) Q E s
theorem cQ5{p:Addr}{es:Array (Int×ad)}{ep i:Nat}{t:aV}{Q:Option (ad×Nat)->ah->Prop}(hp:s.heap.get? p=some (setOb es ep t))(hf:t.fits es.size=true)(hw:w.params.followText "set-order"=true)
  (h:Q (((gQ (w.params.setOrder p ep) es)[i]?).map λe=>(e.2,0)) s):aH (aE prog w) A (setNext p (0:Int).toNat (i:Int).toNat (ep:Int).toNat) Q E s:=by
 unfold setNext;refine aa (dg hp rfl hf ?_);dsimp only;unfold i9;refine aa (aa (cU (ae ?_)));have d:(aE prog w).w.params.followText "set-order"=true:=hw;rw[d,if_pos rfl,if_neg (by simp)]
 unfold setWalk;refine aa (aa (dg hp rfl hf ?_));dsimp only;unfold i9;refine aa (aa (cU (ae ?_)));rw[d,if_pos rfl];refine aa (cU ?_);refine ae (ae ?_);rw[cy];exact h
theorem eXk{p I T:Addr}{es:Array (Int×ad)}{ep:Nat}{t:aV}{vals:List ad}{places:Array ad}(hh:A.in1.handled=none)(hTI:T≠I)(hpI:p≠I)(hl:places.size=vals.length)
  (hpl:∀(j:Nat) (pl:ad),places[j]?=some pl->∃q:Nat,pl=js (q:Int) 0/\∃e,es[q]?=some e/\vals[j]?=some e.2) :
  Gives prog w A I [I,p,T] vals (λi h=>h.get? p=some (setOb es ep t)/\t.fits es.size=true/\h.get? I=some (itOb (.ref T) i p es.size ep)/\∃o c,h.get? T=some o/\o.data=.seq places c) where
 mem:=by simp
 frame:=λi h h' st k=>by
  obtain⟨h1,h2,d,o,c,B,z⟩:=st;exact⟨k p (by simp) _ h1,h2,k I (by simp) _ d,o,c,k T (by simp) _ B,z⟩
 item:=λi s v Q E O st J=>by
  obtain⟨h1,h2,d,o,c,B,z⟩:=st;refine aXq h1 h2 d ?_;dsimp only;refine aa (eK B z ?_);dsimp only;have hi:i<places.size:=by rw[hl];exact(aA.mp O).1
  obtain⟨q,e1,e,e2,U⟩:=hpl i places[i] (by simp[hi])
  have N:places[(i:Int).toNat]?=some (js (q:Int) 0):=by rw[cy,<- e1];simp[hi]
  rw[N];dsimp only;have ev:e.2=v:=by rw[O] at U;exact(aS U).symm
  refine aa ?_;unfold setNextDrawn;refine aa (dg h1 rfl h2 ?_);dsimp only;rw[if_neg (by simp),cy,e2]
  dsimp only;refine ae ?_;refine aa (cF d (by show 1<5;decide) λh' g1 g2=>?_)
  rw[ev];refine ae ⟨v,rfl,ae (J h' ⟨?_,h2,?_,o,c,?_,z⟩ λb o' D e=>(g2.2 b D).trans e)⟩
  ·exact(g2.2 p hpI).trans h1
  ·exact g1
  ·exact(g2.2 T hTI).trans B
 done:=λs Q E st J=>by
  obtain⟨h1,h2,d,o,c,B,z⟩:=st;refine aXq h1 h2 d ?_;dsimp only;refine aa (eK B z ?_);dsimp only;have N:places[(vals.length:Int).toNat]?=none:=by rw[cy,<- hl];simp
  rw[N];dsimp only;refine aa (cF d (by show 0<5;decide) λh' g1 g2=>?_)
  refine aa (cF g1 (by show 2<5;decide) λY g3 Z=>?_)
  exact dJb (I:=I) hh λL k=>J L λb o' D e=>k b o' ((Z.2 b D).trans ((g2.2 b D).trans e))
theorem eXl{p I:Addr}{es:Array (Int×ad)}{ep:Nat}{t:aV}{vals:List ad}(hh:A.in1.handled=none)(hpI:p≠I)(hw:w.params.followText "set-order"=true)(hv:vals=(gQ (w.params.setOrder p ep) es).toList.map (·.2)) :
  Gives prog w A I [I,p] vals (λi h=>h.get? p=some (setOb es ep t)/\t.fits es.size=true/\h.get? I=some (itOb (.int 0 0) i p es.size ep)) where
 mem:=by simp
 frame:=λi h h' st k=>by
  obtain⟨h1,h2,d⟩:=st;exact⟨k p (by simp) _ h1,h2,k I (by simp) _ d⟩
 item:=λi s v Q E hv' st D=>by
  obtain⟨h1,h2,d⟩:=st;refine aXq h1 h2 d ?_;dsimp only;refine aa (cQ5 h1 h2 hw ?_);have L:((gQ (w.params.setOrder p ep) es)[i]?).map (λe=>(e.2,0))=some (v,0):=by
   rw[hv,aT,aN] at hv';cases q:(gQ (w.params.setOrder p ep) es)[i]? with
   |none=>rw[q] at hv';cases hv'
   |some e=>rw[q] at hv';cases hv';rfl
  rw[L];dsimp only;refine aa (cF d (by show 0<5;decide) λh' g1 g2=>?_)
  refine aa (cF g1 (by show 1<5;decide) λj g3 B=>?_)
  refine ae ⟨v,rfl,ae (D j ⟨?_,h2,g3⟩ λb o' z e=>(B.2 b z).trans ((g2.2 b z).trans e))⟩;exact(B.2 p hpI).trans ((g2.2 p hpI).trans h1)
 done:=λs Q E st D=>by
  obtain⟨h1,h2,d⟩:=st;refine aXq h1 h2 d ?_;dsimp only;refine aa (cQ5 h1 h2 hw ?_);have L:(gQ (w.params.setOrder p ep) es)[vals.length]?=none:=by
   rw[hv];simp
  rw[L];dsimp only[Option.map];refine aa (cF d (by show 2<5;decide) λj g3 B=>?_)
  exact dJb (I:=I) hh λJ k=>D J λb o' z e=>k b o' ((B.2 b z).trans e)
end
end ST
set_option maxHeartbeats 4000000
namespace ST
open PySem PySem.SetTable PySem.Spec PyProof.Rows
section
variable{prog:aF}{w:aR}{A:a8}{E:ad->ah->Prop}{s:ah}
theorem bX2{p:Addr}{es:Array (Int×ad)}{ep i sl:Nat}{t:aV}{Q:Option (ad×Nat)->ah->Prop}(hp:s.heap.get? p=some (setOb es ep t))(hf:t.fits es.size=true)(hw:w.params.followText "set-order"=false)(hled:t.led=true)(h1:es.size<=1)
  (h:Q (match es[below t.place sl]?,t.place[below t.place sl]? with|some (_,x),some j=>some (x,j+1)|_,_=>none) s):aH (aE prog w) A (setNext p (sl:Int).toNat (i:Int).toNat (ep:Int).toNat) Q E s:=by
 unfold setNext;refine aa (dg hp rfl hf ?_);dsimp only;unfold i9;refine aa (aa (cU (ae ?_)));have d:(aE prog w).w.params.followText "set-order"=false:=hw;rw[d,if_neg dZ];refine gH (λz=>?_) (λ_=>?_)
 ·have v:(!t.plain&&decide (es.size>1))=true:=z;simp only[bb,decide_eq_true_eq] at v;lia
 ·refine aa ?_;show aH _ _ (if (!t.led && !es.isEmpty)=true then eQ "set:maker-not-led" else pure ()) _ _ _
  rw[hled,if_neg (by simp)]
  refine ae ?_;refine ae ?_;rw[cy];exact h
theorem bX3(j sl:Nat):below #[j] sl=if j<sl then 1 else 0:=by
 unfold below;simp only[ar,d3];unfold below.go;simp only[Nat.lt_irrefl,if_true,Nat.zero_lt_one]
 split
 ·rename_i h;have h':j<sl:=by simpa using h
  rw[if_pos h'];rfl
 ·rename_i h;have h':¬ j<sl:=by simpa using h
  rw[if_neg h'];rfl
theorem cQ6{es:Array (Int×ad)}{t:aV}(hf:t.fits es.size=true):t.place.size=es.size:=by
 unfold jy at hf;simp only[bb,beq_iff_eq] at hf;exact hf.1
theorem eXm{p I:Addr}{es:Array (Int×ad)}{ep:Nat}{t:aV}{vals:List ad}(hh:A.in1.handled=none)(hpI:p≠I)(hw:w.params.followText "set-order"=false)(hled:t.led=true)(h1s:es.size<=1)(hv:vals=es.toList.map (·.2)) :
  Gives prog w A I [I,p] vals (λi h=>h.get? p=some (setOb es ep t)/\t.fits es.size=true/\∃sl:Nat,h.get? I=some (itOb (.int sl 0) i p es.size ep)/\(i=0->sl=0)/\(i=1->∀j,t.place=#[j]->sl=j+1)) where
 mem:=by simp
 frame:=λi h h' st k=>by
  obtain⟨h1,h2,sl,B,O⟩:=st;exact⟨k p (by simp) _ h1,h2,sl,k I (by simp) _ B,O⟩
 item:=λi s v Q E d st hQ=>by
  obtain⟨h1,h2,sl,B,O,h5⟩:=st;refine aXq h1 h2 B ?_;dsimp only;refine aa (bX2 h1 h2 hw hled h1s ?_);have hi:i<es.size:=by
   have:=(aA.mp d).1
   rw[hv] at this;simpa using this
  have i0:i=0:=by lia
  subst i0;have Y:=O rfl;subst Y;have Z:=cQ6 h2;obtain⟨j,L⟩:∃j,t.place=#[j]:=by
   have:t.place.size=1:=by lia
   exact⟨t.place[0],Array.ext (by simp[this]) λk hk1 hk2=>by
    have:k=0:=by lia
    subst this;simp⟩
  rw[L,bX3,if_neg (Nat.not_lt_zero _)];have ee:es[0]?=some es[0]:=by simp[hi]
  have e0:es[0].2=v:=by
   rw[hv,aT,aN,ee] at d;exact aS d
  have e1:es[0]?=some (es[0].1,v):=by rw[ee,<- e0]
  have e2:(#[j]:Array Nat)[0]?=some j:=rfl;rw[e1,e2];dsimp only;refine aa (cF B (by show 0<5;decide) λh' g1 g2=>?_)
  refine aa (cF g1 (by show 1<5;decide) λD g3 U=>?_)
  refine ae ⟨v,rfl,ae (hQ D ⟨?_,h2,j+1,g3,(λz=>nomatch z),λ_ j' J=>?_⟩ λb o' N e=>(U.2 b N).trans ((g2.2 b N).trans e))⟩
  ·exact(U.2 p hpI).trans ((g2.2 p hpI).trans h1)
  ·rw[L] at J
   have:=congrArg (λa:Array Nat=>a[0]?) J
   simp at this;rw[this]
 done:=λs Q E st hQ=>by
  obtain⟨h1,h2,sl,B,O,h5⟩:=st;refine aXq h1 h2 B ?_;dsimp only;refine aa (bX2 h1 h2 hw hled h1s ?_);have hlen:vals.length=es.size:=by rw[hv];simp
  have Z:=cQ6 h2;have nn:es[below t.place sl]?=none:=by
   by_cases c:es.size=0
   ·simp[c]
   ·have c1:es.size=1:=by lia
    obtain⟨j,L⟩:∃j,t.place=#[j]:=by
     have:t.place.size=1:=by lia
     exact⟨t.place[0],Array.ext (by simp[this]) λk hk1 hk2=>by
      have:k=0:=by lia
      subst this;simp⟩
    have:=h5 (by lia) j L
    rw[L,bX3,if_pos (by lia)]
    simp[c1]
  rw[nn];dsimp only;refine aa (cF B (by show 2<5;decide) λD g3 U=>?_)
  exact dJb (I:=I) hh λh3' k=>hQ h3' λb o' N e=>k b o' ((U.2 b N).trans e)
theorem fZ1{p:Addr}{es:Array (Int×ad)}{ep:Nat}{t:aV}{Q:ad->ah->Prop}(hh:A.in1.handled=none)(hp:s.heap.get? p=some (setOb es ep t))(hf:t.fits es.size=true)(hled:t.led=ledOf w)(hpl:t.plain=true->es.size<=1)(hn:es.size<=300)
  (h:∀I fp vals St h' d,vals.Perm (es.toList.map (·.2))->Gives prog w A I fp vals St->St 0 h'->s.heap.objs.size<=I->(∀b∈fp,b=p\/s.heap.objs.size<=b)->(∀b o,s.heap.get? b=some o->h'.get? b=some o)->Q (.ref I) {s with heap:=h',drawn:=d}) :
  aH (aE prog w) A (iW (.ref p)) Q E s:=by
 have hT:s.TypeIs (.ref p) "set":=⟨_,hp,rfl⟩;have Y:p<s.heap.objs.size:=aD hp;refine wpAny_pyIter_slot hT ji (dE ji hT bQ8 ?_ (PySem.F.args_set_iter_1 _));unfold cx.«frozenset.__iter__» cx.Frozenset.slot0 slotArgs;simp only[iM,fG,aM,↓reduceIte,bind_assoc,dM,bne_self_eq_false];unfold iw cx.Frozenset.sizeOf;refine aa (ae ?_)
 try dsimp only
 refine aa (ae ?_);refine aa (aa (wpAny_setEntries_of hp rfl hf (ae ?_)));unfold setDrawn i9;refine aa (aa (dg hp rfl hf ?_));dsimp only;refine aa (aa (cU (ae ?_)));refine ae ?_;have fin:∀(first:ad) (h1:bj) (d:Drawn) (Q':Fin->ah->Prop),h1.get? p=some (setOb es ep t) ->
   Q' (.done (.ret (.ref h1.objs.size))) {s with heap:=h1.push (itOb first 0 p es.size ep),drawn:=d} ->
   aH (aE prog w) A.in1 (do
    let e <- setEpoch p
    let v <- newFields "set_iterator" [first,e6 0,.ref p,e6 es.size,e6 e]
    ret v) Q' E {s with heap:=h1,drawn:=d}:=by
  intro first h1 d Q' ho hQ';refine aa (wpAny_setEpoch_of (s:={s with heap:=h1,drawn:=d}) ho rfl hf ?_)
  exact aa (bC (ae hQ'))
 refine gH (λhc=>?_) (λhc=>?_)
 ·refine aa (eXj es.size (a6 es.size) (by simp) λys d B=>?_)
  have yl:ys.length=es.size:=by have:=B.length_eq;simpa using this
  have yr:∀q∈ys,q<es.size:=λq hq=>aX.mp (B.mem_iff.mp hq);obtain⟨f1,f2⟩:=cQ0 (l:=ys) (f:=λq=>(es[q]?).map (·.2)) (λq hq=>by have:=yr q hq;simp[this])
  refine aa (bC ?_ (by show(ys.map λ(i:Nat)=>e6 i).toArray.size<=sizeLine;rw[ar,am,yl,bh];lia))
  generalize N:s.heap.push _=h1;have D:h1.objs.size=s.heap.objs.size+1:=by rw[<- N,c8]
  have old:∀b o,s.heap.get? b=some o->h1.get? b=some o:=λb o e=>by rw[<- N];exact af _ e
  have hTup:h1.get? s.heap.objs.size=some {cls:=.type "tuple",dict:=none,data:=.seq (ys.map λ(i:Nat)=>e6 i).toArray}:=by rw[<- N];exact az _ rfl
  refine fin (.ref s.heap.objs.size) h1 d _ (old p _ hp) ?_;have G:=eXk (prog:=prog) (w:=w) (A:=A) (p:=p) (I:=h1.objs.size) (T:=s.heap.objs.size) (es:=es) (ep:=ep) (t:=t) (vals:=ys.filterMap λq=>(es[q]?).map (·.2)) (places:=(ys.map λ(i:Nat)=>e6 i).toArray) hh (by rw[D];exact Nat.ne_of_lt (Nat.lt_succ_self _)) (by rw[D];exact Nat.ne_of_lt (Nat.lt_succ_of_lt Y)) (by simp[f1]) (λj pl hj=>by
   have hj':(ys.map λ(i:Nat)=>e6 i)[j]?=some pl:=by simpa using hj
   rw[aT] at hj';cases q:ys[j]? with
   |none=>rw[q] at hj';cases hj'
   |some z =>
    rw[q] at hj';have hz:=yr z (ao q);refine⟨z,(aS hj').symm,es[z],by simp[hz],?_⟩
    rw[f2 j,q];simp[hz])
  refine⟨_,rfl, "set_iterator",_,⟨_,az _ rfl,rfl⟩,slot_setit_next.lookup,h _ _ _ _ _ d ?_ G ⟨af _ (old p _ hp),hf,az _ rfl,_,_,af _ hTup,rfl⟩ (by rw[D];exact Nat.le_succ _) (λb Z=>?_) λb o e=>af _ (old b o e)⟩
  ·refine(B.filterMap _).trans ?_;have e:(a6 es.size).filterMap (λq=>(es[q]?).map (·.2))=es.toList.map (·.2):=by
    rw[<- cQ2 es,List.map_filterMap]
   rw[e]
  ·simp only[aK,fw,or_false] at Z;rcases Z with e|e|e
   ·right;rw[e,D];exact Nat.le_succ _
   ·exact .inl e
   ·right;rw[e];exact Nat.le_refl _
 ·refine aa (ae ?_);refine fin (e6 0) s.heap s.drawn _ hp ?_;have O:p≠s.heap.objs.size:=Nat.ne_of_lt Y;have small:∀b∈[s.heap.objs.size,p],b=p\/s.heap.objs.size<=b:=λb Z=>by
   simp only[aK,fw,or_false] at Z;rcases Z with e|e
   ·right;rw[e];exact Nat.le_refl _
   ·exact .inl e
  by_cases hw:w.params.followText "set-order"=true
  ·have G:=eXl (prog:=prog) (w:=w) (A:=A) (p:=p) (I:=s.heap.objs.size) (es:=es) (ep:=ep) (t:=t) hh O hw rfl;exact⟨_,rfl, "set_iterator",_,⟨_,az _ rfl,rfl⟩,slot_setit_next.lookup,h _ _ _ _ _ s.drawn ((bQ9 _ _).map _) G ⟨af _ hp,hf,az _ rfl⟩ (Nat.le_refl _) small λb o e=>af _ e⟩
  ·have L:w.params.followText "set-order"=false:=eA.mpr hw;have h1:es.size<=1:=by
    have J:¬ ((!(w.params.followText "set-order")&&(!t.plain&&decide (es.size>1)))=true):=hc;rw[L] at J
    by_cases U:t.plain=true
    ·exact hpl U
    ·have:t.plain=false:=eA.mpr U
     rw[this] at J;simp at J;exact J
   have hl':t.led=true:=by rw[hled];show(!(w.params.followText "set-order"))=true;rw[L];rfl
   have G:=eXm (prog:=prog) (w:=w) (A:=A) (p:=p) (I:=s.heap.objs.size) (es:=es) (ep:=ep) (t:=t) hh O L hl' h1 rfl;exact⟨_,rfl, "set_iterator",_,⟨_,az _ rfl,rfl⟩,slot_setit_next.lookup,h _ _ _ _ _ s.drawn (db _) G ⟨af _ hp,hf,0,az _ rfl,λ_=>rfl,(λz=>nomatch z)⟩ (Nat.le_refl _) small λb o e=>af _ e⟩
theorem dQo{I S:Addr}{fp:List Addr}{vals:List ad}{St:Nat->bj->Prop}{R:Result->ah->Prop}(G:Gives prog w A.in1 I fp vals St)(hn:vals.length<=300)(hSf:S∉fp)(res:ad) :
  ∀(k i:Nat) (s:ah) (c:Nat),vals.length-i=k->i<=vals.length->St i s.heap->s.heap.get? S=some {cls:=.type "list",dict:=none,data:=.seq (vals.take i).toArray c,slots:=#[]} ->
  (∀h' c',(∀b o,b≠S->b≠I->s.heap.get? b=some o->h'.get? b=some o)->h'.get? S=some {cls:=.type "list",dict:=none,data:=.seq vals.toArray c',slots:=#[]}->R (.ok (.ret res)) {s with heap:=h'}) ->
  eF (aE prog w) A (.builtin "list.extend.loop" ⟨[.ref S,.ref I,res],[]⟩) R s:=by
 have J:S≠I:=λe=>hSf (e▸G.mem);intro k
 induction k with
 |zero =>
  intro i s c hk hi d O hR;have Y:i=vals.length:=by lia
  subst Y;refine ci ii ?_;rw[bJ d7 _];show aH _ A.in1 (fi (.ref I)>>=_) _ _ s;refine aa (G.done s _ _ d λh' z=>?_);rw[br (Nat.le_refl _)] at O;exact ae (hR h' c (λb o _ Z e=>z b o Z e) (z S _ J O))
 |succ k ih =>
  intro i s c hk hi d O hR;have v:i<vals.length:=by lia
  have hv:vals[i]?=some vals[i]:=ag v;refine ci ii ?_;rw[bJ d7 _];show aH _ A.in1 (fi (.ref I)>>=_) _ _ s;refine aa (G.item i s _ _ _ hv d λh1 U k1=>?_);have N:=k1 S _ J O;have szl:=bh;have j:(vals.take i).toArray.size=i:=by rw[ar,aQ];lia
  show aH _ A.in1 (updateSeq S (·.push vals[i])>>=_) _ _ _;refine aa ?_;refine eY (s:={s with heap:=h1}) N rfl (ae ⟨cZ d7 _,?_⟩) (by rw[j];lia) (by show((vals.take i).toArray.push vals[i]).size<=sizeLine+1;rw[dy,j];lia)
  have hS2:=cw (bI (·.push vals[i])) N rfl;have et:(vals.take i).toArray.push vals[i]=(vals.take (i+1)).toArray:=by
   rw[cL,hv];simp
  obtain⟨c1,L⟩:∃c1,(h1.update S (bI (·.push vals[i]))).get? S=some {cls:=.type "list",dict:=none,data:=.seq (vals.take (i+1)).toArray c1,slots:=#[]}:=⟨_,by rw[<- et];exact hS2⟩
  refine ih (i+1) {s with heap:=h1.update S (bI (·.push vals[i]))} c1 (by lia) v (G.frame _ _ _ U λb Z o e=>(bo _ _ (λh:S=b=>hSf (by rw[h];exact Z))).trans e) L λh' c' a1 a2=>?_
  ·exact hR h' c' (λb o D B e=>a1 b o D B ((bo _ _ (cY D)).trans (k1 b o B e))) a2
theorem collectT{p:Addr}{es:Array (Int×ad)}{ep:Nat}{t:aV}{Q:List ad->ah->Prop}(hh:A.handled=none)(hp:s.heap.get? p=some (setOb es ep t))(hf:t.fits es.size=true)(hled:t.led=ledOf w)(hpl:t.plain=true->es.size<=1)(hn:es.size<=300)
  (h:∀vals h' d,vals.Perm (es.toList.map (·.2))->(∀b o,s.heap.get? b=some o->h'.get? b=some o)->Q vals {s with heap:=h',drawn:=d}):aH (aE prog w) A (collect (.ref p)) Q E s:=by
 have J:p<s.heap.objs.size:=aD hp;have hT:∀s':ah,s'.heap.get? p=some (setOb es ep t)->s'.TypeIs (.ref p) "set":=λs' e=>⟨_,e,rfl⟩;unfold collect;refine aa (wpAny_runValue (ci PySem.F.entry_proto_collect ?_));rw[bJ PySem.F.plain_proto_collect _];show aH _ A.in1 (newList []>>=λl=>again (.builtin "list.__iadd__" ⟨[l,.ref p],[]⟩)) _ _ s;refine aa (bC ?_);refine ae ⟨cZ iN _,ci PySem.F.entry_list_iadd ?_⟩;rw[bJ iN _];show aH _ A.in1 (gM (.ref s.heap.objs.size) (.ref p) (.ref s.heap.objs.size)) _ _ _;generalize B:s.heap.push _=h1;have old:∀b o,s.heap.get? b=some o->h1.get? b=some o:=λb o e=>by rw[<- B];exact af _ e
 have D:h1.objs.size=s.heap.objs.size+1:=by rw[<- B,c8]
 have hS1:h1.get? s.heap.objs.size=some {cls:=.type "list",dict:=none,data:=.seq #[] 0,slots:=#[]}:=by rw[<- B];exact az _ rfl
 have v:=old p _ hp;unfold gM;refine aa (fW (hT {s with heap:=h1} v) ?_)
 have e1:ix (.ref s.heap.objs.size) (.ref p)=false:=by simp[ix,Nat.ne_of_gt J]
 rw[if_neg (by rw[e1];decide)]
 refine aa (fZ1 (s:={s with heap:=h1}) hh v hf hled hpl hn λI fp vals St h2 d j G U hI Z Y=>?_)
 have hvl:vals.length=es.size:=by have:=j.length_eq;simpa using this
 have hI':h1.objs.size<=I:=hI;have hSI:s.heap.objs.size≠I:=by lia
 refine aa (bu (dJ9 (Y p _ v) ?_));have L:s.heap.objs.size∉fp:=λz=>by
  have q:=Z _ z;have q':s.heap.objs.size=p\/h1.objs.size<=s.heap.objs.size:=q;rcases q' with e|e
  ·exact absurd e (Nat.ne_of_gt J)
  ·rw[D] at e;exact absurd e (Nat.not_succ_le_self _)
 refine gH (λ_=>?_) (λhc=>absurd (by decide +kernel) hc)
 refine aa (cS ?_);refine aa ?_;have O:=Y _ _ hS1;show aH _ _ (updateSeq s.heap.objs.size (·.push .none)>>=λ_=>updateSeq s.heap.objs.size (·.pop)) _ _ _;refine aa (eY O rfl ?_);have N:=cw (bI (·.push cB)) O rfl;refine eY (hz:=by seq_fits) N rfl ?_
 have hS4:=cw (bI (·.pop)) N rfl;refine ae ⟨cZ d7 _,?_⟩;refine dQo G (by lia) L _ (vals.length-0) 0 _ _ rfl (Nat.zero_le _) (G.frame _ _ _ U λb hb o e=>?_) hS4 λh' c' a1 a2=>?_
 ·have i:b≠s.heap.objs.size:=λz=>L (z▸hb);exact(bo _ _ (cY i)).trans ((bo _ _ (cY i)).trans e)
 ·show aH _ A (load s.heap.objs.size>>=_) _ _ _;refine aa (wpAny_load a2 ?_)
  have:=h vals h' d j λb o e=>?_
  ·exact ae this
  ·have i:b≠s.heap.objs.size:=Nat.ne_of_lt (aD e);have hbI:b≠I:=Nat.ne_of_lt (Nat.lt_of_lt_of_le (aD e) (Nat.le_trans (by rw[D];exact Nat.le_succ _) hI'))
   exact a1 b o i hbI ((bo _ _ (cY i)).trans ((bo _ _ (cY i)).trans (Y b o (old b o e))))
end
end ST
namespace KS
open PySem PySem.W PyProof.Rows
def TS(h:bj)(v:ad)(d:List Str):Prop:=∃b items,v=.ref b/\iB h b items/\HT.SAre items.toList d
section
variable{prog:aF}{w:aR}{A:a8}{E:ad->ah->Prop}{s:ah}
theorem dZr{Q:Bool->ah->Prop}:∀{us vs:List ad}{d e:List Str}(i:Nat) {fin:Bool},HT.SAre us d->HT.SAre vs e->fin=decide (d.length<e.length)->Q (HT.lexS d e) s->KatLex prog w A true fin Q (us.zip vs) i s
 |_,_,_,_,i,fin,.nil,.nil,hf,h=>by subst hf;exact kat_nil h
 |_,_,_,_,i,fin,.nil,.cons _ _,hf,h=>by
  subst hf;rw[List.zip_nil_left];rw[HT.lexS_nil_cons] at h;exact kat_nil (by simpa using h)
 |_,_,_,_,i,fin,.cons _ _,.nil,hf,h=>by
  subst hf;rw[List.zip_nil_right];rw[HT.lexS_cons_nil] at h;exact kat_nil (by simpa using h)
 |_,_,x::d,y::e,i,fin,.cons ⟨t,v⟩ p,.cons ⟨u,j⟩ q,hf,h=>by
  subst v j;rw[eV];rw[HT.lexS_cons] at h;refine kat_cons (g9 x t y u _ _ _ _ ?_);refine kat_go (λz=>kat_yes (dZr (i+1) p q (by subst hf;simp) (by rw[if_pos (by simpa using z)] at h;exact h))) λz=>kat_no ?_
  rw[if_neg (by simpa using z)] at h
  cases i with
  |zero=>exact oneLt_str h
  |succ i =>
   show aH _ _ (oneLt' false _ _) _ _ _;exact kat_one _ _ (jw (show PySem.W.BoolBack Q (.bool (HT.ltS x y)) s from h))
theorem cXe{x y:ad}{d e:List Str}{Q:Bool->ah->Prop}(hx:TS s.heap x d)(hy:TS s.heap y e)(h:Q (HT.lexS d e) s):aH (aE prog w) A (keyLt' (tuples' true) x y) Q E s:=by
 obtain⟨b,items,rfl,⟨o,B,_,n,hd⟩,p⟩:=hx;obtain⟨L,i,rfl,⟨D,j,_,J,hd2⟩,p2⟩:=hy;refine kat_lt B hd j hd2 (dZr 0 p p2 ?_ h);have z:=p.len;have v:=p2.len;simp only[aP] at z v;rw[z,v]
theorem cZ6{x y:ad}{d e:List Str}{Q:Bool->ah->Prop}(hu:A.units<cE)(hx:TS s.heap x d)(hy:TS s.heap y e)(h:Q (HT.lexS d e) s):aH (aE prog w) A (keyLt' general' x y) Q E s:=by
 obtain⟨b,items,rfl,t1,p⟩:=hx;obtain⟨v,i,rfl,j,p2⟩:=hy;show aH _ _ (oneLt' false _ _) _ _ _;exact kat_one _ _ (HT.lt_tupStrs t1 j p p2 hu (show PySem.W.BoolBack Q (.bool (HT.lexS d e)) s from h))
theorem eXn{x y:ad}{d e:List Str}{Q:Bool->ah->Prop}(hu:A.units<cE)(hx:TS s.heap x d)(hy:TS s.heap y e)(h:Q (HT.lexS d e) s):aH (aE prog w) A (keyLt' oneType' x y) Q E s:=by
 obtain⟨b,items,rfl,t1,p⟩:=hx;obtain⟨U,i,rfl,N,p2⟩:=hy;rw[keyLt'_oneType,oneLt'_eq];simp only[if_true];obtain⟨⟨cls,dd,data,sl⟩,B,J,n,hd⟩:=id t1;obtain⟨⟨L,D,data2,v⟩,z,j,O,hd2⟩:=id N;simp only at J hd j hd2;subst J hd j hd2;refine aa (wpAny_cRoomFor hu ?_);refine aa (wpAny_callSpecialIfBound?_slot ⟨_,B,rfl⟩ gi (call_meets gi ⟨_,B,rfl⟩ i8 (iL _ _) (HT.tuple_lt_strs b U items i n O dd D sl v d e p p2) ⟨B,z,?_⟩));exact dI h
theorem bX4:∀{vs:List ad}{ds:List (List Str)}{Q:List (Option ad)->ah->Prop},bi (TS s.heap) vs ds->(∀fs:List (Option ad),bi (λf d=>match f with|none=>d=[]|some v=>∃x r t,d=x::r/\v=.str x t) fs ds->Q fs s)->aH (aE prog w) A (vs.mapM firstOfTuple') Q E s
 |_,_,_,.nil,h=>by rw[List.mapM_nil];exact ae (h [] .nil)
 |_,_,Q,.cons p q,h=>by
  obtain⟨b,items,rfl,⟨o,i,D,n,hd⟩,sa⟩:=p;rw[List.mapM_cons];refine aa ?_;rw[kas_first_eq];refine aa (Looks.here (show Looks (aE prog w) s.heap (typeOf (.ref b)) o.cls from(Looks.ld i).andThen .now) ?_)
  rw[D,if_neg (by first|decide|simp)]
  refine aa (listItems_at i hd (ae ?_));refine aa (bX4 q λfs j=>ae (h _ (.cons ?_ j)));obtain⟨items⟩:=items;have sa:HT.SAre items _:=sa;have e:(Array.mk items)[0]?=items[0]?:=by simp
  rw[e];cases sa with
  |nil=>rfl
  |cons z _=>obtain⟨t,B⟩:=z;exact⟨_,_,t,rfl,B⟩
theorem dJc{vs:List ad}{ds:List (List Str)}{Q:eN->ah->Prop}(p:bi (TS s.heap) vs ds)(hne:vs≠[])(h:∀κ,κ=tuples' true\/κ=general'\/κ=oneType'->Q κ s):aH (aE prog w) A (keyKind' vs.toArray) Q E s:=by
 rw[kat_kind_eq,io,map_eq_pure_bind];refine aa (aa (bX4 p λfs L=>ae ?_))
 by_cases i:(fs.toArray.all λx=>x.isSome)=true
 ·rw[if_pos i];refine aa (cS ?_);rw[oneTypeOnly'_eq];have J:∀v∈(fs.toArray.filterMap id).toList,∃x t,v=.str x t:=λv J=>by
   simp only[Array.toList_filterMap,eT,id] at J;obtain⟨f,hf,rfl⟩:=J
   have:∀{fs:List (Option ad)}{ds:List (List Str)},bi (λf d=>match f with|none=>d=[]|some v=>∃x r t,d=x::r/\v=.str x t) fs ds->some v∈fs->∃x t,v=.str x t:=by
    intro fs ds L
    induction L with
    |nil=>intro hm;cases hm
    |cons z _ N =>
     intro hm;rcases aK.mp hm with e|hm
     ·subst e;obtain⟨x,r,t,_,e⟩:=z;exact⟨x,t,e⟩
     ·exact N hm
   exact this L hf
  have j:(fs.toArray.filterMap id).toList≠[]:=by
   have U:fs.length=vs.length:=by have:=cq p;have:=cq L;lia
   cases fs with
   |nil=>exact absurd (bX (by simpa using U.symm)) hne
   |cons f fs =>
    simp only[List.all_toArray,List.all_cons,bb] at i;obtain⟨v,rfl⟩:=cr.mp i.1;simp
  generalize (fs.toArray.filterMap id)=gs at J j;obtain⟨gs⟩:=gs;rw[io,map_eq_pure_bind];refine aa (aa (aa (kas_mapM (r:=dD "str") gs (λv B Q' O=>?_) (ae ?_))))
  ·obtain⟨x,t,rfl⟩:=J v B;exact ae O
  ·obtain⟨g,gr,rfl⟩:∃g gr,gs=g::gr:=by
    cases gs with
    |nil=>exact absurd rfl j
    |cons g gr=>exact⟨g,gr,rfl⟩
   have h0:(hU (λ_=>dD "str") (g::gr)).toArray[0]?=some (dD "str"):=by simp
   have D:((hU (λ_=>dD "str") (g::gr)).toArray.all λx=>x==dD "str")=true:=by
    simp only[List.all_toArray,ja,bY];intro _ _;simp
   rw[h0];simp only[D,if_true];exact ae (ae (h _ (.inl rfl)))
 ·rw[if_neg i]
  by_cases h1:((fs.toArray[0]?.bind id).isSome)=true
  ·rw[if_pos h1];exact ae (h _ (.inr (.inl rfl)))
  ·rw[if_neg h1,oneTypeOnly'_eq,io,map_eq_pure_bind];refine aa (aa (aa (kas_mapM (r:=dD "tuple") vs (λv B Q' O=>?_) (ae ?_))))
   ·have:∀{vs:List ad}{ds:List (List Str)},bi (TS s.heap) vs ds->v∈vs->∃d,TS s.heap v d:=by
     intro vs ds pp
     induction pp with
     |nil=>intro hm;cases hm
     |cons z _ N =>
      intro hm;rcases aK.mp hm with e|hm
      ·subst e;exact⟨_,z⟩
      ·exact N hm
    obtain⟨d,b,items,rfl,⟨o,Y,Z,_⟩,_⟩:=this p B;refine Looks.here (show Looks (aE prog w) s.heap (typeOf (.ref b)) (.type "tuple") from ?_) O
    rw[<- Z];exact(Looks.ld Y).andThen .now
   ·generalize (hU (λ_=>dD "tuple") vs).toArray=ts;cases ts[0]? with
    |none=>exact ae (ae (by first|exact h _ (.inr (.inl rfl))|exact h _ (.inr (.inr rfl))))
    |some t =>
     by_cases h2:(ts.all (· ==t))=true
     ·simp only[h2,if_true];exact ae (ae (h _ (.inr (.inr rfl))))
     ·simp only[h2,if_false];exact ae (ae (h _ (.inr (.inl rfl))))
end
end KS
namespace SF
open PySem PyProof.Rows
abbrev SM:=StateT cG Sem
def gal:Bool->aJ->Array aJ->Nat->Nat->Nat->SM (Option Nat):=sortPriv% PySem.Builtin.gallop
def mLo:Array aJ->Array aJ->SM (Array aJ):=sortPriv% PySem.Builtin.mergeLo
def mHi:Array aJ->Array aJ->SM (Array aJ):=sortPriv% PySem.Builtin.mergeHi
abbrev setG(st:cG)(g:Nat):cG:=hX (kindOf st) (aO st) (bH st) g (fo st)
def bey(lf:Bool)(key:aJ)(arr:Array aJ)(b0 i:Nat):SM (Option Bool):=do
 let x <- d0 arr (b0+i)
 if lf then lt' x key else return (<- lt' key x).map (!·)
theorem eXo(lf:Bool)(key:aJ)(arr:Array aJ)(b0 n at0:Nat):gal lf key arr b0 n at0=(do
 let mut lastofs:=0
 let mut ofs:=1
 let mut lo:=0
 let mut hi:=0
 let some rt <- bey lf key arr b0 at0|return none
 if rt then
  let mx:=n-at0
  for _ in [0:n] do
   if ofs>=mx then break
   let some m1 <- bey lf key arr b0 (at0+ofs)|return none
   if !m1 then break
   lastofs:=ofs
   ofs:=2*ofs+1
  lo:=at0+lastofs+1
  hi:=at0+min ofs mx
 else
  let mx:=at0+1
  for _ in [0:n] do
   if ofs>=mx then break
   let some f1 <- bey lf key arr b0 (at0-ofs)|return none
   if f1 then break
   lastofs:=ofs
   ofs:=2*ofs+1
  lo:=at0+1-min ofs mx
  hi:=at0-lastofs
 for _ in [0:n] do
  if lo>=hi then break
  let m:=lo+(hi-lo)/2
  let some m2 <- bey lf key arr b0 m|return none
  if m2 then lo:=m+1 else hi:=m
 return some hi):=rfl
theorem eXp(a b:Array aJ):mLo a b=(do
 rule "list.sort.merge-lo"
 let total:=a.size+b.size
 let fin (o:Array aJ) (ia ib:Nat):=o++a.extract ia a.size++b.extract ib b.size
 let lst (o:Array aJ) (ia ib:Nat):=o++b.extract ib b.size++a.extract ia a.size
 let mut out:Array aJ:=#[<- d0 b 0]
 let mut ia:=0
 let mut ib:=1
 if ib==b.size then return fin out ia ib
 if ia+1==a.size then return lst out ia ib
 let mut minGallop:=gallopOf (<- get)
 for _ in [0:total] do
  let mut acount:=0
  let mut bcount:=0
  for _ in [0:total] do
   let some bw <- lt' (<- d0 b ib) (<- d0 a ia)|return fin out ia ib
   if bw then
    out:=out.push (<- d0 b ib)
    ib:=ib+1
    bcount:=bcount+1
    acount:=0
    if ib==b.size then return fin out ia ib
    if bcount>=minGallop then break
   else
    out:=out.push (<- d0 a ia)
    ia:=ia+1
    acount:=acount+1
    bcount:=0
    if ia+1==a.size then return lst out ia ib
    if acount>=minGallop then break
  rule "list.sort.gallop"
  minGallop:=minGallop+1
  for _ in [0:total] do
   if minGallop>1 then minGallop:=minGallop-1
   modify (λs=>setG s minGallop)
   let some k <- gal false (<- d0 b ib) a ia (a.size-ia) 0|return fin out ia ib
   acount:=k
   if k>0 then
    out:=out++a.extract ia (ia+k)
    ia:=ia+k
    if ia+1==a.size then return lst out ia ib
    if ia==a.size then return fin out ia ib
   out:=out.push (<- d0 b ib)
   ib:=ib+1
   if ib==b.size then return fin out ia ib
   let some k <- gal true (<- d0 a ia) b ib (b.size-ib) 0|return fin out ia ib
   bcount:=k
   if k>0 then
    out:=out++b.extract ib (ib+k)
    ib:=ib+k
    if ib==b.size then return fin out ia ib
   out:=out.push (<- d0 a ia)
   ia:=ia+1
   if ia+1==a.size then return lst out ia ib
   if acount<7&&bcount<7 then break
  minGallop:=minGallop+1
  modify (λs=>setG s minGallop)
 eQ "internal:list.sort.merge-bound"):=rfl
structure Orc(prog:aF)(w:aR)(A:a8)(s:ah)(κ:eN)(P:aJ->Prop)(lt:aJ->aJ->Bool):Prop where
 ask:∀x y (Q:Bool->ah->Prop),P x->P y->Q (lt x y) s->aH (aE prog w) A (keyLt' κ x.1 y.1) Q (λ_ _=>False) s
 as:∀x y,P x->P y->lt x y=true->lt y x=false
 tr:∀x y z,P x->P y->P z->lt y x=false->lt z y=false->lt z x=false
section
variable{prog:aF}{w:aR}{A:a8}{E:ad->ah->Prop}{s:ah}{κ:eN}{P:aJ->Prop}{lt:aJ->aJ->Bool}
theorem cXf(o:Orc prog w A s κ P lt){st:cG}{x y:aJ}{Q:Option Bool->cG->Prop}(hk:kindOf st=κ)(hx:P x)(hy:P y)(h:Q (some (lt x y)) st):wpS (aE prog w) A E s (lt' x y) Q st:=by
 rw[lt'_eq];refine ax (gN ?_);rw[hk];refine ax (hZ (wpAny_attempt (cK (o.ask x y (λb s'=>s'=s/\b=lt x y) hx hy ⟨rfl,rfl⟩) (λb s' d=>?_) λ_ _ i=>i.elim)));obtain⟨rfl,rfl⟩:=d;exact⟨rfl,aB h⟩
theorem aZ6{st:cG}{arr:Array aJ}{i:Nat}{x:aJ}{Q:aJ->cG->Prop}(hx:arr[i]?=some x)(h:Q x st):wpS (aE prog w) A E s (d0 arr i) Q st:=by
 rw[elem'_eq,hx];exact aB h
def bv(lt:aJ->aJ->Bool)(lf:Bool)(key x:aJ):Bool:=if lf then lt x key else !lt key x
theorem bX5(o:Orc prog w A s κ P lt){st:cG}{lf:Bool}{key x:aJ}{arr:Array aJ}{b0 i:Nat}{Q:Option Bool->cG->Prop}(hk:kindOf st=κ)(hkey:P key)(hx:arr[b0+i]?=some x)(px:P x)(h:Q (some (bv lt lf key x)) st):wpS (aE prog w) A E s (bey lf key arr b0 i) Q st:=by
 unfold bey;refine ax (aZ6 hx ?_);cases lf with
 |true=>exact cXf o hk px hkey h
 |false=>exact ax (cXf o hk hkey px (aB h))
theorem dZs{st:cG}{b:Nat->Bool}{n lo hi:Nat}{body:Nat->Option (Option Nat)×Nat×Nat->SM (ForInStep (Option (Option Nat)×Nat×Nat))}{Q:Option (Option Nat)×Nat×Nat->cG->Prop}
  (hb:∀x lo hi (Q':ForInStep (Option (Option Nat)×Nat×Nat)->cG->Prop),hi<=n->(hi<=lo->Q' (.done (none,lo,hi)) st)->(lo<hi->b (lo+(hi-lo)/2)=true->Q' (.yield (none,lo+(hi-lo)/2+1,hi)) st)->(lo<hi->b (lo+(hi-lo)/2)=false->Q' (.yield (none,lo,lo+(hi-lo)/2)) st)->wpS (aE prog w) A E s (body x (none,lo,hi)) Q' st)
  (mono:∀i j,i<=j->j<n->b j=true->b i=true) (h1:lo<=hi) (h2:hi<=n) (h3:∀i,i<lo->b i=true) (h4:∀i,hi<=i->i<n->b i=false)
  (h:∀k,k<=n->(∀i,i<k->b i=true)->(∀i,k<=i->i<n->b i=false)->Q (none,k,k) st):wpS (aE prog w) A E s (forIn [0:n] ((none,lo,hi):Option (Option Nat)×Nat×Nat) body) Q st:=by
 refine cW (bK (I:=λx c d=>d=st/\∃ lo hi,c=(none,lo,hi)/\lo<=hi/\hi<=n/\hi + x<=lo + n/\(∀ i,i < lo->b i=true)/\∀ i,hi<=i->i < n->b i=false)
  (Q:=λc d=>d=st/\∃lo hi,c=(none,lo,hi)/\hi<=lo/\lo<=hi/\hi<=n/\(∀i,i<lo->b i=true)/\∀i,hi<=i->i<n->b i=false) ?_ ?_ ⟨rfl,lo,hi,rfl,h1,h2,by omega,h3,h4⟩) ?_
 ·rintro x c d _ L ⟨rfl,lo,hi,rfl,a1,a2,J,z,v⟩;refine hb x lo hi _ a2 (λB=>⟨rfl,lo,hi,rfl,B,a1,a2,z,v⟩) (λB e=>⟨rfl,_,_,rfl,by omega,a2,by omega,λi D=>mono i _ (by omega) (by omega) e,v⟩) λB e=>⟨rfl,_,_,rfl,by omega,by omega,by omega,z,λi h1 h2=>?_⟩
  cases e2:b i with
  |false=>rfl
  |true=>rw[mono _ i h1 h2 e2] at e;cases e
 ·rintro c d ⟨rfl,lo,hi,rfl,a1,a2,J,z,v⟩;exact⟨rfl,lo,hi,rfl,by omega,a1,a2,z,v⟩
 ·rintro c d ⟨rfl,lo,hi,rfl,a0,a1,a2,z,v⟩
  have:lo=hi:=by omega
  subst this;exact h lo a2 z v
theorem bQl(o:Orc prog w A s κ P lt){st:cG}{lf:Bool}{key:aJ}{arr:Array aJ}{b0 n at0:Nat}{f:Nat->aJ}{Q:Option Nat->cG->Prop}(hk:kindOf st=κ)(hkey:P key)
  (hf:∀i,i<n->arr[b0+i]?=some (f i)/\P (f i)) (mono:∀i j,i<=j->j<n->bv lt lf key (f j)=true->bv lt lf key (f i)=true) (h0:at0<n)
  (h:∀k,k<=n->(∀i,i<k->bv lt lf key (f i)=true)->(∀i,k<=i->i<n->bv lt lf key (f i)=false)->Q (some k) st):wpS (aE prog w) A E s (gal lf key arr b0 n at0) Q st:=by
 rw[eXo];dsimp only;have up:∀i j,i<=j->j<n->bv lt lf key (f i)=false->bv lt lf key (f j)=false:=λi j h1 h2 h3=>by
  cases e:bv lt lf key (f j) with
  |false=>rfl
  |true=>rw[mono i j h1 h2 e] at h3;cases h3
 refine ax (bX5 o hk hkey (hf at0 h0).1 (hf at0 h0).2 ?_);dsimp only;cases e0:bv lt lf key (f at0) with
 |true =>
  rw[if_pos rfl];refine ax (cW (bK (I:=λx c v=>v=st/\∃ l d,c=(none,l,d)/\l < d/\x + 1<=d/\at0 + l < n/\bv lt lf key (f (at0 + l))=true)
   (Q:=λc v=>v=st/\∃l d,c=(none,l,d)/\l<d/\at0+l<n/\bv lt lf key (f (at0+l))=true/\(n-at0<=d\/(at0+d<n/\bv lt lf key (f (at0+d))=false))) ?_ ?_ ⟨rfl,0,1,rfl,by decide,by decide,h0,e0⟩) ?_)
  ·rintro x c v _ hx ⟨rfl,l,d,rfl,a1,a2,J,D⟩;dsimp only
   by_cases B:d>=n-at0
   ·rw[if_pos B];exact aB ⟨rfl,l,d,rfl,a1,J,D,.inl B⟩
   ·rw[if_neg B];have hm:at0+d<n:=by omega
    refine ax (bX5 o hk hkey (hf _ hm).1 (hf _ hm).2 ?_);dsimp only;cases e:bv lt lf key (f (at0+d)) with
    |true=>rw[if_neg (by simp)];exact aB ⟨rfl,d,_,rfl,by omega,by omega,hm,e⟩
    |false=>rw[if_pos (by rfl)];exact aB ⟨rfl,l,d,rfl,a1,J,D,.inr ⟨hm,e⟩⟩
  ·rintro c v ⟨rfl,l,d,rfl,a1,a2,J,D⟩;exact⟨rfl,l,d,rfl,a1,J,D,.inl (by omega)⟩
  ·rintro c v ⟨rfl,l,d,rfl,a1,J,D,a5⟩;have H4:∀i,at0+min d (n-at0)<=i->i<n->bv lt lf key (f i)=false:=λi h1 h2=>by
    rcases a5 with z|⟨z1,L⟩
    ·omega
    ·exact up (at0+d) i (by omega) h2 L
   refine ax (dZs (b:=λi=>bv lt lf key (f i)) (n:=n) (lo:=at0+l+1) (hi:=at0+min d (n-at0)) (λx lo hi Q' hn U O N=>?_) mono (by omega) (by omega) (λi hi=>mono i (at0+l) (by omega) J D) H4 λk k1 Z Y=>aB (h k k1 Z Y))
   dsimp only
   by_cases B:lo>=hi
   ·rw[if_pos B];exact aB (U B)
   ·rw[if_neg B];have hm:lo+(hi-lo)/2<n:=by omega
    refine ax (bX5 o hk hkey (hf _ hm).1 (hf _ hm).2 ?_);dsimp only;cases e:bv lt lf key (f (lo+(hi-lo)/2)) with
    |true=>rw[if_pos rfl];exact aB (O (by omega) e)
    |false=>rw[if_neg (by simp)];exact aB (N (by omega) e)
 |false =>
  rw[if_neg (by simp)]
  refine ax (cW (bK (I:=λx c v=>v=st/\∃ l d,c=(none,l,d)/\l < d/\x + 1<=d/\l<=at0/\bv lt lf key (f (at0 - l))=false)
   (Q:=λc v=>v=st/\∃l d,c=(none,l,d)/\l<d/\l<=at0/\bv lt lf key (f (at0-l))=false/\(at0+1<=d\/(d<=at0/\bv lt lf key (f (at0-d))=true))) ?_ ?_ ⟨rfl,0,1,rfl,by decide,by decide,Nat.zero_le _,e0⟩) ?_)
  ·rintro x c v _ hx ⟨rfl,l,d,rfl,a1,a2,J,D⟩;dsimp only
   by_cases B:d>=at0+1
   ·rw[if_pos B];exact aB ⟨rfl,l,d,rfl,a1,J,D,.inl B⟩
   ·rw[if_neg B];have hm:at0-d<n:=by omega
    refine ax (bX5 o hk hkey (hf _ hm).1 (hf _ hm).2 ?_);dsimp only;cases e:bv lt lf key (f (at0-d)) with
    |true=>rw[if_pos rfl];exact aB ⟨rfl,l,d,rfl,a1,J,D,.inr ⟨by omega,e⟩⟩
    |false=>rw[if_neg (by simp)];exact aB ⟨rfl,d,_,rfl,by omega,by omega,by omega,e⟩
  ·rintro c v ⟨rfl,l,d,rfl,a1,a2,J,D⟩;exact⟨rfl,l,d,rfl,a1,J,D,.inl (by omega)⟩
  ·rintro c v ⟨rfl,l,d,rfl,a1,J,D,a5⟩;have H3:∀i,i<at0+1-min d (at0+1)->bv lt lf key (f i)=true:=λi hi=>by
    rcases a5 with z|⟨z1,L⟩
    ·omega
    ·exact mono i (at0-d) (by omega) (by omega) L
   refine ax (dZs (b:=λi=>bv lt lf key (f i)) (n:=n) (lo:=at0+1-min d (at0+1)) (hi:=at0-l) (λx lo hi Q' hn U O N=>?_) mono (by omega) (by omega) H3 (λi h1 h2=>up (at0-l) i h1 h2 D) λk k1 Z Y=>aB (h k k1 Z Y))
   dsimp only
   by_cases B:lo>=hi
   ·rw[if_pos B];exact aB (U B)
   ·rw[if_neg B];have hm:lo+(hi-lo)/2<n:=by omega
    refine ax (bX5 o hk hkey (hf _ hm).1 (hf _ hm).2 ?_);dsimp only;cases e:bv lt lf key (f (lo+(hi-lo)/2)) with
    |true=>rw[if_pos rfl];exact aB (O (by omega) e)
    |false=>rw[if_neg (by simp)];exact aB (N (by omega) e)
end
def Sd{α:Type}(lt:α->α->Bool)(l:List α):Prop:=l.Pairwise λx y=>lt y x=false
structure Iv{α:Type}(lt:α->α->Bool)(T out rest:List α):Prop where
 perm:(out++rest).Perm T
 sd:Sd lt out
 lo:∀x∈out,∀y∈rest,lt y x=false
section
variable{α:Type}{lt:α->α->Bool}{T out rest:List α}
theorem Iv.step(h:Iv lt T out rest){xs rest':List α}(hp:rest.Perm (xs++rest'))(hs:Sd lt xs)(hl:∀x∈xs,∀y∈rest',lt y x=false):Iv lt T (out++xs) rest':=by
 refine⟨?_,a9.mpr ⟨h.sd,hs,λx i y d=>h.lo x i y (hp.mem_iff.mpr (cC _ d))⟩,λx i y d=>?_⟩
 ·rw[aU];exact(d4 out hp.symm).trans h.perm
 ·rcases aL.mp i with z|z
  ·exact h.lo x z y (hp.mem_iff.mpr (bf _ d))
  ·exact hl x z y d
theorem Iv.done(h:Iv lt T out rest)(hs:Sd lt rest):Sd lt (out++rest)/\(out++rest).Perm T:=⟨a9.mpr ⟨h.sd,hs,h.lo⟩,h.perm⟩
theorem Iv.perm'(h:Iv lt T out rest){rest':List α}(hp:rest.Perm rest'):Iv lt T out rest':=⟨(d4 out hp.symm).trans h.perm,h.sd,λx i y d=>h.lo x i y (hp.mem_iff.mpr d)⟩
theorem Iv.size(h:Iv lt T out rest):out.length+rest.length=T.length:=by rw[<- aG];exact h.perm.length_eq
theorem bXz{l:List α}{i:Nat}{x:α}(h:l[i]?=some x):l.drop i=x::l.drop (i+1):=by
 have hi:=(aA.mp h).1;rw[cJ hi]
 congr 1
 exact(aA.mp h).2
theorem Sd.drop{l:List α}(h:Sd lt l)(i:Nat):Sd lt (l.drop i):=h.sublist (List.drop_sublist _ _)
theorem Sd.at{l:List α}(h:Sd lt l){i j:Nat}{x y:α}(hij:i<j)(hx:l[i]?=some x)(hy:l[j]?=some y):lt y x=false:=by
 obtain⟨h1,v⟩:=aA.mp hx;obtain⟨h2,d⟩:=aA.mp hy
 have:=bQ.mp h i j h1 h2 hij
 rw[v,d] at this;exact this
theorem aQn{l:List α}{i:Nat}{y:α}(h:y∈l.drop i):∃j,i<=j/\l[j]?=some y:=by
 obtain⟨k,d,e⟩:=bd h;rw[fY] at e;rw[bn] at d;exact⟨i+k,by omega,by rw[ag (by omega),e]⟩
end
section
variable{prog:aF}{w:aR}{A:a8}{s:ah}{κ:eN}{P:aJ->Prop}{lt:aJ->aJ->Bool}{T out la lb:List aJ}{ia ib:Nat}{x y:aJ}
theorem bX6(o:Orc prog w A s κ P lt){l:List aJ}(hP:∀z∈l,P z)(hs:Sd lt l){i:Nat}{z:aJ}(hz:P z){y:aJ}(hy:l[i]?=some y)(h:lt y z=false):∀u∈l.drop i,lt u z=false:=λu v=>by
 obtain⟨j,B,e⟩:=aQn v;rcases Nat.eq_or_lt_of_le B with rfl|d
 ·rw[hy] at e;cases e;exact h
 ·exact o.tr z y u hz (hP y (ao hy)) (hP u (ao e)) h (hs.at d hy e)
theorem Iv.pushB(h:Iv lt T out (la.drop ia++lb.drop ib))(sb:Sd lt lb)(hy:lb[ib]?=some y)(hl:∀u∈la.drop ia,lt u y=false):Iv lt T (out++[y]) (la.drop ia++lb.drop (ib+1)):=by
 refine h.step ?_ (a4 _ _) λx d u i=>?_
 ·rw[bXz hy];exact fx
 ·rw[ay.mp d];rcases aL.mp i with z|z
  ·exact hl u z
  ·obtain⟨j,v,e⟩:=aQn z;exact sb.at (by omega) hy e
theorem Iv.pushA(h:Iv lt T out (la.drop ia++lb.drop ib))(sa:Sd lt la)(hx:la[ia]?=some x)(hl:∀u∈lb.drop ib,lt u x=false):Iv lt T (out++[x]) (la.drop (ia+1)++lb.drop ib):=by
 refine h.step ?_ (a4 _ _) λz d u i=>?_
 ·rw[bXz hx];exact db _
 ·rw[ay.mp d];rcases aL.mp i with z|z
  ·obtain⟨j,v,e⟩:=aQn z;exact sa.at (by omega) hx e
  ·exact hl u z
theorem Iv.blockA(h:Iv lt T out (la.drop ia++lb.drop ib))(sa:Sd lt la)(k:Nat)(hl:∀z∈(la.drop ia).take k,∀u∈lb.drop ib,lt u z=false):Iv lt T (out++(la.drop ia).take k) (la.drop (ia+k)++lb.drop ib):=by
 have e:la.drop ia=(la.drop ia).take k++la.drop (ia+k):=by rw[<- List.drop_drop];exact(bg k _).symm
 have sd:=sa.drop ia;rw[e] at sd;obtain⟨s1,_,s3⟩:=a9.mp sd;refine h.step ?_ s1 λz d u i=>?_
 ·rw[<- aU,<- e]
 ·rcases aL.mp i with v|v
  ·exact s3 z d u v
  ·exact hl z d u v
theorem Iv.blockB(h:Iv lt T out (la.drop ia++lb.drop ib))(sb:Sd lt lb)(k:Nat)(hl:∀z∈(lb.drop ib).take k,∀u∈la.drop ia,lt u z=false):Iv lt T (out++(lb.drop ib).take k) (la.drop ia++lb.drop (ib+k)):=by
 have e:lb.drop ib=(lb.drop ib).take k++lb.drop (ib+k):=by rw[<- List.drop_drop];exact(bg k _).symm
 have sd:=sb.drop ib;rw[e] at sd;obtain⟨s1,_,s3⟩:=a9.mp sd;refine h.step ?_ s1 λz d u i=>?_
 ·have j:la.drop ia++lb.drop ib=la.drop ia++((lb.drop ib).take k++lb.drop (ib+k)):=by rw[<- e]
  rw[j,<- aU,<- aU];exact dQ _ cO
 ·rcases aL.mp i with v|v
  ·exact hl z d u v
  ·exact s3 z d u v
theorem aZk{l:List aJ}{i k:Nat}{z:aJ}(h:z∈(l.drop i).take k):∃j,j<k/\l[i+j]?=some z:=by
 obtain⟨j,d,e⟩:=bd h;rw[aQ,bn] at d;rw[fc,fY] at e;exact⟨j,by omega,by rw[ag (by omega),e]⟩
end
theorem aZd(a:Array aJ)(i j:Nat):(a.extract i j).toList=(a.toList.drop i).take (j-i):=by simp
theorem bJ0(a:Array aJ)(i:Nat):(a.extract i a.size).toList=a.toList.drop i:=by
 rw[aZd];exact br (by rw[bn];simp)
end SF
theorem hd{g:Prop}(h:∀G:Prop,(g->G)->G):g:=h g id
namespace SF
open PySem PyProof.Rows
section
variable{prog:aF}{w:aR}{A:a8}{E:ad->ah->Prop}{s:ah}{κ:eN}{P:aJ->Prop}{lt:aJ->aJ->Bool}
theorem aQc{a:Array aJ}{i:Nat}(h:i<a.size):∃x,a[i]?=some x/\a.toList[i]?=some x:=⟨a[i],by simp[h],by simp[h]⟩
theorem aQu{σ α:Type}{M:Model}{c:Prop}{di:Decidable c}{X Y:StateT σ Sem α}{Q:α->σ->Prop}{st:σ}(hc:c)(h:wpS M A E s X Q st):wpS M A E s (@ite _ c di X Y) Q st:=by rw[if_pos hc];exact h
theorem aQv{σ α:Type}{M:Model}{c:Prop}{di:Decidable c}{X Y:StateT σ Sem α}{Q:α->σ->Prop}{st:σ}(hc:¬ c)(h:wpS M A E s Y Q st):wpS M A E s (@ite _ c di X Y) Q st:=by rw[if_neg hc];exact h
theorem dZt{σ α:Type}{M:Model}{c:Nat->Prop}{di:∀n,Decidable (c n)}{X Y:Nat->StateT σ Sem α}{Q:α->σ->Prop}{st:σ}(e:∀n,X n=Y (n-1))(h:∀m,wpS M A E s (Y m) Q st)(n:Nat):wpS M A E s (@ite _ (c n) (di n) (X n) (Y n)) Q st:=by
 split
 ·rw[e];exact h _
 ·exact h _
theorem eXq(o:Orc prog w A s κ P lt){st:cG}{a b:Array aJ}{Q:Array aJ->cG->Prop}(hk:kindOf st=κ)(pa:∀x∈a.toList,P x)(pb:∀y∈b.toList,P y)(sa:Sd lt a.toList)(sb:Sd lt b.toList)(na:1<=a.size)(nb:1<=b.size)
  (hfst:∀y,b.toList[0]?=some y->∀x∈a.toList,lt x y=false) (hlst:∀z,a.toList[a.size-1]?=some z->∀y∈b.toList,lt z y=false)
  (h:∀out g,Sd lt out.toList->out.toList.Perm (a.toList++b.toList)->Q out (setG st g)):wpS (aE prog w) A E s (mLo a b) Q st:=by
 have sz:(a.toList++b.toList).length=a.size+b.size:=by simp
 have finA:∀(out:Array aJ) ia ib g,ib=b.size->Iv lt (a.toList++b.toList) out.toList (a.toList.drop ia++b.toList.drop ib)->Q (out++a.extract ia a.size++b.extract ib b.size) (setG st g):=λout ia ib g e iv=>by
  have e0:b.toList.drop ib=[]:=bG (by simp[e])
  rw[e0,a7] at iv
  have:=iv.done (sa.drop ia)
  refine h _ g ?_ ?_ <;> simp only[cg,bJ0,e0,a7]
  ·exact this.1
  ·exact this.2
 have finB:∀(out:Array aJ) ia ib g,ia=a.size->Iv lt (a.toList++b.toList) out.toList (a.toList.drop ia++b.toList.drop ib)->Q (out++a.extract ia a.size++b.extract ib b.size) (setG st g):=λout ia ib g e iv=>by
  have e0:a.toList.drop ia=[]:=bG (by simp[e])
  rw[e0,bN] at iv
  have:=iv.done (sb.drop ib)
  refine h _ g ?_ ?_ <;> simp only[cg,bJ0,e0,a7]
  ·exact this.1
  ·exact this.2
 have finL:∀(out:Array aJ) ia ib g,ia+1=a.size->Iv lt (a.toList++b.toList) out.toList (a.toList.drop ia++b.toList.drop ib)->Q (out++b.extract ib b.size++a.extract ia a.size) (setG st g):=λout ia ib g e iv=>by
  obtain⟨z,hz,D⟩:=aQc (a:=a) (i:=ia) (by lia)
  have e0:a.toList.drop ia=[z]:=by rw[bXz D,bG (by simp;lia)]
  have Y:=iv.perm' cO;have hz2:a.toList[a.size-1]?=some z:=by rw[<- e];exact D
  have:=Y.done (a9.mpr ⟨sb.drop ib,sa.drop ia,λx hx y hy=>by
   rw[e0] at hy;rw[ay.mp hy];exact hlst z hz2 x (cV hx)⟩)
  refine h _ g ?_ ?_ <;> simp only[cg,bJ0,aU]
  ·exact this.1
  ·exact this.2
 have t2:∀(N:ForInStep (Option (Array aJ)×Array aJ×Nat×Nat×Nat×Nat×Nat)->cG->Prop) (out:Array aJ) (ia ib mg ac bc g:Nat),(∀r c',Q r (setG st g)->N (.done (some r,c')) (setG st g)) ->
   (∀v d B ac' bc',d+1<a.size->B<b.size->Iv lt (a.toList++b.toList) v.toList (a.toList.drop d++b.toList.drop B)->out.size<=v.size->N (.done (none,v,d,B,mg,ac',bc')) (setG st g)/\N (.yield (none,v,d,B,mg,ac',bc')) (setG st g)) ->
   ia+1<a.size->ib<b.size->Iv lt (a.toList++b.toList) out.toList (a.toList.drop ia++b.toList.drop ib)->(∀x,a.toList[ia]?=some x->∀u∈b.toList.drop ib,lt u x=false) ->
   wpS (aE prog w) A E s (do
    let x <- d0 a ia
    if (ia+1+1==a.size)=true then pure (be (some (out.push x++b.extract ib b.size++a.extract (ia+1) a.size),out.push x,ia+1,ib,mg,ac,bc))
    else if (decide (ac<7)&&decide (bc<7))=true then pure (be (none,out.push x,ia+1,ib,mg,ac,bc))
    else pure (bq (none,out.push x,ia+1,ib,mg,ac,bc))) N (setG st g):=by
  intro N out ia ib mg ac bc g hd hg hia hib iv hl;obtain⟨x1,hx1,U⟩:=aQc (a:=a) (i:=ia) (by lia)
  refine ax (aZ6 hx1 ?_);have Y:Iv lt (a.toList++b.toList) (out.push x1).toList (a.toList.drop (ia+1)++b.toList.drop ib):=by
   rw[b7];exact iv.pushA sa U (hl x1 U)
  have sp:(out.push x1).size=out.size+1:=dy ..
  by_cases c1:(ia+1+1==a.size)=true
  ·refine aQu c1 ?_;exact aB (hd _ _ (finL _ _ _ g (by simpa using c1) Y))
  ·refine aQv c1 ?_;have c1':ia+1+1≠a.size:=by simpa using c1
   have:=hg (out.push x1) (ia+1) ib ac bc (by lia) hib Y (by lia)
   by_cases c2:(decide (ac<7)&&decide (bc<7))=true
   ·refine aQu c2 ?_;exact aB this.1
   ·refine aQv c2 ?_;exact aB this.2
 have t1:∀(N:ForInStep (Option (Array aJ)×Array aJ×Nat×Nat×Nat×Nat×Nat)->cG->Prop) (out:Array aJ) (ia ib mg ac bc g:Nat),(∀r c',Q r (setG st g)->N (.done (some r,c')) (setG st g)) ->
   (∀v d B ac' bc',d+1<a.size->B<b.size->Iv lt (a.toList++b.toList) v.toList (a.toList.drop d++b.toList.drop B)->out.size<=v.size->N (.done (none,v,d,B,mg,ac',bc')) (setG st g)/\N (.yield (none,v,d,B,mg,ac',bc')) (setG st g)) ->
   ia+1<a.size->ib<b.size->Iv lt (a.toList++b.toList) out.toList (a.toList.drop ia++b.toList.drop ib)->(∀y,b.toList[ib]?=some y->∀u∈a.toList.drop ia,lt u y=false) ->
   wpS (aE prog w) A E s (do
    let y <- d0 b ib
    if (ib+1==b.size)=true then pure (be (some (out.push y++a.extract ia a.size++b.extract (ib+1) b.size),out.push y,ia,ib+1,mg,ac,bc))
    else do
     let x <- d0 a ia
     let z <- gal true x b (ib+1) (b.size-(ib+1)) 0
     match z with
     |some k1 =>
      if k1>0 then
       if (ib+1+k1==b.size)=true then pure (be (some (out.push y++b.extract (ib+1) (ib+1+k1)++a.extract ia a.size++b.extract (ib+1+k1) b.size),out.push y++b.extract (ib+1) (ib+1+k1),ia,ib+1+k1,mg,ac,k1))
       else do
        let x <- d0 a ia
        if (ia+1+1==a.size)=true then pure (be (some ((out.push y++b.extract (ib+1) (ib+1+k1)).push x++b.extract (ib+1+k1) b.size++a.extract (ia+1) a.size),(out.push y++b.extract (ib+1) (ib+1+k1)).push x,ia+1,ib+1+k1,mg,ac,k1))
        else if (decide (ac<7)&&decide (k1<7))=true then pure (be (none,(out.push y++b.extract (ib+1) (ib+1+k1)).push x,ia+1,ib+1+k1,mg,ac,k1))
        else pure (bq (none,(out.push y++b.extract (ib+1) (ib+1+k1)).push x,ia+1,ib+1+k1,mg,ac,k1))
      else do
       let x <- d0 a ia
       if (ia+1+1==a.size)=true then pure (be (some ((out.push y).push x++b.extract (ib+1) b.size++a.extract (ia+1) a.size),(out.push y).push x,ia+1,ib+1,mg,ac,k1))
       else if (decide (ac<7)&&decide (k1<7))=true then pure (be (none,(out.push y).push x,ia+1,ib+1,mg,ac,k1))
       else pure (bq (none,(out.push y).push x,ia+1,ib+1,mg,ac,k1))
     |_=>pure (be (some (out.push y++a.extract ia a.size++b.extract (ib+1) b.size),out.push y,ia,ib+1,mg,ac,bc))) N (setG st g):=by
  intro N out ia ib mg ac bc g hd hg hia hib iv hl;obtain⟨y1,hy1,O⟩:=aQc (a:=b) (i:=ib) hib;obtain⟨x1,hx1,U⟩:=aQc (a:=a) (i:=ia) (by lia)
  have px1:=pa x1 (ao U);refine ax (aZ6 hy1 ?_);have Y:Iv lt (a.toList++b.toList) (out.push y1).toList (a.toList.drop ia++b.toList.drop (ib+1)):=by
   rw[b7];exact iv.pushB sb O (hl y1 O)
  have sp:(out.push y1).size=out.size+1:=dy ..
  by_cases c1:(ib+1==b.size)=true
  ·refine aQu c1 ?_;exact aB (hd _ _ (finA _ _ _ g (by simpa using c1) Y))
  refine aQv c1 ?_;have c1':ib+1≠b.size:=by simpa using c1
  refine ax (aZ6 hx1 (ax (bQl o (f:=λi=>b.toList.getD (ib+1+i) (.none,.none)) hk px1 (λi hi=>?_) (λi j hij hj hb=>?_) (by lia) λk k1 k2 k3=>?_)))
  ·obtain⟨z,hz,D⟩:=aQc (a:=b) (i:=ib+1+i) (by lia)
   rw[ak,D];exact⟨hz,pb z (ao D)⟩
  ·obtain⟨z,hz,D⟩:=aQc (a:=b) (i:=ib+1+i) (by lia)
   obtain⟨z',hz',hzl'⟩:=aQc (a:=b) (i:=ib+1+j) (by lia)
   rw[ak,hzl'] at hb;rw[ak,D];have hb':lt z' x1=true:=hb;show lt z x1=true;cases e:lt z x1 with
   |true=>rfl
   |false =>
    exfalso;have pz:=pb z (ao D);have pz':=pb z' (ao hzl');rcases Nat.eq_or_lt_of_le hij with rfl|hlt
    ·rw[D] at hzl';cases hzl';rw[e] at hb';cases hb'
    ·have:=o.tr x1 z z' px1 pz pz' e (sb.at (by lia) D hzl')
     rw[hb'] at this;cases this
  have behind:∀j y,ib+1+k<=j->b.toList[j]?=some y->lt y x1=false:=λj y hj hy=>by
   have hjb:j<b.size:=by have:=(aA.mp hy).1;simpa using this
   have:=k3 (j-(ib+1)) (by lia) (by lia)
   rw[ak,show ib+1+(j-(ib+1))=j by lia,hy] at this
   exact this
  dsimp only
  by_cases ck:k>0
  ·refine aQu ck ?_;have iv3:Iv lt (a.toList++b.toList) (out.push y1++b.extract (ib+1) (ib+1+k)).toList (a.toList.drop ia++b.toList.drop (ib+1+k)):=by
    rw[cg,aZd,show ib+1+k-(ib+1)=k by lia]
    refine Y.blockB sb k λz hz u hu=>?_;obtain⟨j,hj,D⟩:=aZk hz;have pz:=pb z (ao D);have hb:=k2 j hj;rw[ak,D] at hb;exact bX6 o pa sa pz U (o.as _ _ pz px1 hb) u hu
   have sz3:out.size<=(out.push y1++b.extract (ib+1) (ib+1+k)).size:=by rw[dJ];lia
   by_cases c3:(ib+1+k==b.size)=true
   ·refine aQu c3 ?_;exact aB (hd _ _ (finA _ _ _ g (by simpa using c3) iv3))
   ·refine aQv c3 ?_;have c3':ib+1+k≠b.size:=by simpa using c3
    refine t2 N _ ia (ib+1+k) mg ac k g hd (λo' i1 i2 a1 b1 q1 q2 q3 q4=>hg o' i1 i2 a1 b1 q1 q2 q3 (by lia)) hia (by lia) iv3 λx hx u hu=>?_
    rw[U] at hx;cases hx;obtain⟨j,hj,e⟩:=aQn hu;exact behind j u hj e
  ·refine aQv ck ?_;have k0:k=0:=by lia
   refine t2 N _ ia (ib+1) mg ac k g hd (λo' i1 i2 a1 b1 q1 q2 q3 q4=>hg o' i1 i2 a1 b1 q1 q2 q3 (by lia)) hia (by lia) Y λx hx u hu=>?_
   rw[U] at hx;cases hx;obtain⟨j,hj,e⟩:=aQn hu;exact behind j u (by lia) e
 rw[eXp];refine ax (hZ (cS ⟨rfl,?_⟩));dsimp only;obtain⟨y0,hy0,hy0l⟩:=aQc (a:=b) (i:=0) nb;refine ax (aZ6 hy0 ?_);have iv0:Iv lt (a.toList++b.toList) (#[y0]:Array aJ).toList (a.toList.drop 0++b.toList.drop 1):=by
  have i0:Iv lt (a.toList++b.toList) [] (a.toList.drop 0++b.toList.drop 0):=⟨by simp,e9,by simp⟩
  exact i0.pushB sb hy0l λu hu=>hfst y0 hy0l u hu
 have est:st=setG st (gallopOf st):=rfl
 by_cases hb1:(1==b.size)=true
 ·refine aQu hb1 ?_;refine aB ?_;rw[est];exact finA _ 0 1 _ (by simpa using hb1) iv0
 refine aQv hb1 ?_
 by_cases ha1:(0+1==a.size)=true
 ·refine aQu ha1 ?_;refine aB ?_;rw[est];exact finL _ 0 1 _ (by simpa using ha1) iv0
 refine aQv ha1 ?_;have hb2:1<b.size:=by
  have:1≠b.size:=by simpa using hb1
  lia
 have ha2:0+1<a.size:=by
  have:0+1≠a.size:=by simpa using ha1
  lia
 refine ax (gN ?_);refine ax (cW (bK (I:=λx c J=>∃ out ia ib mg g,c=(none,out,ia,ib,mg)/\J=setG st g/\ia + 1 < a.size/\ib < b.size/\Iv lt (a.toList++b.toList) out.toList (a.toList.drop ia++b.toList.drop ib)/\x + 1<=out.size)
  (Q:=λc J=>∃r,c.fst=some r/\Q r J) ?_ ?_ ⟨#[y0],0,1,_,_,rfl,est,ha2,hb2,iv0,by simp⟩) ?_)
 ·intro x c J _ hx zq;refine hd λGq kq=>?_;obtain⟨out,ia,ib,mg,g,rfl,rfl,hia,hib,iv,hsz⟩:=zq;refine kq ?_;dsimp only;refine ax (cW (bK (I:=λy c J=>∃ v d B ac bc,c=(none,v,d,B,ac,bc)/\J=setG st g/\d + 1 < a.size/\B < b.size/\Iv lt (a.toList++b.toList) v.toList (a.toList.drop d++b.toList.drop B)/\out.size + y<=v.size)
   (Q:=λc J=>J=setG st g/\((∃r,c.fst=some r/\Q r J)\/∃v d B ac bc,c=(none,v,d,B,ac,bc)/\d+1<a.size/\B<b.size/\Iv lt (a.toList++b.toList) v.toList (a.toList.drop d++b.toList.drop B)/\out.size+1<=v.size)) ?_ ?_ ⟨out,ia,ib,0,0,rfl,rfl,hia,hib,iv,Nat.le_refl _⟩) ?_)
  ·intro y c J _ hy zq;refine hd λGq kq=>?_;obtain⟨v,d,B,ac,bc,rfl,rfl,Z,L,iv',hsz'⟩:=zq;refine kq ?_;obtain⟨x1,hx1,U⟩:=aQc (a:=a) (i:=d) (by lia)
   obtain⟨y1,hy1,O⟩:=aQc (a:=b) (i:=B) L;have px1:=pa x1 (ao U);have py1:=pb y1 (ao O);dsimp only;refine ax (aZ6 hy1 (ax (aZ6 hx1 (ax (cXf o hk py1 px1 ?_)))));dsimp only;cases e:lt y1 x1 with
   |true =>
    refine aQu rfl ?_;refine ax (aZ6 hy1 ?_);have Y:Iv lt (a.toList++b.toList) (v.push y1).toList (a.toList.drop d++b.toList.drop (B+1)):=by
     rw[b7];exact iv'.pushB sb O (bX6 o pa sa py1 U (o.as _ _ py1 px1 e))
    have sp:(v.push y1).size=v.size+1:=dy ..
    by_cases c1:(B+1==b.size)=true
    ·refine aQu c1 ?_;exact aB ⟨rfl,.inl ⟨_,rfl,finA _ _ _ g (by simpa using c1) Y⟩⟩
    ·refine aQv c1 ?_;have c1':B+1≠b.size:=by simpa using c1
     by_cases c2:bc+1>=mg
     ·refine aQu c2 ?_;exact aB ⟨rfl,.inr ⟨_,_,_,_,_,rfl,Z,by lia,Y,by lia⟩⟩
     ·refine aQv c2 ?_;exact aB ⟨_,_,_,_,_,rfl,rfl,Z,by lia,Y,by lia⟩
   |false =>
    refine aQv (by simp) ?_
    refine ax (aZ6 hx1 ?_);have Y:Iv lt (a.toList++b.toList) (v.push x1).toList (a.toList.drop (d+1)++b.toList.drop B):=by
     rw[b7];exact iv'.pushA sa U (bX6 o pb sb px1 O e)
    have sp:(v.push x1).size=v.size+1:=dy ..
    by_cases c1:(d+1+1==a.size)=true
    ·refine aQu c1 ?_;exact aB ⟨rfl,.inl ⟨_,rfl,finL _ _ _ g (by simpa using c1) Y⟩⟩
    ·refine aQv c1 ?_;have c1':d+1+1≠a.size:=by simpa using c1
     by_cases c2:ac+1>=mg
     ·refine aQu c2 ?_;exact aB ⟨rfl,.inr ⟨_,_,_,_,_,rfl,by lia,L,Y,by lia⟩⟩
     ·refine aQv c2 ?_;exact aB ⟨_,_,_,_,_,rfl,rfl,by lia,L,Y,by lia⟩
  ·intro c J zq;refine hd λGq kq=>?_;obtain⟨v,d,B,ac,bc,rfl,rfl,Z,L,iv',hsz'⟩:=zq;refine kq ?_;exact⟨rfl,.inr ⟨_,_,_,_,_,rfl,Z,L,iv',by lia⟩⟩
  ·rintro c J ⟨rfl,⟨r,hr,q⟩|⟨out1,ia1,ib1,ac1,bc1,rfl,hia1,hib1,iv1,hsz1⟩⟩
   ·obtain⟨c1,c2⟩:=c;dsimp only at hr;subst hr;exact aB ⟨r,rfl,q⟩
   ·dsimp only;refine ax (hZ (cS ⟨rfl,?_⟩));refine ax (cW (bK (I:=λy c J=>∃ v d B mg' ac bc g',c=(none,v,d,B,mg',ac,bc)/\J=setG st g'/\d + 1 < a.size/\B < b.size/\Iv lt (a.toList++b.toList) v.toList (a.toList.drop d++b.toList.drop B)/\out1.size<=v.size)
     (Q:=λc J=>(∃r,c.fst=some r/\Q r J)\/∃v d B mg' ac bc g',c=(none,v,d,B,mg',ac,bc)/\J=setG st g'/\d+1<a.size/\B<b.size/\Iv lt (a.toList++b.toList) v.toList (a.toList.drop d++b.toList.drop B)/\out1.size<=v.size) ?_ ?_ ⟨out1,ia1,ib1,_,ac1,bc1,g,rfl,rfl,hia1,hib1,iv1,Nat.le_refl _⟩) ?_)
    ·intro y c J _ hy zq;refine hd λGq kq=>?_;obtain⟨v,d,B,mg',ac,bc,g',rfl,rfl,Z,L,iv',hsz'⟩:=zq;refine kq ?_;dsimp only;obtain⟨y1,hy1,O⟩:=aQc (a:=b) (i:=B) L;have py1:=pb y1 (ao O);have fa:∀i,i<a.size-d->a[d+i]?=some (a.toList.getD (d+i) (.none,.none))/\P (a.toList.getD (d+i) (.none,.none)):=λi hi=>by
      obtain⟨z,hz,D⟩:=aQc (a:=a) (i:=d+i) (by lia)
      rw[ak,D];exact⟨hz,pa z (ao D)⟩
     have mono:∀i j,i<=j->j<a.size-d->bv lt false y1 (a.toList.getD (d+j) (.none,.none))=true->bv lt false y1 (a.toList.getD (d+i) (.none,.none))=true:=λi j hij hj hb=>by
      obtain⟨z,hz,D⟩:=aQc (a:=a) (i:=d+i) (by lia)
      obtain⟨z',hz',hzl'⟩:=aQc (a:=a) (i:=d+j) (by lia)
      rw[ak,hzl'] at hb;rw[ak,D];have hb':lt y1 z'=false:=by simpa [bv] using hb
      show(!lt y1 z)=true;rcases Nat.eq_or_lt_of_le hij with rfl|hlt
      ·rw[D] at hzl';cases hzl';rw[hb'];rfl
      ·rw[o.tr z z' y1 (pa z (ao D)) (pa z' (ao hzl')) py1 (sa.at (by lia) D hzl') hb'];rfl
     clear kq
     revert mg'
     refine dZt (λ_=>rfl) λm2=>?_;refine ax (cH (ax (aZ6 hy1 (ax (bQl o (f:=λi=>a.toList.getD (d+i) (.none,.none)) hk py1 fa mono (by lia) λk k1 k2 k3=>?_)))))
     dsimp only;have behind:∀j z,d+k<=j->a.toList[j]?=some z->lt z y1=false:=λj z hj hz=>by
      have hja:j<a.size:=by have:=(aA.mp hz).1;simpa using this
      have:=k3 (j-d) (by lia) (by lia)
      rw[ak,show d+(j-d)=j by lia,hz] at this
      have h1:(!lt y1 z)=false:=this;exact o.as _ _ py1 (pa z (ao hz)) (by simpa using h1)
     by_cases ck:k>0
     ·refine aQu ck ?_;have iv3:Iv lt (a.toList++b.toList) (v++a.extract d (d+k)).toList (a.toList.drop (d+k)++b.toList.drop B):=by
       rw[cg,aZd,show d+k-d=k by lia]
       refine iv'.blockA sa k λz hz u hu=>?_;obtain⟨j,hj,D⟩:=aZk hz;have hb:=k2 j hj;rw[ak,D] at hb;have h1:(!lt y1 z)=true:=hb;exact bX6 o pb sb (pa z (ao D)) O (by simpa using h1) u hu
      have sz3:out1.size<=(v++a.extract d (d+k)).size:=by rw[dJ];lia
      by_cases c3:(d+k+1==a.size)=true
      ·refine aQu c3 ?_;exact aB (.inl ⟨_,rfl,finL _ _ _ _ (by simpa using c3) iv3⟩)
      ·refine aQv c3 ?_;have c3':d+k+1≠a.size:=by simpa using c3
       by_cases c4:(d+k==a.size)=true
       ·refine aQu c4 ?_;exact aB (.inl ⟨_,rfl,finB _ _ _ _ (by simpa using c4) iv3⟩)
       ·refine aQv c4 ?_;have c4':d+k≠a.size:=by simpa using c4
        refine t1 _ _ (d+k) B m2 k bc m2 (λr c' q=>.inl ⟨r,rfl,q⟩) (λo' i1 i2 a1 b1 q1 q2 q3 q4=>⟨.inr ⟨_,_,_,_,_,_,_,rfl,rfl,q1,q2,q3,by lia⟩,⟨_,_,_,_,_,_,_,rfl,rfl,q1,q2,q3,by lia⟩⟩) (by lia) L iv3 λy hy u hu=>?_
        rw[O] at hy;cases hy;obtain⟨j,hj,e⟩:=aQn hu;exact behind j u hj e
     ·refine aQv ck ?_;refine t1 _ _ d B m2 k bc m2 (λr c' q=>.inl ⟨r,rfl,q⟩) (λo' i1 i2 a1 b1 q1 q2 q3 q4=>⟨.inr ⟨_,_,_,_,_,_,_,rfl,rfl,q1,q2,q3,by lia⟩,⟨_,_,_,_,_,_,_,rfl,rfl,q1,q2,q3,by lia⟩⟩) Z L iv' λy hy u hu=>?_
      rw[O] at hy;cases hy;obtain⟨j,hj,e⟩:=aQn hu;exact behind j u (by lia) e
    ·intro c J zq;refine hd λGq kq=>?_;obtain⟨v,d,B,mg',ac,bc,g',rfl,rfl,Z,L,iv',hsz'⟩:=zq;refine kq ?_;exact .inr ⟨_,_,_,_,_,_,_,rfl,rfl,Z,L,iv',hsz'⟩
    ·rintro c J (⟨r,hr,q⟩|⟨v,d,B,mg',ac,bc,g',rfl,rfl,Z,L,iv',hsz'⟩)
     ·obtain⟨c1,c2⟩:=c;dsimp only at hr;subst hr;exact aB ⟨r,rfl,q⟩
     ·dsimp only;exact ax (cH (aB ⟨_,_,_,_,_,rfl,rfl,Z,L,iv',by lia⟩))
 ·intro c J zq;refine hd λGq kq=>?_;obtain⟨out,ia,ib,mg,g,rfl,rfl,hia,hib,iv,hsz⟩:=zq;refine kq ?_;exfalso
  have:=iv.size
  rw[sz,aP] at this;lia
 ·rintro c J ⟨r,hr,q⟩;obtain⟨c1,c2⟩:=c;dsimp only at hr;subst hr;exact aB q
end
theorem eXr(a b:Array aJ):mHi a b=(do
 rule "list.sort.merge-hi"
 let total:=a.size+b.size
 let fin (o:Array aJ) (na nb:Nat):=a.extract 0 na++b.extract 0 nb++o.reverse
 let fst (o:Array aJ) (na nb:Nat):=b.extract 0 nb++a.extract 0 na++o.reverse
 let mut na:=a.size-1
 let mut nb:=b.size
 let mut out:Array aJ:=#[<- d0 a na]
 if na==0 then return fin out na nb
 if nb==1 then return fst out na nb
 let mut minGallop:=gallopOf (<- get)
 for _ in [0:total] do
  let mut acount:=0
  let mut bcount:=0
  for _ in [0:total] do
   let some aw <- lt' (<- d0 b (nb-1)) (<- d0 a (na-1))|return fin out na nb
   if aw then
    na:=na-1
    out:=out.push (<- d0 a na)
    acount:=acount+1
    bcount:=0
    if na==0 then return fin out na nb
    if acount>=minGallop then break
   else
    nb:=nb-1
    out:=out.push (<- d0 b nb)
    bcount:=bcount+1
    acount:=0
    if nb==1 then return fst out na nb
    if bcount>=minGallop then break
  rule "list.sort.gallop"
  minGallop:=minGallop+1
  for _ in [0:total] do
   if minGallop>1 then minGallop:=minGallop-1
   modify (λs=>setG s minGallop)
   let some p <- gal false (<- d0 b (nb-1)) a 0 na (na-1)|return fin out na nb
   let k:=na-p
   acount:=k
   if k>0 then
    out:=out++(a.extract p na).reverse
    na:=p
    if na==0 then return fin out na nb
   nb:=nb-1
   out:=out.push (<- d0 b nb)
   if nb==1 then return fst out na nb
   let some p <- gal true (<- d0 a (na-1)) b 0 nb (nb-1)|return fin out na nb
   let k:=nb-p
   bcount:=k
   if k>0 then
    out:=out++(b.extract p nb).reverse
    nb:=p
    if nb==1 then return fst out na nb
    if nb==0 then return fin out na nb
   na:=na-1
   out:=out.push (<- d0 a na)
   if na==0 then return fin out na nb
   if acount<7&&bcount<7 then break
  minGallop:=minGallop+1
  modify (λs=>setG s minGallop)
 eQ "internal:list.sort.merge-bound"):=rfl
section
variable{α:Type}{lt:α->α->Bool}{T out rest:List α}
abbrev rl(lt:α->α->Bool):α->α->Bool:=λx y=>lt y x
theorem Iv.doneR(h:Iv (rl lt) T out rest){l:List α}(hp:l.Perm rest)(hs:Sd lt l):Sd lt (l++out.reverse)/\(l++out.reverse).Perm T:=by
 refine⟨a9.mpr ⟨hs,gj.mpr h.sd,λx i y d=>h.lo y (iO.mp d) x (hp.mem_iff.mp i)⟩,?_⟩;exact(ju.append hp (ip out)).trans (cO.trans h.perm)
theorem bJ1{l:List α}{i:Nat}{x:α}(h:l[i]?=some x):l.take (i+1)=l.take i++[x]:=by rw[cL,h];rfl
theorem Sd.take{l:List α}(h:Sd lt l)(i:Nat):Sd lt (l.take i):=h.sublist (c7 _ _)
theorem aQp{l:List α}{i:Nat}{y:α}(h:y∈l.take i):∃j,j<i/\l[j]?=some y:=by
 obtain⟨k,d,e⟩:=bd h;rw[aQ] at d;rw[fc] at e;exact⟨k,by lia,by rw[ag (by lia),e]⟩
end
section
variable{prog:aF}{w:aR}{A:a8}{s:ah}{κ:eN}{P:aJ->Prop}{lt:aJ->aJ->Bool}{T out la lb:List aJ}{na nb:Nat}{x y:aJ}
theorem bX7(o:Orc prog w A s κ P lt){l:List aJ}(hP:∀z∈l,P z)(hs:Sd lt l){i:Nat}{z:aJ}(hz:P z){y:aJ}(hy:l[i]?=some y)(h:lt z y=false):∀u∈l.take (i+1),lt z u=false:=λu v=>by
 obtain⟨j,B,e⟩:=aQp v;rcases Nat.eq_or_lt_of_le (Nat.le_of_lt_succ B) with rfl|d
 ·rw[hy] at e;cases e;exact h
 ·exact o.tr u y z (hP u (ao e)) (hP y (ao hy)) hz (hs.at d e hy) h
theorem Iv.popA(h:Iv (rl lt) T out (la.take (na+1)++lb.take nb))(sa:Sd lt la)(hx:la[na]?=some x)(hl:∀u∈lb.take nb,lt x u=false):Iv (rl lt) T (out++[x]) (la.take na++lb.take nb):=by
 refine h.step ?_ (a4 _ _) λz d u i=>?_
 ·rw[bJ1 hx,aU];exact fx
 ·rw[ay.mp d];rcases aL.mp i with v|v
  ·obtain⟨j,B,e⟩:=aQp v;exact sa.at B e hx
  ·exact hl u v
theorem Iv.popB(h:Iv (rl lt) T out (la.take na++lb.take (nb+1)))(sb:Sd lt lb)(hy:lb[nb]?=some y)(hl:∀u∈la.take na,lt y u=false):Iv (rl lt) T (out++[y]) (la.take na++lb.take nb):=by
 refine h.step ?_ (a4 _ _) λz d u i=>?_
 ·rw[bJ1 hy,<- aU];exact cO
 ·rw[ay.mp d];rcases aL.mp i with v|v
  ·exact hl u v
  ·obtain⟨j,B,e⟩:=aQp v;exact sb.at B e hy
theorem cXg(l:List aJ){p n:Nat}(h:p<=n):l.take n=l.take p++(l.drop p).take (n-p):=by
 have:n=p+(n-p):=by lia
 rw[this,List.take_add];simp
theorem Iv.backA(h:Iv (rl lt) T out (la.take na++lb.take nb))(sa:Sd lt la){p:Nat}(hp:p<=na)(hl:∀z∈(la.drop p).take (na-p),∀u∈lb.take nb,lt z u=false):Iv (rl lt) T (out++((la.drop p).take (na-p)).reverse) (la.take p++lb.take nb):=by
 have e:=cXg la hp;have sd:=sa.take na;rw[e] at sd;obtain⟨_,s2,s3⟩:=a9.mp sd;refine h.step ?_ (gj.mpr s2) λz d u i=>?_
 ·rw[e,aU];refine(List.perm_append_comm_assoc _ _ _).trans ?_;exact dQ _ (ip _).symm
 ·have d:=iO.mp d;rcases aL.mp i with v|v
  ·exact s3 u v z d
  ·exact hl z d u v
theorem Iv.backB(h:Iv (rl lt) T out (la.take na++lb.take nb))(sb:Sd lt lb){p:Nat}(hp:p<=nb)(hl:∀z∈(lb.drop p).take (nb-p),∀u∈la.take na,lt z u=false):Iv (rl lt) T (out++((lb.drop p).take (nb-p)).reverse) (la.take na++lb.take p):=by
 have e:=cXg lb hp;have sd:=sb.take nb;rw[e] at sd;obtain⟨_,s2,s3⟩:=a9.mp sd;refine h.step ?_ (gj.mpr s2) λz d u i=>?_
 ·rw[e,<- aU];refine cO.trans ?_;exact dQ _ (ip _).symm
 ·have d:=iO.mp d;rcases aL.mp i with v|v
  ·exact hl z d u v
  ·exact s3 u v z d
end
theorem dZu(a:Array aJ)(n:Nat):(a.extract 0 n).toList=a.toList.take n:=by rw[aZd];simp
section
variable{prog:aF}{w:aR}{A:a8}{E:ad->ah->Prop}{s:ah}{κ:eN}{P:aJ->Prop}{lt:aJ->aJ->Bool}
theorem eXs(o:Orc prog w A s κ P lt){st:cG}{a b:Array aJ}{Q:Array aJ->cG->Prop}(hk:kindOf st=κ)(pa:∀x∈a.toList,P x)(pb:∀y∈b.toList,P y)(sa:Sd lt a.toList)(sb:Sd lt b.toList)(na0:1<=a.size)(nb0:1<=b.size)
  (hfst:∀y,b.toList[0]?=some y->∀x∈a.toList,lt x y=false) (hlst:∀z,a.toList[a.size-1]?=some z->∀y∈b.toList,lt z y=false)
  (h:∀out g,Sd lt out.toList->out.toList.Perm (a.toList++b.toList)->Q out (setG st g)):wpS (aE prog w) A E s (mHi a b) Q st:=by
 have sz:(a.toList++b.toList).length=a.size+b.size:=by simp
 have finG:∀(out:Array aJ) na nb g,Sd lt (a.toList.take na++b.toList.take nb)->Iv (rl lt) (a.toList++b.toList) out.toList (a.toList.take na++b.toList.take nb)->Q (a.extract 0 na++b.extract 0 nb++out.reverse) (setG st g):=λout na nb g e iv=>by
  have:=iv.doneR (db _) e
  refine h _ g ?_ ?_ <;> simp only[cg,fq,dZu]
  ·exact this.1
  ·exact this.2
 have finF:∀(out:Array aJ) na nb g,nb=1->Iv (rl lt) (a.toList++b.toList) out.toList (a.toList.take na++b.toList.take nb)->Q (b.extract 0 nb++a.extract 0 na++out.reverse) (setG st g):=λout na nb g e iv=>by
  obtain⟨y0,hy0,hy0l⟩:=aQc (a:=b) (i:=0) nb0;have e1:b.toList.take nb=[y0]:=by rw[e];exact(bJ1 (i:=0) hy0l)
  have sd:Sd lt (b.toList.take nb++a.toList.take na):=by
   rw[e1];exact aY.mpr ⟨λu hu=>hfst y0 hy0l u (bD hu),sa.take na⟩
  have:=iv.doneR cO sd
  refine h _ g ?_ ?_ <;> simp only[cg,fq,dZu]
  ·exact this.1
  ·exact this.2
 have t2:∀(J:ForInStep (Option (Array aJ)×Nat×Nat×Array aJ×Nat×Nat×Nat)->cG->Prop) (out:Array aJ) (na nb mg ac Y g:Nat),(∀r c',Q r (setG st g)->J (.done (some r,c')) (setG st g)) ->
   (∀na' v d ac' bc',1<=na'->(na'<=a.size/\2<=v/\v<=b.size)->Iv (rl lt) (a.toList++b.toList) d.toList (a.toList.take na'++b.toList.take v)->out.size<=d.size->J (.done (none,na',v,d,mg,ac',bc')) (setG st g)/\J (.yield (none,na',v,d,mg,ac',bc')) (setG st g)) ->
   1<=na->na<=a.size->(2<=nb/\nb<=b.size)->Iv (rl lt) (a.toList++b.toList) out.toList (a.toList.take na++b.toList.take nb)->(∀x,a.toList[na-1]?=some x->∀u∈b.toList.take nb,lt x u=false) ->
   wpS (aE prog w) A E s (do
    let x <- d0 a (na-1)
    if (na-1==0)=true then pure (be (some (a.extract 0 (na-1)++b.extract 0 nb++((out).push x).reverse),na-1,nb,(out).push x,mg,ac,Y))
    else if (decide (ac<7)&&decide (Y<7))=true then pure (be (none,na-1,nb,(out).push x,mg,ac,Y))
    else pure (bq (none,na-1,nb,(out).push x,mg,ac,Y))) J (setG st g):=by
  intro J out na nb mg ac Y g hd hg hna hla hnb iv hl;obtain⟨m,rfl⟩:∃m,na=m+1:=⟨na-1,by lia⟩
  simp only[Nat.add_sub_cancel] at hl ⊢;obtain⟨x1,hx1,N⟩:=aQc (a:=a) (i:=m) (by lia)
  refine ax (aZ6 hx1 ?_);have U:Iv (rl lt) (a.toList++b.toList) (out.push x1).toList (a.toList.take m++b.toList.take nb):=by
   rw[b7];exact iv.popA sa N (hl x1 N)
  have sp:(out.push x1).size=out.size+1:=dy ..
  by_cases c1:(m==0)=true
  ·have m0:m=0:=by simpa using c1
   refine aQu c1 ?_;refine aB (hd _ _ (finG _ _ _ g ?_ U));rw[m0];exact sb.take _
  ·refine aQv c1 ?_;have c1':m≠0:=by simpa using c1
   have:=hg m nb (out.push x1) ac Y (by lia) ⟨by lia,hnb⟩ U (by lia)
   by_cases c2:(decide (ac<7)&&decide (Y<7))=true
   ·refine aQu c2 ?_;exact aB this.1
   ·refine aQv c2 ?_;exact aB this.2
 have t1:∀(J:ForInStep (Option (Array aJ)×Nat×Nat×Array aJ×Nat×Nat×Nat)->cG->Prop) (out:Array aJ) (na nb mg ac Y g:Nat),(∀r c',Q r (setG st g)->J (.done (some r,c')) (setG st g)) ->
   (∀na' v d ac' bc',1<=na'->(na'<=a.size/\2<=v/\v<=b.size)->Iv (rl lt) (a.toList++b.toList) d.toList (a.toList.take na'++b.toList.take v)->out.size<=d.size->J (.done (none,na',v,d,mg,ac',bc')) (setG st g)/\J (.yield (none,na',v,d,mg,ac',bc')) (setG st g)) ->
   1<=na->na<=a.size->(2<=nb/\nb<=b.size)->Iv (rl lt) (a.toList++b.toList) out.toList (a.toList.take na++b.toList.take nb)->(∀y,b.toList[nb-1]?=some y->∀u∈a.toList.take na,lt y u=false) ->
   wpS (aE prog w) A E s (do
    let y <- d0 b (nb-1)
    if (nb-1==1)=true then pure (be (some (b.extract 0 (nb-1)++a.extract 0 na++(out.push y).reverse),na,nb-1,out.push y,mg,ac,Y))
    else do
     let x <- d0 a (na-1)
     let z <- gal true x b 0 (nb-1) (nb-1-1)
     match z with
     |some O =>
      if nb-1-O>0 then
       if (O==1)=true then pure (be (some (b.extract 0 O++a.extract 0 na++(out.push y++(b.extract O (nb-1)).reverse).reverse),na,O,out.push y++(b.extract O (nb-1)).reverse,mg,ac,nb-1-O))
       else if (O==0)=true then pure (be (some (a.extract 0 na++b.extract 0 O++(out.push y++(b.extract O (nb-1)).reverse).reverse),na,O,out.push y++(b.extract O (nb-1)).reverse,mg,ac,nb-1-O))
       else do
        let x <- d0 a (na-1)
        if (na-1==0)=true then pure (be (some (a.extract 0 (na-1)++b.extract 0 O++((out.push y++(b.extract O (nb-1)).reverse).push x).reverse),na-1,O,(out.push y++(b.extract O (nb-1)).reverse).push x,mg,ac,(nb-1-O)))
        else if (decide (ac<7)&&decide ((nb-1-O)<7))=true then pure (be (none,na-1,O,(out.push y++(b.extract O (nb-1)).reverse).push x,mg,ac,(nb-1-O)))
        else pure (bq (none,na-1,O,(out.push y++(b.extract O (nb-1)).reverse).push x,mg,ac,(nb-1-O)))
      else do
       let x <- d0 a (na-1)
       if (na-1==0)=true then pure (be (some (a.extract 0 (na-1)++b.extract 0 (nb-1)++((out.push y).push x).reverse),na-1,(nb-1),(out.push y).push x,mg,ac,(nb-1-O)))
       else if (decide (ac<7)&&decide ((nb-1-O)<7))=true then pure (be (none,na-1,(nb-1),(out.push y).push x,mg,ac,(nb-1-O)))
       else pure (bq (none,na-1,(nb-1),(out.push y).push x,mg,ac,(nb-1-O)))
     |_=>pure (be (some (a.extract 0 na++b.extract 0 (nb-1)++(out.push y).reverse),na,nb-1,out.push y,mg,ac,Y))) J (setG st g):=by
  intro J out na nb mg ac Y g hd hg hna hla hnb iv hl;obtain⟨m,rfl⟩:∃m,nb=m+1:=⟨nb-1,by lia⟩
  simp only[Nat.add_sub_cancel] at hl ⊢;obtain⟨y1,hy1,L⟩:=aQc (a:=b) (i:=m) (by lia)
  obtain⟨x1,hx1,N⟩:=aQc (a:=a) (i:=na-1) (by lia)
  have px1:=pa x1 (ao N);refine ax (aZ6 hy1 ?_);have U:Iv (rl lt) (a.toList++b.toList) (out.push y1).toList (a.toList.take na++b.toList.take m):=by
   rw[b7];exact iv.popB sb L (hl y1 L)
  have sp:(out.push y1).size=out.size+1:=dy ..
  by_cases c1:(m==1)=true
  ·refine aQu c1 ?_;exact aB (hd _ _ (finF _ _ _ g (by simpa using c1) U))
  refine aQv c1 ?_;have c1':m≠1:=by simpa using c1
  refine ax (aZ6 hx1 (ax (bQl o (f:=λi=>b.toList.getD (0+i) (.none,.none)) hk px1 (λi hi=>?_) (λi j hij hj hb=>?_) (by lia) λk k1 k2 k3=>?_)))
  ·obtain⟨z,hz,D⟩:=aQc (a:=b) (i:=0+i) (by lia)
   rw[ak,D];exact⟨hz,pb z (ao D)⟩
  ·obtain⟨z,hz,D⟩:=aQc (a:=b) (i:=0+i) (by lia)
   obtain⟨z',hz',hzl'⟩:=aQc (a:=b) (i:=0+j) (by lia)
   rw[ak,hzl'] at hb;rw[ak,D];have hb':lt z' x1=true:=hb;show lt z x1=true;cases e:lt z x1 with
   |true=>rfl
   |false =>
    exfalso;have pz:=pb z (ao D);have pz':=pb z' (ao hzl');rcases Nat.eq_or_lt_of_le hij with rfl|hlt
    ·rw[D] at hzl';cases hzl';rw[e] at hb';cases hb'
    ·have:=o.tr x1 z z' px1 pz pz' e (sb.at (by lia) D hzl')
     rw[hb'] at this;cases this
  have ahead:∀u∈b.toList.take k,lt x1 u=false:=λu hu=>by
   obtain⟨j,hj,e⟩:=aQp hu
   have:=k2 j hj
   rw[ak,Nat.zero_add,e] at this;exact o.as _ _ (pb u (ao e)) px1 this
  dsimp only
  by_cases ck:m-k>0
  ·refine aQu ck ?_;have iv3:Iv (rl lt) (a.toList++b.toList) (out.push y1++(b.extract k m).reverse).toList (a.toList.take na++b.toList.take k):=by
    rw[cg,fq,aZd];refine U.backB sb k1 λz hz u hu=>?_;obtain⟨j,hj,D⟩:=aZk hz;have pz:=pb z (ao D);have hb:=k3 (k+j) (by lia) (by lia)
    rw[ak,Nat.zero_add,D] at hb
    have:=bX7 o pa sa pz N hb
    rw[show na-1+1=na by lia] at this
    exact this u hu
   have sz3:out.size<=(out.push y1++(b.extract k m).reverse).size:=by rw[dJ];lia
   by_cases c3:(k==1)=true
   ·refine aQu c3 ?_;exact aB (hd _ _ (finF _ _ _ g (by simpa using c3) iv3))
   ·refine aQv c3 ?_;have c3':k≠1:=by simpa using c3
    by_cases c4:(k==0)=true
    ·have k0:k=0:=by simpa using c4
     refine aQu c4 ?_;refine aB (hd _ _ (finG _ _ _ g ?_ iv3));rw[k0,h8,a7];exact sa.take _
    ·refine aQv c4 ?_;have c4':k≠0:=by simpa using c4
     refine t2 J _ na k mg ac (m-k) g hd (λn1 n2 o' a1 b1 q1 q2 q3 q4=>hg n1 n2 o' a1 b1 q1 q2 q3 (by lia)) hna hla ⟨by lia,by lia⟩ iv3 λx hx u hu=>?_
     rw[N] at hx;cases hx;exact ahead u hu
  ·refine aQv ck ?_;have ek:k=m:=by lia
   refine t2 J _ na m mg ac (m-k) g hd (λn1 n2 o' a1 b1 q1 q2 q3 q4=>hg n1 n2 o' a1 b1 q1 q2 q3 (by lia)) hna hla ⟨by lia,by lia⟩ U λx hx u hu=>?_
   rw[N] at hx;cases hx;exact ahead u (by rw[ek];exact hu)
 rw[eXr];refine ax (hZ (cS ⟨rfl,?_⟩));dsimp only;obtain⟨x0,hx0,hx0l⟩:=aQc (a:=a) (i:=a.size-1) (by lia)
 refine ax (aZ6 hx0 ?_);have iv0:Iv (rl lt) (a.toList++b.toList) (#[x0]:Array aJ).toList (a.toList.take (a.size-1)++b.toList.take b.size):=by
  have e1:a.toList.take (a.size-1+1)=a.toList:=br (by simp;lia)
  have e2:b.toList.take b.size=b.toList:=br (by simp)
  have i0:Iv (rl lt) (a.toList++b.toList) [] (a.toList.take (a.size-1+1)++b.toList.take b.size):=⟨by rw[e1,e2];exact db _,e9,by simp⟩
  exact i0.popA sa hx0l λu hu=>hlst x0 hx0l u (bD hu)
 have est:st=setG st (gallopOf st):=rfl
 by_cases ha1:(a.size-1==0)=true
 ·refine aQu ha1 ?_;have a0:a.size-1=0:=by simpa using ha1
  refine aB ?_;rw[est];refine finG _ _ _ _ ?_ iv0;rw[a0];exact sb.take _
 refine aQv ha1 ?_
 by_cases hb1:(b.size==1)=true
 ·refine aQu hb1 ?_;refine aB ?_;rw[est];exact finF _ _ _ _ (by simpa using hb1) iv0
 refine aQv hb1 ?_;have hb2:2<=b.size:=by
  have:b.size≠1:=by simpa using hb1
  lia
 have ha2:1<=a.size-1:=by
  have:a.size-1≠0:=by simpa using ha1
  lia
 refine ax (gN ?_);refine ax (cW (bK (I:=λx c B=>∃ na nb out mg g,c=(none,na,nb,out,mg)/\B=setG st g/\1<=na/\na<=a.size/\(2<=nb/\nb<=b.size)/\Iv (rl lt) (a.toList++b.toList) out.toList (a.toList.take na++b.toList.take nb)/\x + 1<=out.size)
  (Q:=λc B=>∃r,c.fst=some r/\Q r B) ?_ ?_ ⟨_,_,#[x0],_,_,rfl,est,ha2,by lia,⟨hb2,Nat.le_refl _⟩,iv0,by simp⟩) ?_)
 ·intro x c B _ hx zq;refine hd λGq kq=>?_;obtain⟨na,nb,out,mg,g,rfl,rfl,hna,hla,hnb,iv,hsz⟩:=zq;refine kq ?_;dsimp only;refine ax (cW (bK (I:=λy c B=>∃ na' v d ac Y,c=(none,na',v,d,ac,Y)/\B=setG st g/\1<=na'/\na'<=a.size/\(2<=v/\v<=b.size)/\Iv (rl lt) (a.toList++b.toList) d.toList (a.toList.take na'++b.toList.take v)/\out.size + y<=d.size)
   (Q:=λc B=>B=setG st g/\((∃r,c.fst=some r/\Q r B)\/∃na' v d ac Y,c=(none,na',v,d,ac,Y)/\1<=na'/\na'<=a.size/\(2<=v/\v<=b.size)/\Iv (rl lt) (a.toList++b.toList) d.toList (a.toList.take na'++b.toList.take v)/\out.size+1<=d.size)) ?_ ?_ ⟨na,nb,out,0,0,rfl,rfl,hna,hla,hnb,iv,Nat.le_refl _⟩) ?_)
  ·intro y c B _ hy zq;refine hd λGq kq=>?_;obtain⟨na',v,d,ac,Y,rfl,rfl,Z,hla',hnb',iv',hsz'⟩:=zq;refine kq ?_;obtain⟨ma,rfl⟩:∃m,na'=m+1:=⟨na'-1,by lia⟩
   obtain⟨mb,rfl⟩:∃m,v=m+1:=⟨v-1,by lia⟩
   obtain⟨x1,hx1,N⟩:=aQc (a:=a) (i:=ma) (by lia)
   obtain⟨y1,hy1,L⟩:=aQc (a:=b) (i:=mb) (by lia)
   have px1:=pa x1 (ao N);have py1:=pb y1 (ao L);dsimp only;simp only[Nat.add_sub_cancel];refine ax (aZ6 hy1 (ax (aZ6 hx1 (ax (cXf o hk py1 px1 ?_)))));dsimp only;cases e:lt y1 x1 with
   |true =>
    refine aQu rfl ?_;refine ax (aZ6 hx1 ?_);have U:Iv (rl lt) (a.toList++b.toList) (d.push x1).toList (a.toList.take ma++b.toList.take (mb+1)):=by
     rw[b7];exact iv'.popA sa N (bX7 o pb sb px1 L (o.as _ _ py1 px1 e))
    have sp:(d.push x1).size=d.size+1:=dy ..
    by_cases c1:(ma==0)=true
    ·have m0:ma=0:=by simpa using c1
     refine aQu c1 ?_;refine aB ⟨rfl,.inl ⟨_,rfl,finG _ _ _ g ?_ U⟩⟩;rw[m0];exact sb.take _
    ·refine aQv c1 ?_;have c1':ma≠0:=by simpa using c1
     by_cases c2:ac+1>=mg
     ·refine aQu c2 ?_;exact aB ⟨rfl,.inr ⟨_,_,_,_,_,rfl,by lia,by lia,hnb',U,by lia⟩⟩
     ·refine aQv c2 ?_;exact aB ⟨_,_,_,_,_,rfl,rfl,by lia,by lia,hnb',U,by lia⟩
   |false =>
    refine aQv (by simp) ?_
    refine ax (aZ6 hy1 ?_);have U:Iv (rl lt) (a.toList++b.toList) (d.push y1).toList (a.toList.take (ma+1)++b.toList.take mb):=by
     rw[b7];exact iv'.popB sb L (bX7 o pa sa py1 N e)
    have sp:(d.push y1).size=d.size+1:=dy ..
    by_cases c1:(mb==1)=true
    ·refine aQu c1 ?_;exact aB ⟨rfl,.inl ⟨_,rfl,finF _ _ _ g (by simpa using c1) U⟩⟩
    ·refine aQv c1 ?_;have c1':mb≠1:=by simpa using c1
     by_cases c2:Y+1>=mg
     ·refine aQu c2 ?_;exact aB ⟨rfl,.inr ⟨_,_,_,_,_,rfl,by lia,by lia,⟨by lia,by lia⟩,U,by lia⟩⟩
     ·refine aQv c2 ?_;exact aB ⟨_,_,_,_,_,rfl,rfl,by lia,by lia,⟨by lia,by lia⟩,U,by lia⟩
  ·intro c B zq;refine hd λGq kq=>?_;obtain⟨na',v,d,ac,Y,rfl,rfl,Z,hla',hnb',iv',hsz'⟩:=zq;refine kq ?_;exact⟨rfl,.inr ⟨_,_,_,_,_,rfl,Z,hla',hnb',iv',by lia⟩⟩
  ·rintro c B ⟨rfl,⟨r,hr,q⟩|⟨na1,nb1,out1,ac1,bc1,rfl,hna1,hla1,hnb1,iv1,hsz1⟩⟩
   ·obtain⟨c1,c2⟩:=c;dsimp only at hr;subst hr;exact aB ⟨r,rfl,q⟩
   ·dsimp only;refine ax (hZ (cS ⟨rfl,?_⟩));refine ax (cW (bK (I:=λy c B=>∃ na' v d mg' ac Y g',c=(none,na',v,d,mg',ac,Y)/\B=setG st g'/\1<=na'/\(na'<=a.size/\2<=v/\v<=b.size)/\Iv (rl lt) (a.toList++b.toList) d.toList (a.toList.take na'++b.toList.take v)/\out1.size<=d.size)
     (Q:=λc B=>(∃r,c.fst=some r/\Q r B)\/∃na' v d mg' ac Y g',c=(none,na',v,d,mg',ac,Y)/\B=setG st g'/\1<=na'/\(na'<=a.size/\2<=v/\v<=b.size)/\Iv (rl lt) (a.toList++b.toList) d.toList (a.toList.take na'++b.toList.take v)/\out1.size<=d.size) ?_ ?_ ⟨na1,nb1,out1,_,ac1,bc1,g,rfl,rfl,hna1,⟨hla1,hnb1⟩,iv1,Nat.le_refl _⟩) ?_)
    ·intro y c B _ hy zq;refine hd λGq kq=>?_;obtain⟨na',v,d,mg',ac,Y,g',rfl,rfl,Z,⟨hla',hnb'⟩,iv',hsz'⟩:=zq;refine kq ?_;dsimp only;obtain⟨y1,hy1,L⟩:=aQc (a:=b) (i:=v-1) (by lia)
     have py1:=pb y1 (ao L);have fa:∀i,i<na'->a[0+i]?=some (a.toList.getD (0+i) (.none,.none))/\P (a.toList.getD (0+i) (.none,.none)):=λi hi=>by
      obtain⟨z,hz,D⟩:=aQc (a:=a) (i:=0+i) (by lia)
      rw[ak,D];exact⟨hz,pa z (ao D)⟩
     have mono:∀i j,i<=j->j<na'->bv lt false y1 (a.toList.getD (0+j) (.none,.none))=true->bv lt false y1 (a.toList.getD (0+i) (.none,.none))=true:=λi j hij hj hb=>by
      obtain⟨z,hz,D⟩:=aQc (a:=a) (i:=0+i) (by lia)
      obtain⟨z',hz',hzl'⟩:=aQc (a:=a) (i:=0+j) (by lia)
      rw[ak,hzl'] at hb;rw[ak,D];have hb':lt y1 z'=false:=by simpa [bv] using hb
      show(!lt y1 z)=true;rcases Nat.eq_or_lt_of_le hij with rfl|hlt
      ·rw[D] at hzl';cases hzl';rw[hb'];rfl
      ·rw[o.tr z z' y1 (pa z (ao D)) (pa z' (ao hzl')) py1 (sa.at (by lia) D hzl') hb'];rfl
     clear kq
     revert mg'
     refine dZt (λ_=>rfl) λm2=>?_;refine ax (cH (ax (aZ6 hy1 (ax (bQl o (f:=λi=>a.toList.getD (0+i) (.none,.none)) hk py1 fa mono (by lia) λk k1 k2 k3=>?_)))))
     dsimp only;have ahead:∀u∈a.toList.take k,lt y1 u=false:=λu hu=>by
      obtain⟨j,hj,e⟩:=aQp hu
      have:=k2 j hj
      rw[ak,Nat.zero_add,e] at this;have h1:(!lt y1 u)=true:=this;simpa using h1
     by_cases ck:na'-k>0
     ·refine aQu ck ?_;have iv3:Iv (rl lt) (a.toList++b.toList) (d++(a.extract k na').reverse).toList (a.toList.take k++b.toList.take v):=by
       rw[cg,fq,aZd];refine iv'.backA sa k1 λz hz u hu=>?_;obtain⟨j,hj,D⟩:=aZk hz;have hb:=k3 (k+j) (by lia) (by lia)
       rw[ak,Nat.zero_add,D] at hb;have h1:(!lt y1 z)=false:=hb;have pz:=pa z (ao D)
       have:=bX7 o pb sb pz L (o.as _ _ py1 pz (by simpa using h1))
       rw[show v-1+1=v by lia] at this
       exact this u hu
      have sz3:out1.size<=(d++(a.extract k na').reverse).size:=by rw[dJ];lia
      by_cases c3:(k==0)=true
      ·have k0:k=0:=by simpa using c3
       refine aQu c3 ?_;refine aB (.inl ⟨_,rfl,finG _ _ _ _ ?_ iv3⟩);rw[k0];exact sb.take _
      ·refine aQv c3 ?_;have c3':k≠0:=by simpa using c3
       refine t1 _ _ k v m2 (na'-k) Y m2 (λr c' q=>.inl ⟨r,rfl,q⟩) (λn1 n2 o' a1 b1 q1 q2 q3 q4=>⟨.inr ⟨_,_,_,_,_,_,_,rfl,rfl,q1,q2,q3,by lia⟩,⟨_,_,_,_,_,_,_,rfl,rfl,q1,q2,q3,by lia⟩⟩) (by lia) (by lia) hnb' iv3 λy hy u hu=>?_
       rw[L] at hy;cases hy;exact ahead u hu
     ·refine aQv ck ?_;have ek:k=na':=by lia
      refine t1 _ _ na' v m2 (na'-k) Y m2 (λr c' q=>.inl ⟨r,rfl,q⟩) (λn1 n2 o' a1 b1 q1 q2 q3 q4=>⟨.inr ⟨_,_,_,_,_,_,_,rfl,rfl,q1,q2,q3,by lia⟩,⟨_,_,_,_,_,_,_,rfl,rfl,q1,q2,q3,by lia⟩⟩) Z hla' hnb' iv' λy hy u hu=>?_
      rw[L] at hy;cases hy;exact ahead u (by rw[ek];exact hu)
    ·intro c B zq;refine hd λGq kq=>?_;obtain⟨na',v,d,mg',ac,Y,g',rfl,rfl,Z,hl',iv',hsz'⟩:=zq;refine kq ?_;exact .inr ⟨_,_,_,_,_,_,_,rfl,rfl,Z,hl',iv',hsz'⟩
    ·rintro c B (⟨r,hr,q⟩|⟨na',v,d,mg',ac,Y,g',rfl,rfl,Z,hl',iv',hsz'⟩)
     ·obtain⟨c1,c2⟩:=c;dsimp only at hr;subst hr;exact aB ⟨r,rfl,q⟩
     ·dsimp only;exact ax (cH (aB ⟨_,_,_,_,_,rfl,rfl,Z,hl'.1,hl'.2,iv',by lia⟩))
 ·intro c B zq;refine hd λGq kq=>?_;obtain⟨na,nb,out,mg,g,rfl,rfl,hna,hla,hnb,iv,hsz⟩:=zq;refine kq ?_;exfalso
  have:=iv.size
  rw[sz,aP] at this;lia
 ·rintro c B ⟨r,hr,q⟩;obtain⟨c1,c2⟩:=c;dsimp only at hr;subst hr;exact aB q
end
theorem eXt(i:Nat):mergeAt' i=(do
 let s <- get
 let (some (sa,na,pw),some (sb,nb,_)):=((bH s)[i]?,(bH s)[i+1]?)|eQ "internal:list.sort.pending"
 set (ft s (((bH s).setIfInBounds i (sa,na+nb,pw)).eraseIdxIfInBounds (i+1)))
 let some k <- gal false (<- d0 (aO s) sb) (aO s) sa na 0|return false
 let (sa,na):=(sa+k,na-k)
 if na==0 then return true
 let some nb <- gal true (<- d0 (aO s) (sa+na-1)) (aO s) sb nb (nb-1)|return false
 if nb==0 then return true
 let x:=(aO s).extract sa sb
 let y:=(aO s).extract sb (sb+nb)
 let m <- if na<=nb then mLo x y else mHi x y
 modify λs=>cz s (m.toList.zipIdx.foldl (λa (p,j)=>a.setIfInBounds (sa+j) p) (aO s))
 return (fo (<- get)).isNone):=rfl
theorem dJd{M:Model}{A:a8}{E:ad->ah->Prop}{s:ah}{σ:Type}{st st':σ}{Q:PUnit->σ->Prop}(h:Q ⟨⟩ st'):wpS M A E s (set st':StateT σ Sem PUnit) Q st:=by
 unfold wpS;show aH M A (pure (PUnit.unit,st'):Sem (PUnit×σ)) _ E s;exact ae ⟨rfl,h⟩
theorem cQ7(off:Nat):∀(M:List aJ) (k:Nat) (xs:Array aJ),off+k+M.length<=xs.size->((M.zipIdx k).foldl (λa pj=>a.setIfInBounds (off+pj.2) pj.1) xs).toList=xs.toList.take (off+k)++M++xs.toList.drop (off+k+M.length)
 |[],k,xs,h=>by simp
 |x::M,k,xs,h=>by
  rw[List.zipIdx_cons,List.foldl_cons,cQ7 off M (k+1) _ (by simp at h ⊢;lia)]
  simp only[h9];rw[bA] at h ⊢;have i:off+k<xs.toList.length:=by simp;lia
  rw[show off+(k+1)=off+k+1 by lia,List.take_set,List.drop_set_of_lt (by lia),List.set_eq_take_append_cons_drop]
  have d:(off+k)<(xs.toList.take (off+k+1)).length:=by rw[aQ];lia
  rw[if_pos d,List.take_take,Nat.min_eq_left (by lia),bG (by rw[aQ];lia)]
  simp[aU,show off+k+1+M.length=off+k+(M.length+1) by lia]
section
variable{prog:aF}{w:aR}{A:a8}{E:ad->ah->Prop}{s:ah}{κ:eN}{P:aJ->Prop}{lt:aJ->aJ->Bool}
theorem eXu(o:Orc prog w A s κ P lt){st:cG}{i sa na pw sb nb pw':Nat}{L1 Aa Bb L2:List aJ}{Q:Bool->cG->Prop}(hk:kindOf st=κ)(hf:fo st=none)(hp1:(bH st)[i]?=some (sa,na,pw))(hp2:(bH st)[i+1]?=some (sb,nb,pw'))
  (hsb:sb=sa+na) (hl:(aO st).toList=L1++(Aa++(Bb++L2))) (l1:L1.length=sa) (lA:Aa.length=na) (lB:Bb.length=nb) (na1:1<=na) (nb1:1<=nb) (PA:∀x∈Aa,P x) (PB:∀x∈Bb,P x) (sA:Sd lt Aa) (sB:Sd lt Bb)
  (h:∀C g xs,xs.toList=L1++(C++L2)->Sd lt C->C.Perm (Aa++Bb)->Q true (hX κ xs (((bH st).setIfInBounds i (sa,na+nb,pw)).eraseIdxIfInBounds (i+1)) g none)):wpS (aE prog w) A E s (mergeAt' i) Q st:=by
 have hsz:(aO st).size=sa+na+nb+L2.length:=by
  have:=congrArg gz hl
  simp only[aP,aG] at this;lia
 have atA:∀j x,Aa[j]?=some x->(aO st)[sa+j]?=some x:=λj x d=>by
  have hjl:=(aA.mp d).1;rw[<- aN,hl,bU (by lia),l1,Nat.add_sub_cancel_left,dA hjl];exact d
 have atB:∀j x,Bb[j]?=some x->(aO st)[sb+j]?=some x:=λj x d=>by
  have hjl:=(aA.mp d).1;rw[<- aN,hl,bU (by lia),l1,bU (by lia),lA,dA (by lia)]
  rw[show sb+j-sa-na=j by lia];exact d
 have O:∀j,j<na->∃x,Aa[j]?=some x:=λj d=>⟨Aa[j],ag (by lia)⟩
 have N:∀j,j<nb->∃x,Bb[j]?=some x:=λj d=>⟨Bb[j],ag (by lia)⟩
 obtain⟨b0,hb0⟩:=N 0 nb1;have pb0:=PB b0 (ao hb0);rw[eXt];refine ax (gN ?_);rw[hp1,hp2];dsimp only;refine ax (dJd ?_);have Z:kindOf (ft st (((bH st).setIfInBounds i (sa,na+nb,pw)).eraseIdxIfInBounds (i+1)))=κ:=hk;have est:∀g xs,cz (setG (ft st (((bH st).setIfInBounds i (sa,na+nb,pw)).eraseIdxIfInBounds (i+1))) g) xs=hX κ xs (((bH st).setIfInBounds i (sa,na+nb,pw)).eraseIdxIfInBounds (i+1)) g none:=λg xs=>by
  show hX (kindOf st) xs _ g (fo st)=_;rw[hk,hf]
 refine ax (aZ6 (x:=b0) (by have:=atB 0 b0 hb0;rwa [Nat.add_zero] at this) (ax (bQl o (f:=λj=>Aa.getD j (.none,.none)) Z pb0 (λj d=>?_) (λj j' hjj d hb=>?_) (by lia) λk k1 k2 k3=>?_)))
 ·obtain⟨x,D⟩:=O j d;rw[ak,D];exact⟨atA j x D,PA x (ao D)⟩
 ·obtain⟨z,hz⟩:=O j (by lia)
  obtain⟨z',hz'⟩:=O j' d;rw[ak,hz'] at hb;rw[ak,hz];have hb':lt b0 z'=false:=by simpa [bv] using hb
  show(!lt b0 z)=true;rcases Nat.eq_or_lt_of_le hjj with rfl|hlt
  ·rw[hz] at hz';cases hz';rw[hb'];rfl
  ·rw[o.tr z z' b0 (PA z (ao hz)) (PA z' (ao hz')) pb0 (sA.at hlt hz hz') hb'];rfl
 have Y:∀u∈Aa.take k,∀v∈Bb,lt v u=false:=λu J v L=>by
  obtain⟨j,d,e⟩:=aQp J
  have:=k2 j d
  rw[ak,e] at this;have h1:(!lt b0 u)=true:=this;exact bX6 o PB sB (i:=0) (PA u (ao e)) hb0 (by simpa using h1) v L
 have upA:∀u∈Aa.drop k,lt u b0=false:=λu J=>by
  obtain⟨j,d,e⟩:=aQn J;have hjl:=(aA.mp e).1
  have:=k3 j d (by lia)
  rw[ak,e] at this;have h1:(!lt b0 u)=false:=this;exact o.as _ _ pb0 (PA u (ao e)) (by simpa using h1)
 dsimp only;have whole:∀g,Sd lt (Aa++Bb)->Q true (setG (ft st (((bH st).setIfInBounds i (sa,na+nb,pw)).eraseIdxIfInBounds (i+1))) g):=λg hs=>by
  have:=h (Aa++Bb) g (aO st) (by rw[hl,aU]) hs (db _)
  rw[<- est g (aO st)] at this;exact this
 by_cases c1:(na-k==0)=true
 ·rw[if_pos c1];have kn:k=na:=by
   have:na-k=0:=by simpa using c1
   lia
  refine aB (whole _ (a9.mpr ⟨sA,sB,λu J v L=>Y u ?_ v L⟩));rw[kn,<- lA,dG];exact J
 rw[if_neg c1];have c1':na-k≠0:=by simpa using c1
 obtain⟨al,hal⟩:=O (na-1) (by lia)
 have pal:=PA al (ao hal);refine ax (aZ6 (x:=al) (by have:=atA _ al hal;rwa [show sa+k+(na-k)-1=sa+(na-1) by lia]) (ax (bQl o (f:=λj=>Bb.getD j (.none,.none)) Z pal (λj d=>?_) (λj j' hjj d hb=>?_) (by lia) λm m1 m2 m3=>?_)))
 ·obtain⟨x,D⟩:=N j d;rw[ak,D];exact⟨atB j x D,PB x (ao D)⟩
 ·obtain⟨z,hz⟩:=N j (by lia)
  obtain⟨z',hz'⟩:=N j' d;rw[ak,hz'] at hb;rw[ak,hz];have hb':lt z' al=true:=hb;show lt z al=true;cases e:lt z al with
  |true=>rfl
  |false =>
   exfalso;have pz:=PB z (ao hz);have pz':=PB z' (ao hz');rcases Nat.eq_or_lt_of_le hjj with rfl|hlt
   ·rw[hz] at hz';cases hz';rw[e] at hb';cases hb'
   ·have:=o.tr al z z' pal pz pz' e (sB.at hlt hz hz')
    rw[hb'] at this;cases this
 have upB:∀v∈Bb.drop m,∀u∈Aa,lt v u=false:=λv L u J=>by
  obtain⟨j,d,e⟩:=aQn L;have hjl:=(aA.mp e).1
  have:=m3 j d (by lia)
  rw[ak,e] at this;have h1:lt v al=false:=this
  have:=bX7 o PA sA (PB v (ao e)) hal h1
  rw[show na-1+1=Aa.length by lia,dG] at this
  exact this u J
 have lowB:∀v∈Bb.take m,lt al v=false:=λv L=>by
  obtain⟨j,d,e⟩:=aQp L
  have:=m2 j d
  rw[ak,e] at this;exact o.as _ _ (PB v (ao e)) pal this
 dsimp only
 by_cases c2:(m==0)=true
 ·rw[if_pos c2];have m0:m=0:=by simpa using c2
  refine aB (whole _ (a9.mpr ⟨sA,sB,λu J v L=>upB v ?_ u J⟩));rw[m0];exact L
 rw[if_neg c2];have c2':m≠0:=by simpa using c2
 have ex:((aO st).extract (sa+k) sb).toList=Aa.drop k:=by
  rw[aZd,hl,<- l1,fy,bG (by lia),bN,Nat.add_sub_cancel_left,eR (by lia),cM (by rw[bn];lia)]
  exact br (by rw[bn];lia)
 have ey:((aO st).extract sb (sb+m)).toList=Bb.take m:=by
  rw[aZd,hl,Nat.add_sub_cancel_left,fy,bG (by lia),bN,fy,bG (by lia),bN,show sb-L1.length-Aa.length=0 by lia,fm,cM (by lia)]
 have zx:((aO st).extract (sa+k) sb).size=na-k:=by rw[<- aP,ex,bn,lA]
 have zy:((aO st).extract sb (sb+m)).size=m:=by rw[<- aP,ey,aQ];lia
 have fin:∀ (M:Array aJ) g,Sd lt M.toList->M.toList.Perm (((aO st).extract (sa + k) sb).toList++((aO st).extract sb (sb + m)).toList)->wpS (aE prog w) A E s (do
   modify λs=>cz s (M.toList.zipIdx.foldl (λa U=>a.setIfInBounds (sa+k+U.2) U.1) (aO s))
   let z <- get
   pure (fo z).isNone) Q (setG (ft st (((bH st).setIfInBounds i (sa,na+nb,pw)).eraseIdxIfInBounds (i+1))) g):=λM g hs B=>by
  refine ax (cH (ax (gN (aB ?_))));rw[ex,ey] at B;have ml:=B.length_eq;rw[aG,bn,aQ] at ml;have ll:=cQ7 (sa+k) M.toList 0 (aO st) (by lia)
  have hfn:(fo (cz (setG (ft st (((bH st).setIfInBounds i (sa,na+nb,pw)).eraseIdxIfInBounds (i+1))) g) (M.toList.zipIdx.foldl (λa U=>a.setIfInBounds (sa+k+U.2) U.1) (aO st)))).isNone=true:=by
   show(fo st).isNone=true;rw[hf];rfl
  have main:=h (Aa.take k++(M.toList++Bb.drop m)) g (M.toList.zipIdx.foldl (λa U=>a.setIfInBounds (sa+k+U.2) U.1) (aO st)) ?_ ?_ ?_
  ·rw[<- est g] at main;show Q _ _;have e0:(fo (cz (setG (ft st (((bH st).setIfInBounds i (sa,na+nb,pw)).eraseIdxIfInBounds (i+1))) g) (M.toList.zipIdx.foldl (λa U=>a.setIfInBounds (sa+k+U.2) U.1) (aO st)))).isNone=true:=hfn;exact(e0.symm▸main)
  ·rw[ll,hl];have t1:(L1++(Aa++(Bb++L2))).take (sa+k+0)=L1++Aa.take k:=by
    rw[<- l1,Nat.add_zero,List.take_append,br (by lia),Nat.add_sub_cancel_left,cM (by lia)]
   have t2:(L1++(Aa++(Bb++L2))).drop (sa+k+0+M.toList.length)=Bb.drop m++L2:=by
    rw[fy,bG (by lia),bN,fy,bG (by lia),bN,show sa+k+0+M.toList.length-L1.length-Aa.length=m by lia,eR (by lia)]
   rw[t1,t2];simp only[aU]
  ·have sA':Sd lt (Aa.take k++Aa.drop k):=by rw[bg];exact sA
   have sB':Sd lt (Bb.take m++Bb.drop m):=by rw[bg];exact sB
   obtain⟨a1,_,a3⟩:=a9.mp sA';obtain⟨_,b2,b3⟩:=a9.mp sB';refine a9.mpr ⟨a1,a9.mpr ⟨hs,b2,λu J v L=>?_⟩,λu J v L=>?_⟩
   ·rcases aL.mp (B.mem_iff.mp J) with z|z
    ·exact upB v L u (cV z)
    ·exact b3 u z v L
   ·rcases aL.mp L with z|z
    ·rcases aL.mp (B.mem_iff.mp z) with y|y
     ·exact a3 u J v y
     ·exact Y u J v (bD y)
    ·exact Y u J v (cV z)
  ·have e1:(Aa++Bb)=Aa.take k++(Aa.drop k++(Bb.take m++Bb.drop m)):=by rw[<- aU,bg,bg]
   rw[e1];refine d4 _ ?_;rw[<- aU];exact dQ _ B
 have pX:∀x∈((aO st).extract (sa+k) sb).toList,P x:=λx D=>PA x (cV (by rw[ex] at D;exact D))
 have pY:∀x∈((aO st).extract sb (sb+m)).toList,P x:=λx D=>PB x (bD (by rw[ey] at D;exact D))
 have hF:∀y,((aO st).extract sb (sb+m)).toList[0]?=some y->∀x∈((aO st).extract (sa+k) sb).toList,lt x y=false:=λy hy x D=>by
  rw[ey,fE (by lia),hb0] at hy
  cases hy;rw[ex] at D;exact upA x D
 have hL:∀z,((aO st).extract (sa+k) sb).toList[((aO st).extract (sa+k) sb).size-1]?=some z->∀y∈((aO st).extract sb (sb+m)).toList,lt z y=false:=λz hz y hy=>by
  rw[ex,zx,g7,show k+(na-k-1)=na-1 by lia,hal] at hz
  cases hz;rw[ey] at hy;exact lowB y hy
 have sX:Sd lt ((aO st).extract (sa+k) sb).toList:=by rw[ex];exact sA.drop k
 have sY:Sd lt ((aO st).extract sb (sb+m)).toList:=by rw[ey];exact sB.take m
 by_cases c3:na-k<=m
 ·rw[if_pos c3];exact ax (eXq o Z pX pY sX sY (by lia) (by lia) hF hL λM g hs B=>fin M g hs B)
 ·rw[if_neg c3];exact ax (eXs o Z pX pY sX sY (by lia) (by lia) hF hL λM g hs B=>fin M g hs B)
end
def at0(xs:Array aJ)(i:Nat):aJ:=(xs[i]?).getD (.none,.none)
theorem cXh{xs ys:Array aJ}{i j:Nat}(h:xs[i]?=ys[j]?):at0 xs i=at0 ys j:=by unfold at0;rw[h]
def Gd(lo:Nat)(a xs:Array aJ):Prop:=xs.Perm a/\∀i,i<lo->xs[i]?=a[i]?
theorem Gd.size{lo:Nat}{a xs:Array aJ}(h:Gd lo a xs):xs.size=a.size:=h.1.size_eq
def Up(lt:aJ->aJ->Bool)(xs:Array aJ)(i j:Nat):Prop:=∀p q,i<=p->p<q->q<j->lt (at0 xs q) (at0 xs p)=false
def Dn(lt:aJ->aJ->Bool)(xs:Array aJ)(i j:Nat):Prop:=∀p q,i<=p->p<q->q<j->lt (at0 xs p) (at0 xs q)=false
def Eqs(lt:aJ->aJ->Bool)(xs:Array aJ)(i j:Nat):Prop:=∀p q,i<=p->p<j->i<=q->q<j->lt (at0 xs p) (at0 xs q)=false
theorem aJy{xs:Array aJ}{i j:Nat}(hj:j<=xs.size)(k:Nat):at0 (dz xs i j ((j-i)/2)) k=if i<=k/\k<j then at0 xs (i+j-1-k) else at0 xs k:=by
 have e:=getElem?_mirror_all (i:=i) hj k
 split at e
 ·next h=>rw[if_pos h];exact cXh e
 ·next h=>rw[if_neg h];exact cXh e
theorem Gd.rev{lo i j d:Nat}{a xs:Array aJ}(h:Gd lo a xs)(hi:lo<=i)(hj:j<=xs.size)(hd:d=(j-i)/2):Gd lo a (dz xs i j d):=by
 subst hd;refine⟨(mirror_perm _ _ _ _).trans h.1,λk v=>?_⟩;rw[getElem?_mirror_all hj,if_neg (by lia)]
 exact h.2 k v
section
variable{prog:aF}{w:aR}{A:a8}{E:ad->ah->Prop}{s:ah}{κ:eN}{P:aJ->Prop}{lt:aJ->aJ->Bool}
theorem gd_P{lo:Nat}{a xs:Array aJ}(h:Gd lo a xs)(PA:∀x∈a.toList,P x){i:Nat}(hi:i<a.size):xs[i]?=some (at0 xs i)/\P (at0 xs i):=by
 have d:i<xs.size:=by rw[h.size];exact hi
 have e:xs[i]?=some xs[i]:=getElem?_pos _ i d;have j:at0 xs i=xs[i]:=by unfold at0;rw[e];rfl
 rw[j];exact⟨e,PA _ ((cI.mp h.1).mem_iff.mp (by simp))⟩
theorem aZ7(o:Orc prog w A s κ P lt){st:cG}{xs:Array aJ}{lo i j:Nat}{Q:Option Bool->cG->Prop}(hk:kindOf st=κ)(PA:∀x∈(aO st).toList,P x)(g:Gd lo (aO st) xs)(hi:i<(aO st).size)(hj:j<(aO st).size)(h:Q (some (lt (at0 xs i) (at0 xs j))) (cz st xs)) :
  wpS (aE prog w) A E s (ltAt' i j) Q (cz st xs):=by
 rw[ltAt'_eq];refine ax (gN ?_);obtain⟨z,d⟩:=gd_P g PA hi;obtain⟨v,p2⟩:=gd_P g PA hj;exact ax (aZ6 z (ax (aZ6 v (cXf o hk d p2 h))))
theorem irr(o:Orc prog w A s κ P lt){x:aJ}(hx:P x):lt x x=false:=by
 cases e:lt x x with
 |false=>rfl
 |true=>exact absurd (e.symm.trans (o.as x x hx hx e)) (by decide)
variable{st:cG}{xs:Array aJ}{lo:Nat}
theorem Up.more(o:Orc prog w A s κ P lt){i j:Nat}(hP:∀p,p<=j->P (at0 xs p))(h:Up lt xs i j)(hij:i<j)(e:lt (at0 xs j) (at0 xs (j-1))=false):Up lt xs i (j+1):=λp q h1 h2 d=>by
 rcases Nat.lt_or_ge q j with z|z
 ·exact h p q h1 h2 z
 ·have:q=j:=by lia
  subst this;rcases Nat.lt_or_ge p (q-1) with y|y
  ·exact o.tr _ _ _ (hP p (by lia)) (hP (q-1) (by lia)) (hP q (by lia)) (h p (q-1) h1 y (by lia)) e
  ·have:p=q-1:=by lia
   rw[this];exact e
theorem Dn.more(o:Orc prog w A s κ P lt){i j:Nat}(hP:∀p,p<=j->P (at0 xs p))(h:Dn lt xs i j)(hij:i<j)(e:lt (at0 xs (j-1)) (at0 xs j)=false):Dn lt xs i (j+1):=λp q h1 h2 d=>by
 rcases Nat.lt_or_ge q j with z|z
 ·exact h p q h1 h2 z
 ·have:q=j:=by lia
  subst this;rcases Nat.lt_or_ge p (q-1) with y|y
  ·exact o.tr _ _ _ (hP q (by lia)) (hP (q-1) (by lia)) (hP p (by lia)) e (h p (q-1) h1 y (by lia))
  ·have:p=q-1:=by lia
   rw[this];exact e
theorem Dn.rev{i j d:Nat}(h:Dn lt xs i j)(hj:j<=xs.size)(hd:d=(j-i)/2):Up lt (dz xs i j d) i j:=λp q h1 h2 v=>by
 subst hd;rw[aJy hj,aJy hj,if_pos ⟨by lia,by lia⟩,if_pos ⟨by lia,by lia⟩]
 exact h _ _ (by lia) (by lia) (by lia)
theorem Dn.eqs{i j c d:Nat}(h:Dn lt xs i j)(hc:i<=c)(he:Eqs lt xs c j)(hj:j<=xs.size)(hd:d=(j-c)/2):Dn lt (dz xs c j d) i j:=λp q h1 h2 v=>by
 subst hd;rw[aJy hj,aJy hj]
 by_cases a1:c<=p/\p<j
 ·rw[if_pos a1,if_pos ⟨by lia,by lia⟩]
  exact he _ _ (by lia) (by lia) (by lia) (by lia)
 ·rw[if_neg a1]
  by_cases a2:c<=q/\q<j
  ·rw[if_pos a2];exact h _ _ h1 (by lia) (by lia)
  ·rw[if_neg a2];exact h _ _ h1 h2 v
theorem eXv(o:Orc prog w A s κ P lt){nrem:Nat}{Q:Option Nat->cG->Prop}(hk:kindOf st=κ)(PA:∀x∈(aO st).toList,P x)(hn:1<=nrem)(hs:lo+nrem<=(aO st).size)
  (h:∀n xs,1<=n->n<=nrem->Gd lo (aO st) xs->Up lt xs lo (lo+n)->Q (some n) (cz st xs)):wpS (aE prog w) A E s (countRun' lo nrem) Q st:=by
 have B:∀ {xs},Gd lo (aO st) xs->∀ p,p < (aO st).size->P (at0 xs p):=λg p D=>(gd_P g PA D).2;rw[countRun'_eq];dsimp only;have est:st=cz st (aO st):=rfl;have g0:Gd lo (aO st) (aO st):=⟨je _,λ_ _=>rfl⟩;refine ax (cW (bK (I:=λx c d=>d=cz st (aO st)/\c=(none,x)/\1<=x/\Up lt (aO st) lo (lo + x))
  (Q:=λc d=>d=cz st (aO st)/\∃n,c=(none,n)/\1<=n/\n<=nrem/\Up lt (aO st) lo (lo+n)/\(n<nrem->lt (at0 (aO st) (lo+n)) (at0 (aO st) (lo+n-1))=true)) ?_ ?_ ⟨est,rfl,Nat.le_refl _,λp q _ _ _=>by lia⟩) ?_)
 ·rintro x c d _ hx ⟨rfl,rfl,h1,v⟩;dsimp only;refine ax (aZ7 o (i:=lo+x) (j:=lo+x-1) hk PA g0 (by lia) (by lia) ?_)
  dsimp only;cases e:lt (at0 (aO st) (lo+x)) (at0 (aO st) (lo+x-1)) with
  |true=>rw[if_pos rfl];exact aB ⟨rfl,x,rfl,h1,by lia,v,λ_=>e⟩
  |false=>rw[if_neg (by simp)];exact aB ⟨rfl,rfl,by lia,Up.more o (i:=lo) (j:=lo+x) (λp D=>B g0 p (by lia)) v (by lia) e⟩
 ·rintro c d ⟨rfl,rfl,h1,v⟩;refine⟨rfl,_,rfl,by lia,by lia,v,λz=>by lia⟩
 ·rintro c d ⟨rfl,n,rfl,L,J,v,hlt⟩;dsimp only
  by_cases c0:(n==nrem)=true
  ·rw[if_pos c0];exact aB (h n _ L J g0 v)
  rw[if_neg c0];have c0':n<nrem:=by
   have:n≠nrem:=by simpa using c0
   lia
  have hlt':=hlt c0';have pp:∀p,p<=lo+n->P (at0 (aO st) p):=λp D=>B g0 p (by lia)
  have hle:=o.as _ _ (pp _ (Nat.le_refl _)) (pp _ (by lia)) hlt'
  by_cases cn:n>1
  ·rw[if_pos cn];refine ax (aZ7 o (i:=lo) (j:=lo+n-1) hk PA g0 (by lia) (by lia) ?_)
   dsimp only;cases e:lt (at0 (aO st) lo) (at0 (aO st) (lo+n-1)) with
   |true=>rw[if_pos rfl];exact aB (h n _ L J g0 v)
   |false =>
    rw[if_neg (by simp),cX]
    have down:∀p,lo<=p->p<lo+n->lt (at0 (aO st) p) (at0 (aO st) (lo+n-1))=false:=λp h1 h2=>by
     rcases Nat.eq_or_lt_of_le h1 with rfl|h1
     ·exact e
     ·exact o.tr _ _ _ (pp _ (by lia)) (pp _ (by lia)) (pp _ (by lia)) e (v lo p (Nat.le_refl _) h1 h2)
    have dn:Dn lt (aO st) lo (lo+n):=λp q h1 h2 Y=>by
     rcases Nat.eq_or_lt_of_le (show q<=lo+n-1 by lia) with z|z
     ·rw[z];exact down p h1 (by lia)
     ·exact o.tr _ _ _ (pp _ (by lia)) (pp _ (by lia)) (pp _ (by lia)) (v q (lo+n-1) (by lia) z (by lia)) (down p h1 (by lia))
    have eqs:Eqs lt (aO st) lo (lo+n):=λp q h1 h2 Y h4=>by
     rcases Nat.lt_trichotomy p q with z|z|z
     ·exact dn p q h1 z h4
     ·subst z;exact irr o (pp _ (by lia))
     ·exact v q p Y z h2
    have g2:Gd lo (aO st) (dz (aO st) lo (lo+n) ((lo+n-lo)/2)):=g0.rev (Nat.le_refl _) (by lia) rfl
    have hd:Dn lt (dz (aO st) lo (lo+n) ((lo+n-lo)/2)) lo (lo+(n+1)):=by
     refine Dn.more o (i:=lo) (j:=lo+n) (λp D=>B g2 p (by lia)) (dn.eqs (Nat.le_refl _) eqs (by lia) rfl) (by lia) ?_
     have Z:=aJy (xs:=aO st) (i:=lo) (j:=lo+n) (by lia)
     rw[Z,Z,if_pos ⟨by lia,by lia⟩,if_neg (by lia)]
     exact o.tr _ _ _ (pp _ (by lia)) (pp (lo+n-1) (by lia)) (pp _ (by lia)) hle (down _ (by lia) (by lia))
    have J:=c0';refine ax (cH ?_);change wpS _ _ _ _ _ _ (cz st (dz (aO st) lo (lo+n) ((lo+n-lo)/2)))
    rename Gd lo (aO st) (dz (aO st) lo (lo+n) ((lo+n-lo)/2))=>g
    generalize dz (aO st) lo (lo + n) ((lo + n - lo) / 2)=xs at g hd ⊢;refine ax (hZ (cS ⟨rfl,?_⟩));refine ax (cW (bK (I:=λx c d=>∃ xs q,d=cz st xs/\c=(none,x,q)/\2<=x/\q + 1<=x/\Gd lo (aO st) xs/\Dn lt xs lo (lo + x)/\Eqs lt xs (lo + x - (q + 1)) (lo + x))
     (Q:=λc d=>∃ xs n q,d=cz st xs/\c=(none,n,q)/\1<=n/\n<=nrem/\q + 1<=n/\Gd lo (aO st) xs/\Dn lt xs lo (lo + n)/\Eqs lt xs (lo + n - (q + 1)) (lo + n)) ?_ ?_ ⟨xs,0,rfl,rfl,by lia,by lia,g,hd,λp q h1 h2 Y h4=>by
      have:p=q:=by lia
      subst this;exact irr o (B g p (by lia))⟩) ?_)
    ·rintro x c d _ hx ⟨xs,q,rfl,rfl,x2,U,g,hd,he⟩;have hxs:xs.size=(aO st).size:=g.size;dsimp only;refine ax (aZ7 o (i:=lo+x) (j:=lo+x-1) hk PA g (by lia) (by lia) ?_)
     dsimp only;cases e:lt (at0 xs (lo+x)) (at0 xs (lo+x-1)) with
     |true =>
      rw[if_pos rfl];have e2:=o.as _ _ (B g _ (by lia)) (B g _ (by lia)) e
      have one:∀ys,Gd lo (aO st) ys->Eqs lt ys (lo+(x+1)-(0+1)) (lo+(x+1)):=λys g' p q h1 h2 Y h4=>by
       have:p=q:=by lia
       subst this;exact irr o (B g' p (by lia))
      by_cases O:q>0
      ·rw[if_pos O,cX];have hd2:(lo+x-(lo+x-(q+1)))/2=(lo+x-(lo+x-(q+1)))/2:=rfl;have g2:Gd lo (aO st) (dz xs (lo+x-(q+1)) (lo+x) ((lo+x-(lo+x-(q+1)))/2)):=g.rev (by lia) (by lia) rfl
       have d2:Dn lt (dz xs (lo+x-(q+1)) (lo+x) ((lo+x-(lo+x-(q+1)))/2)) lo (lo+x):=hd.eqs (by lia) he (by lia) rfl
       refine ax (cH (aB ⟨_,0,rfl,rfl,by lia,by lia,g2,Dn.more o (i:=lo) (j:=lo+x) (λp D=>B g2 p (by lia)) d2 (by lia) ?_,one _ g2⟩))
       have Z:=aJy (xs:=xs) (i:=lo+x-(q+1)) (j:=lo+x) (by lia)
       rw[Z,Z,if_pos ⟨by lia,by lia⟩,if_neg (by lia)]
       exact o.tr (at0 xs (lo+x)) (at0 xs (lo+x-1)) _ (B g _ (by lia)) (B g _ (by lia)) (B g _ (by lia)) e2 (he _ _ (by lia) (by lia) (by lia) (by lia))
      ·rw[if_neg O];exact aB ⟨xs,0,rfl,rfl,by lia,by lia,g,Dn.more o (i:=lo) (j:=lo+x) (λp D=>B g p (by lia)) hd (by lia) e2,one _ g⟩
     |false =>
      rw[if_neg (by simp)]
      refine ax (aZ7 o (i:=lo+x-1) (j:=lo+x) hk PA g (by lia) (by lia) ?_)
      dsimp only;cases e2:lt (at0 xs (lo+x-1)) (at0 xs (lo+x)) with
      |true=>rw[if_pos rfl];exact aB ⟨xs,x,q,rfl,rfl,by lia,by lia,U,g,hd,he⟩
      |false =>
       rw[if_neg (by simp)]
       refine aB ⟨xs,q+1,rfl,rfl,by lia,by lia,g,Dn.more o (i:=lo) (j:=lo+x) (λp D=>B g p (by lia)) hd (by lia) e2,λp r h1 h2 Y h4=>?_⟩
       have pp:∀p,p<=lo+x->P (at0 xs p):=λp D=>B g p (by lia)
       have low:∀p,lo+x-(q+1)<=p->p<lo+x->lt (at0 xs p) (at0 xs (lo+x))=false/\lt (at0 xs (lo+x)) (at0 xs p)=false:=λp a1 a2=>by
        have b1:=he p (lo+x-1) a1 a2 (by lia) (by lia)
        have b2:=he (lo+x-1) p (by lia) (by lia) a1 a2
        exact⟨o.tr _ _ _ (pp _ (by lia)) (pp _ (by lia)) (pp _ (by lia)) e2 b1,o.tr _ _ _ (pp _ (by lia)) (pp _ (by lia)) (pp _ (by lia)) b2 e⟩
       by_cases z1:p=lo+x
       ·by_cases z2:r=lo+x
        ·rw[z1,z2];exact irr o (pp _ (by lia))
        ·rw[z1];exact(low r (by lia) (by lia)).2
       ·by_cases z2:r=lo+x
        ·rw[z2];exact(low p (by lia) (by lia)).1
        ·exact he p r (by lia) (by lia) (by lia) (by lia)
    ·rintro c d ⟨xs,q,rfl,rfl,x2,U,g,hd,he⟩;exact⟨xs,_,q,rfl,rfl,by lia,by lia,U,g,by rwa [show max (n+1) nrem=nrem by lia] at hd ⊢,he⟩
    ·rintro c d ⟨xs,n,q,rfl,rfl,L,J,U,g,hd,he⟩;have hxs:xs.size=(aO st).size:=g.size;dsimp only
     by_cases O:q>0
     ·rw[if_pos O,cX,cX];have g2:Gd lo (aO st) (dz xs (lo+n-(q+1)) (lo+n) ((lo+n-(lo+n-(q+1)))/2)):=g.rev (by lia) (by lia) rfl
      have d2:Dn lt (dz xs (lo+n-(q+1)) (lo+n) ((lo+n-(lo+n-(q+1)))/2)) lo (lo+n):=hd.eqs (by lia) he (by lia) rfl
      have s2:=g2.size;have g3:=g2.rev (i:=lo) (j:=lo+n) (Nat.le_refl _) (by lia) rfl
      have N:=d2.rev (i:=lo) (j:=lo+n) (by lia) rfl
      refine ax (cH (ax (cH ?_)));change wpS _ _ _ _ _ _ (cz st (dz (dz xs (lo + n - (q + 1)) (lo + n) ((lo + n - (lo + n - (q + 1))) / 2)) lo (lo + n) ((lo + n - lo) / 2)));generalize dz (dz xs (lo + n - (q + 1)) (lo + n) ((lo + n - (lo + n - (q + 1))) / 2)) lo (lo + n) ((lo + n - lo) / 2)=zs at g3 N ⊢;refine ax (cW (bK (I:=λx c d=>d=cz st zs/\c=(none,x)/\n<=x/\Up lt (zs) lo (lo + x))
       (Q:=λc d=>d=cz st zs/\∃n,c=(none,n)/\1<=n/\n<=nrem/\Up lt (zs) lo (lo+n)) ?_ ?_ ⟨rfl,rfl,Nat.le_refl _,N⟩) ?_)
      ·rintro x c d _ hx ⟨rfl,rfl,h1,v⟩;dsimp only;refine ax (aZ7 o (i:=lo+x) (j:=lo+x-1) hk PA g3 (by lia) (by lia) ?_)
       dsimp only;cases e:lt (at0 (zs) (lo+x)) (at0 (zs) (lo+x-1)) with
       |true=>rw[if_pos rfl];exact aB ⟨rfl,x,rfl,by lia,by lia,v⟩
       |false=>rw[if_neg (by simp)];exact aB ⟨rfl,rfl,by lia,Up.more o (i:=lo) (j:=lo+x) (λp D=>B g3 p (by lia)) v (by lia) e⟩
      ·rintro c d ⟨rfl,rfl,h1,v⟩;exact⟨rfl,_,rfl,by lia,by lia,v⟩
      ·rintro c d ⟨rfl,n,rfl,L,J,v⟩;exact aB (h n (zs) L J g3 v)
     ·rw[if_neg O,cX];have g3:=g.rev (i:=lo) (j:=lo+n) (Nat.le_refl _) (by lia) rfl
      have N:=hd.rev (i:=lo) (j:=lo+n) (by lia) rfl
      refine ax (cH ?_);change wpS _ _ _ _ _ _ (cz st (dz xs lo (lo + n) ((lo + n - lo) / 2)));generalize dz xs lo (lo + n) ((lo + n - lo) / 2)=zs at g3 N ⊢;refine ax (cW (bK (I:=λx c d=>d=cz st zs/\c=(none,x)/\n<=x/\Up lt (zs) lo (lo + x))
       (Q:=λc d=>d=cz st zs/\∃n,c=(none,n)/\1<=n/\n<=nrem/\Up lt (zs) lo (lo+n)) ?_ ?_ ⟨rfl,rfl,Nat.le_refl _,N⟩) ?_)
      ·rintro x c d _ hx ⟨rfl,rfl,h1,v⟩;dsimp only;refine ax (aZ7 o (i:=lo+x) (j:=lo+x-1) hk PA g3 (by lia) (by lia) ?_)
       dsimp only;cases e:lt (at0 (zs) (lo+x)) (at0 (zs) (lo+x-1)) with
       |true=>rw[if_pos rfl];exact aB ⟨rfl,x,rfl,by lia,by lia,v⟩
       |false=>rw[if_neg (by simp)];exact aB ⟨rfl,rfl,by lia,Up.more o (i:=lo) (j:=lo+x) (λp D=>B g3 p (by lia)) v (by lia) e⟩
      ·rintro c d ⟨rfl,rfl,h1,v⟩;exact⟨rfl,_,rfl,by lia,by lia,v⟩
      ·rintro c d ⟨rfl,n,rfl,L,J,v⟩;exact aB (h n (zs) L J g3 v)
  ·rw[if_neg cn];have e1:n=1:=by lia
   subst e1;have hd:Dn lt (aO st) lo (lo+(1+1)):=λp q h1 h2 Y=>by
    have ep:p=lo:=by lia
    have eq:q=lo+1:=by lia
    rw[ep,eq];exact hle
   have J:=c0';have g:=g0;refine ax (hZ (cS ⟨rfl,?_⟩));refine ax (cW (bK (I:=λx c d=>∃ xs q,d=cz st xs/\c=(none,x,q)/\2<=x/\q + 1<=x/\Gd lo (aO st) xs/\Dn lt xs lo (lo + x)/\Eqs lt xs (lo + x - (q + 1)) (lo + x))
    (Q:=λc d=>∃ xs n q,d=cz st xs/\c=(none,n,q)/\1<=n/\n<=nrem/\q + 1<=n/\Gd lo (aO st) xs/\Dn lt xs lo (lo + n)/\Eqs lt xs (lo + n - (q + 1)) (lo + n)) ?_ ?_ ⟨aO st,0,rfl,rfl,by lia,by lia,g,hd,λp q h1 h2 Y h4=>by
     have:p=q:=by lia
     subst this;exact irr o (B g p (by lia))⟩) ?_)
   ·rintro x c d _ hx ⟨xs,q,rfl,rfl,x2,U,g,hd,he⟩;have hxs:xs.size=(aO st).size:=g.size;dsimp only;refine ax (aZ7 o (i:=lo+x) (j:=lo+x-1) hk PA g (by lia) (by lia) ?_)
    dsimp only;cases e:lt (at0 xs (lo+x)) (at0 xs (lo+x-1)) with
    |true =>
     rw[if_pos rfl];have e2:=o.as _ _ (B g _ (by lia)) (B g _ (by lia)) e
     have one:∀ys,Gd lo (aO st) ys->Eqs lt ys (lo+(x+1)-(0+1)) (lo+(x+1)):=λys g' p q h1 h2 Y h4=>by
      have:p=q:=by lia
      subst this;exact irr o (B g' p (by lia))
     by_cases O:q>0
     ·rw[if_pos O,cX];have hd2:(lo+x-(lo+x-(q+1)))/2=(lo+x-(lo+x-(q+1)))/2:=rfl;have g2:Gd lo (aO st) (dz xs (lo+x-(q+1)) (lo+x) ((lo+x-(lo+x-(q+1)))/2)):=g.rev (by lia) (by lia) rfl
      have d2:Dn lt (dz xs (lo+x-(q+1)) (lo+x) ((lo+x-(lo+x-(q+1)))/2)) lo (lo+x):=hd.eqs (by lia) he (by lia) rfl
      refine ax (cH (aB ⟨_,0,rfl,rfl,by lia,by lia,g2,Dn.more o (i:=lo) (j:=lo+x) (λp D=>B g2 p (by lia)) d2 (by lia) ?_,one _ g2⟩))
      have Z:=aJy (xs:=xs) (i:=lo+x-(q+1)) (j:=lo+x) (by lia)
      rw[Z,Z,if_pos ⟨by lia,by lia⟩,if_neg (by lia)]
      exact o.tr (at0 xs (lo+x)) (at0 xs (lo+x-1)) _ (B g _ (by lia)) (B g _ (by lia)) (B g _ (by lia)) e2 (he _ _ (by lia) (by lia) (by lia) (by lia))
     ·rw[if_neg O];exact aB ⟨xs,0,rfl,rfl,by lia,by lia,g,Dn.more o (i:=lo) (j:=lo+x) (λp D=>B g p (by lia)) hd (by lia) e2,one _ g⟩
    |false =>
     rw[if_neg (by simp)]
     refine ax (aZ7 o (i:=lo+x-1) (j:=lo+x) hk PA g (by lia) (by lia) ?_)
     dsimp only;cases e2:lt (at0 xs (lo+x-1)) (at0 xs (lo+x)) with
     |true=>rw[if_pos rfl];exact aB ⟨xs,x,q,rfl,rfl,by lia,by lia,U,g,hd,he⟩
     |false =>
      rw[if_neg (by simp)]
      refine aB ⟨xs,q+1,rfl,rfl,by lia,by lia,g,Dn.more o (i:=lo) (j:=lo+x) (λp D=>B g p (by lia)) hd (by lia) e2,λp r h1 h2 Y h4=>?_⟩
      have pp:∀p,p<=lo+x->P (at0 xs p):=λp D=>B g p (by lia)
      have low:∀p,lo+x-(q+1)<=p->p<lo+x->lt (at0 xs p) (at0 xs (lo+x))=false/\lt (at0 xs (lo+x)) (at0 xs p)=false:=λp a1 a2=>by
       have b1:=he p (lo+x-1) a1 a2 (by lia) (by lia)
       have b2:=he (lo+x-1) p (by lia) (by lia) a1 a2
       exact⟨o.tr _ _ _ (pp _ (by lia)) (pp _ (by lia)) (pp _ (by lia)) e2 b1,o.tr _ _ _ (pp _ (by lia)) (pp _ (by lia)) (pp _ (by lia)) b2 e⟩
      by_cases z1:p=lo+x
      ·by_cases z2:r=lo+x
       ·rw[z1,z2];exact irr o (pp _ (by lia))
       ·rw[z1];exact(low r (by lia) (by lia)).2
      ·by_cases z2:r=lo+x
       ·rw[z2];exact(low p (by lia) (by lia)).1
       ·exact he p r (by lia) (by lia) (by lia) (by lia)
   ·rintro c d ⟨xs,q,rfl,rfl,x2,U,g,hd,he⟩;exact⟨xs,_,q,rfl,rfl,by lia,by lia,U,g,by rwa [show max (1+1) nrem=nrem by lia] at hd ⊢,he⟩
   ·rintro c d ⟨xs,n,q,rfl,rfl,L,J,U,g,hd,he⟩;have hxs:xs.size=(aO st).size:=g.size;dsimp only
    by_cases O:q>0
    ·rw[if_pos O,cX,cX];have g2:Gd lo (aO st) (dz xs (lo+n-(q+1)) (lo+n) ((lo+n-(lo+n-(q+1)))/2)):=g.rev (by lia) (by lia) rfl
     have d2:Dn lt (dz xs (lo+n-(q+1)) (lo+n) ((lo+n-(lo+n-(q+1)))/2)) lo (lo+n):=hd.eqs (by lia) he (by lia) rfl
     have s2:=g2.size;have g3:=g2.rev (i:=lo) (j:=lo+n) (Nat.le_refl _) (by lia) rfl
     have N:=d2.rev (i:=lo) (j:=lo+n) (by lia) rfl
     refine ax (cH (ax (cH ?_)));change wpS _ _ _ _ _ _ (cz st (dz (dz xs (lo + n - (q + 1)) (lo + n) ((lo + n - (lo + n - (q + 1))) / 2)) lo (lo + n) ((lo + n - lo) / 2)));generalize dz (dz xs (lo + n - (q + 1)) (lo + n) ((lo + n - (lo + n - (q + 1))) / 2)) lo (lo + n) ((lo + n - lo) / 2)=zs at g3 N ⊢;refine ax (cW (bK (I:=λx c d=>d=cz st zs/\c=(none,x)/\n<=x/\Up lt (zs) lo (lo + x))
      (Q:=λc d=>d=cz st zs/\∃n,c=(none,n)/\1<=n/\n<=nrem/\Up lt (zs) lo (lo+n)) ?_ ?_ ⟨rfl,rfl,Nat.le_refl _,N⟩) ?_)
     ·rintro x c d _ hx ⟨rfl,rfl,h1,v⟩;dsimp only;refine ax (aZ7 o (i:=lo+x) (j:=lo+x-1) hk PA g3 (by lia) (by lia) ?_)
      dsimp only;cases e:lt (at0 (zs) (lo+x)) (at0 (zs) (lo+x-1)) with
      |true=>rw[if_pos rfl];exact aB ⟨rfl,x,rfl,by lia,by lia,v⟩
      |false=>rw[if_neg (by simp)];exact aB ⟨rfl,rfl,by lia,Up.more o (i:=lo) (j:=lo+x) (λp D=>B g3 p (by lia)) v (by lia) e⟩
     ·rintro c d ⟨rfl,rfl,h1,v⟩;exact⟨rfl,_,rfl,by lia,by lia,v⟩
     ·rintro c d ⟨rfl,n,rfl,L,J,v⟩;exact aB (h n (zs) L J g3 v)
    ·rw[if_neg O,cX];have g3:=g.rev (i:=lo) (j:=lo+n) (Nat.le_refl _) (by lia) rfl
     have N:=hd.rev (i:=lo) (j:=lo+n) (by lia) rfl
     refine ax (cH ?_);change wpS _ _ _ _ _ _ (cz st (dz xs lo (lo + n) ((lo + n - lo) / 2)));generalize dz xs lo (lo + n) ((lo + n - lo) / 2)=zs at g3 N ⊢;refine ax (cW (bK (I:=λx c d=>d=cz st zs/\c=(none,x)/\n<=x/\Up lt (zs) lo (lo + x))
      (Q:=λc d=>d=cz st zs/\∃n,c=(none,n)/\1<=n/\n<=nrem/\Up lt (zs) lo (lo+n)) ?_ ?_ ⟨rfl,rfl,Nat.le_refl _,N⟩) ?_)
     ·rintro x c d _ hx ⟨rfl,rfl,h1,v⟩;dsimp only;refine ax (aZ7 o (i:=lo+x) (j:=lo+x-1) hk PA g3 (by lia) (by lia) ?_)
      dsimp only;cases e:lt (at0 (zs) (lo+x)) (at0 (zs) (lo+x-1)) with
      |true=>rw[if_pos rfl];exact aB ⟨rfl,x,rfl,by lia,by lia,v⟩
      |false=>rw[if_neg (by simp)];exact aB ⟨rfl,rfl,by lia,Up.more o (i:=lo) (j:=lo+x) (λp D=>B g3 p (by lia)) v (by lia) e⟩
     ·rintro c d ⟨rfl,rfl,h1,v⟩;exact⟨rfl,_,rfl,by lia,by lia,v⟩
     ·rintro c d ⟨rfl,n,rfl,L,J,v⟩;exact aB (h n (zs) L J g3 v)
end
theorem bub_at{xs:Array aJ}{src d:Nat}(hs:src<xs.size)(hd:d<=src)(k:Nat) :
  at0 (bubble xs src d) k=if k=src-d then at0 xs src else if src-d<k/\k<=src then at0 xs (k-1) else at0 xs k:=by
 have e:=getElem?_bubble hs d hd k
 by_cases h1:k=src-d
 ·rw[if_pos h1] at e ⊢;exact cXh e
 ·rw[if_neg h1] at e ⊢
  by_cases h2:src-d<k/\k<=src
  ·rw[if_pos h2] at e ⊢;exact cXh e
  ·rw[if_neg h2] at e ⊢;exact cXh e
section
variable{prog:aF}{w:aR}{A:a8}{E:ad->ah->Prop}{s:ah}{κ:eN}{P:aJ->Prop}{lt:aJ->aJ->Bool}{st:cG}{lo:Nat}
theorem eXw(o:Orc prog w A s κ P lt){n ok:Nat}{Q:Bool->cG->Prop}(hk:kindOf st=κ)(PA:∀x∈(aO st).toList,P x)(hs:lo+n<=(aO st).size)(hok:ok<=n)(hu:Up lt (aO st) lo (lo+ok))
  (h:∀xs,Gd lo (aO st) xs->Up lt xs lo (lo+n)->Q true (cz st xs)):wpS (aE prog w) A E s (binarySort' lo n ok) Q st:=by
 have pP:∀ {xs},Gd lo (aO st) xs->∀ p,p < (aO st).size->P (at0 xs p):=λg p Z=>(gd_P g PA Z).2;have g0:Gd lo (aO st) (aO st):=⟨je _,λ_ _=>rfl⟩;rw[binarySort'_eq];refine ax (cW (bK (I:=λk c v=>∃ xs,v=cz st xs/\c=(none,())/\Gd lo (aO st) xs/\Up lt xs lo (lo + min k n))
  (Q:=λc v=>∃xs,v=cz st xs/\c=(none,())/\Gd lo (aO st) xs/\Up lt xs lo (lo+n)) ?step ?fin ?init) ?post)
 case post =>
  rintro c v ⟨xs,rfl,rfl,g,hu⟩;exact aB (h xs g hu)
 case init =>
  refine⟨aO st,rfl,rfl,g0,λp q h1 h2 h3=>?_⟩
  by_cases z:ok=0
  ·lia
  ·exact hu p q h1 h2 (by lia)
 case fin =>
  rintro c v ⟨xs,rfl,rfl,g,hu⟩;refine⟨xs,rfl,rfl,g,?_⟩;rwa [show min (max (max ok 1) n) n=n by lia] at hu
 case step =>
  rintro k c v hak hkn ⟨xs,rfl,rfl,g,hu⟩;rw[show min k n=k by lia] at hu
  have hxs:xs.size=(aO st).size:=g.size;have pp:∀p,p<lo+n->P (at0 xs p):=λp Z=>pP g p (by lia)
  dsimp only;refine ax (cW (bK (I:=λx c d=>d=cz st xs/\∃ l r,c=(none,l,r)/\l<=r/\r<=k/\r - l<=k - x /\
    (∀i,i<l->lt (at0 xs (lo+k)) (at0 xs (lo+i))=false)/\(∀i,r<=i->i<k->lt (at0 xs (lo+i)) (at0 xs (lo+k))=false))
   (Q:=λc d=>d=cz st xs/\∃ l r,c=(none,l,r)/\l<=k /\
    (∀i,i<l->lt (at0 xs (lo+k)) (at0 xs (lo+i))=false)/\(∀i,l<=i->i<k->lt (at0 xs (lo+i)) (at0 xs (lo+k))=false)) ?istep ?ifin ?iinit) ?ipost)
  case iinit=>exact⟨rfl,0,k,rfl,by lia,by lia,by lia,λi hi=>by lia,λi h1 h2=>by lia⟩
  case ifin =>
   rintro c d ⟨rfl,l,r,rfl,Y,J,hm,B,D⟩
   have:l=r:=by lia
   subst this;exact⟨rfl,l,l,rfl,J,B,D⟩
  case istep =>
   rintro x c d _ hxk ⟨rfl,l,r,rfl,Y,J,hm,B,D⟩;dsimp only
   by_cases U:l>=r
   ·rw[if_pos U]
    have:l=r:=by lia
    subst this;exact aB ⟨rfl,l,l,rfl,J,B,D⟩
   ·rw[if_neg U];refine ax (aZ7 o hk PA g (i:=lo+k) (j:=lo+(l+r)/2) (by lia) (by lia) ?_)
    dsimp only;cases e:lt (at0 xs (lo+k)) (at0 xs (lo+(l+r)/2)) with
    |true =>
     rw[if_pos rfl];refine aB ⟨rfl,l,(l+r)/2,rfl,by lia,by lia,by lia,B,λi h1 h2=>?_⟩
     have e2:=o.as _ _ (pp _ (by lia)) (pp _ (by lia)) e
     rcases Nat.eq_or_lt_of_le h1 with z|z
     ·rw[<- z];exact e2
     ·exact o.tr _ _ _ (pp _ (by lia)) (pp (lo+(l+r)/2) (by lia)) (pp _ (by lia)) e2 (hu _ _ (by lia) (by lia) (by lia))
    |false =>
     rw[if_neg (by simp)]
     refine aB ⟨rfl,(l+r)/2+1,r,rfl,by lia,by lia,by lia,λi h1=>?_,D⟩
     rcases Nat.eq_or_lt_of_le (show i<=(l+r)/2 by lia) with z|z
     ·rw[z];exact e
     ·exact o.tr _ _ _ (pp _ (by lia)) (pp (lo+(l+r)/2) (by lia)) (pp _ (by lia)) (hu _ _ (by lia) (by lia) (by lia)) e
  case ipost =>
   rintro c d ⟨rfl,l,r,rfl,hlk,B,D⟩;show wpS _ _ _ _ (do moveDown' (lo+k) (lo+l);pure (bq (none,()))) _ _
   rw[moveDown'_eq];have L:lo+k<xs.size:=by lia
   have ed:lo+k-(lo+l)=k-l:=by lia
   refine ax (cH (aB ⟨bubble xs (lo+k) (lo+k-(lo+l)),rfl,rfl,⟨(bubble_perm _ _ _).trans g.1,λi hi=>?_⟩,?_⟩))
   ·rw[getElem?_bubble L _ (by lia),if_neg (by lia),if_neg (by lia)]
    exact g.2 i hi
   ·rw[show min (k+1) n=k+1 by lia]
    intro p q h1 h2 h3;rw[bub_at L (by lia),bub_at L (by lia),show lo+k-(lo+k-(lo+l))=lo+l by lia]
    have N:∀i,lo<=i->i<lo+l->lt (at0 xs (lo+k)) (at0 xs i)=false:=λi a b=>by
     have:=B (i-lo) (by lia)
     rwa [show lo+(i-lo)=i by lia] at this
    have O:∀i,lo+l<=i->i<lo+k->lt (at0 xs i) (at0 xs (lo+k))=false:=λi a b=>by
     have:=D (i-lo) (by lia) (by lia)
     rwa [show lo+(i-lo)=i by lia] at this
    repeat' split
    all_goals first
     |(exfalso;lia)
     |exact N _ (by lia) (by lia)
     |exact O _ (by lia) (by lia)
     |exact hu _ _ (by lia) (by lia) (by lia)
end
def offs:Nat->List (List aJ)->List (Nat×Nat)
 |_,[]=>[]
 |k,s::ss=>(k,s.length)::offs (k+s.length) ss
theorem bZ3:∀k ss,(offs k ss).length=ss.length
 |_,[]=>rfl
 |k,s::ss=>by simp[offs,bZ3]
theorem aJd:∀k (s1 s2:List (List aJ)),offs k (s1++s2)=offs k s1++offs (k+s1.flatten.length) s2
 |k,[],s2=>by simp[offs]
 |k,s::s1,s2=>by simp[offs,aJd,Nat.add_assoc]
def sl(x:Nat×Nat×Nat):Nat×Nat:=(x.1,x.2.1)
structure Pn(κ:eN)(P:aJ->Prop)(lt:aJ->aJ->Bool)(a0:List aJ)(st:cG)(segs:List (List aJ))(rest:List aJ):Prop where
 kind:kindOf st=κ
 fl:fo st=none
 arr:(aO st).toList=segs.flatten++rest
 perm:(aO st).toList.Perm a0
 sd:∀sg∈segs,Sd lt sg/\sg≠[]
 pd:(bH st).toList.map sl=offs 0 segs
section
variable{prog:aF}{w:aR}{A:a8}{E:ad->ah->Prop}{s:ah}{κ:eN}{P:aJ->Prop}{lt:aJ->aJ->Bool}{st:cG}{a0 rest:List aJ}{segs:List (List aJ)}
theorem Pn.psize(h:Pn κ P lt a0 st segs rest):(bH st).size=segs.length:=by
 have:=congrArg gz h.pd
 rwa [am,bZ3,aP] at this
theorem Pn.size(h:Pn κ P lt a0 st segs rest):(aO st).size=a0.length:=by rw[<- aP];exact h.perm.length_eq
theorem Pn.room(h:Pn κ P lt a0 st segs rest):segs.flatten.length+rest.length=a0.length:=by rw[<- aG,<- h.arr];exact h.perm.length_eq
theorem dZv(o:Orc prog w A s κ P lt)(PA:∀x∈a0,P x)(h:Pn κ P lt a0 st segs rest){i:Nat}(hi:i+1<segs.length){Q:Bool->cG->Prop}
  (hq:∀st' segs',Pn κ P lt a0 st' segs' rest->segs'.length+1=segs.length->segs'.flatten.length=segs.flatten.length->Q true st'):wpS (aE prog w) A E s (mergeAt' i) Q st:=by
 obtain⟨S1,d,B,J,rfl,rfl⟩:∃S1 d B J,segs=S1++d::B::J/\S1.length=i:=by
  refine⟨segs.take i,segs[i],segs[i+1],segs.drop (i+2),?_,by rw[aQ];lia⟩
  rw[<- cJ hi,<- cJ (by lia),bg]
 have D:=h.pd;rw[aJd,Nat.zero_add] at D;obtain⟨p1,p2',Y,e2,e3⟩:=List.map_eq_append_iff.mp D;simp only[offs] at e3;obtain⟨x,Z,rfl,ex,e4⟩:=List.map_eq_cons_iff.mp e3;obtain⟨y,p2,rfl,ey,e5⟩:=List.map_eq_cons_iff.mp e4;have v:p1.length=S1.length:=by rw[<- am (f:=sl),e2,bZ3]
 have g1:(bH st)[S1.length]?=some (S1.flatten.length,d.length,x.2.2):=by
  rw[<- aN,Y,<- v,bU (Nat.le_refl _),Nat.sub_self,iP];obtain⟨x1,x2,x3⟩:=x;cases ex;rfl
 have g2:(bH st)[S1.length+1]?=some (S1.flatten.length+d.length,B.length,y.2.2):=by
  rw[<- aN,Y,<- v,bU (by lia),Nat.add_sub_cancel_left,iI,iP]
  obtain⟨y1,y2,y3⟩:=y;cases ey;rfl
 have N:=h.sd d (by simp)
 have sB:=h.sd B (by simp)
 have U:(aO st).toList=S1.flatten++(d++(B++(J.flatten++rest))):=by rw[h.arr];simp
 have pm:∀x∈d++B,P x:=λx j=>PA x (h.perm.mem_iff.mp (by rw[U];simp at j ⊢;grind))
 refine eXu o h.kind h.fl g1 g2 rfl U rfl rfl rfl (dq.mpr N.2) (dq.mpr sB.2) (λx j=>pm x (cC _ j)) (λx j=>pm x (bf _ j)) N.1 sB.1 λC g xs j hC hp=>?_;have L:=hp.length_eq;rw[aG] at L;refine hq _ (S1++C::J) ⟨rfl,rfl,?_,?_,λsg O=>?_,?_⟩ (by simp only[aG,bA];lia) (by simp;lia)
 ·show xs.toList=_;rw[j];simp
 ·show xs.toList.Perm _;refine ju.trans ?_ h.perm;rw[j,U];refine d4 _ ?_
  have:=dQ (J.flatten++rest) hp
  rwa [aU d] at this
 ·rcases aL.mp O with z|z
  ·exact h.sd sg (by simp[z])
  ·rcases aK.mp z with rfl|z
   ·exact⟨hC,λe=>by
     have:=dq.mpr N.2
     rw[e] at L;simp at L;lia⟩
   ·exact h.sd sg (by simp[z])
 ·show(((bH st).setIfInBounds S1.length (S1.flatten.length,d.length+B.length,x.2.2)).eraseIdxIfInBounds (S1.length+1)).toList.map sl=_;rw[Array.toList_eraseIdxIfInBounds,h9,Y,<- v,List.set_append_right _ _ (Nat.le_refl _),Nat.sub_self,List.set_cons_zero,List.eraseIdx_append_of_length_le (by lia),Nat.add_sub_cancel_left,List.eraseIdx_cons_succ,List.eraseIdx_cons_zero,bE,bz,e2,e5,aJd]
  simp[offs,sl,L,Nat.add_assoc]
theorem Pn.next(h:Pn κ P lt a0 st segs rest){xs:Array aJ}{n:Nat}(hn:1<=n)(hs:segs.flatten.length+n<=a0.length)(g:Gd segs.flatten.length (aO st) xs)(hu:Up lt xs segs.flatten.length (segs.flatten.length+n)) :
  ∃sg rest',sg.length=n/\Sd lt sg/\sg≠[]/\Pn κ P lt a0 (cz st xs) segs (sg++rest'):=by
 have J:xs.toList.length=a0.length:=by rw[aP,g.size,h.size]
 have z:xs.toList.take segs.flatten.length=segs.flatten:=by
  have:(aO st).toList.take segs.flatten.length=segs.flatten:=by rw[h.arr,cM (Nat.le_refl _),dG]
  rw[<- this];refine fb λi=>?_;rw[List.getElem?_take,List.getElem?_take,this]
  split
  ·next hi=>rw[aN,aN];exact g.2 i hi
  ·rfl
 refine⟨(xs.toList.drop segs.flatten.length).take n,(xs.toList.drop segs.flatten.length).drop n,by rw[aQ,bn];lia,?_,λe=>?_,h.kind,h.fl,?_,?_,h.sd,h.pd⟩
 ·refine bQ.mpr λi j hi B D=>?_;rw[aQ,bn] at hi B
  have:=hu (segs.flatten.length+i) (segs.flatten.length+j) (by lia) (by lia) (by lia)
  have v:∀k,segs.flatten.length+k<xs.toList.length->∀d,((xs.toList.drop segs.flatten.length).take n)[k]'d=at0 xs (segs.flatten.length+k):=λk h1 d=>by
   rw[fc,fY];unfold at0;rw[<- aN,ag h1]
   rfl
  rw[v i (by lia),v j (by lia)]
  exact this
 ·have:=congrArg gz e
  rw[aQ,bn,dM] at this;lia
 ·show xs.toList=_;rw[bg]
  conv=>lhs;rw[<- bg segs.flatten.length xs.toList,z]
 ·exact(cI.mp g.1).trans h.perm
theorem Pn.push{sg rest':List aJ}(h:Pn κ P lt a0 st segs (sg++rest'))(hs:Sd lt sg)(hne:sg≠[]){lo n:Nat}(hlo:segs.flatten.length=lo)(hn:sg.length=n):Pn κ P lt a0 (ft st ((bH st).push (lo,n,0))) (segs++[sg]) rest':=by
 subst hlo hn;refine⟨h.kind,h.fl,?_,h.perm,λx d=>?_,?_⟩
 ·show(aO st).toList=_;rw[h.arr];simp
 ·rcases aL.mp d with z|z
  ·exact h.sd x z
  ·rw[ay.mp z];exact⟨hs,hne⟩
 ·show((bH st).push _).toList.map sl=_;rw[b7,bE,h.pd,aJd];simp[offs,sl]
theorem Pn.repow(h:Pn κ P lt a0 st segs rest)(i pw:Nat):Pn κ P lt a0 (ft st ((bH st).modify i λx=>(x.1,x.2.1,pw))) segs rest:=by
 refine⟨h.kind,h.fl,h.arr,h.perm,h.sd,?_⟩;show((bH st).modify i _).toList.map sl=_;rw[<- h.pd,Array.toList_modify];refine fb λj=>?_;rw[aT,aT,List.getElem?_modify]
 by_cases c:i=j
 ·simp only[c,if_true];cases (bH st).toList[j]? <;> rfl
 ·simp only[c,if_false];cases (bH st).toList[j]? <;> rfl
theorem cQ8:∀(ss:List (List aJ)),(∀sg∈ss,sg≠[])->ss.length<=ss.flatten.length
 |[],_=>Nat.le_refl _
 |s::ss,h=>by
  have:=cQ8 ss λx d=>h x (.tail _ d)
  have:=dq.mpr (h s (.head _))
  rw[List.flatten_cons,aG,bA];lia
end
section
variable{prog:aF}{w:aR}{A:a8}{E:ad->ah->Prop}{s:ah}{κ:eN}{P:aJ->Prop}{lt:aJ->aJ->Bool}{st:cG}{a0 rest:List aJ}{segs:List (List aJ)}
theorem dJe(o:Orc prog w A s κ P lt)(PA:∀x∈(aO st).toList,P x)(hk:kindOf st=κ)(hf:fo st=none)(hp:bH st=#[]){Q:Unit->cG->Prop}
  (h:∀st',(aO st').toList.Perm (aO st).toList->fo st'=none->Sd lt (aO st').toList->Q () st'):wpS (aE prog w) A E s sortRuns' Q st:=by
 have h0:Pn κ P lt (aO st).toList st [] (aO st).toList:=⟨hk,hf,rfl,db _,λ_ J=>absurd J fw,by rw[hp];rfl⟩
 have pA:∀ {st' segs rest},Pn κ P lt (aO st).toList st' segs rest->∀ x∈(aO st').toList,P x:=λI x J=>PA x (I.perm.mem_iff.mp J);rw[sortRuns'_eq];refine ax (gN ?_);dsimp only;have lz:(aO st).toList.length=(aO st).size:=aP;refine ax (cW (bK
  (I:=λx c st'=>∃segs rest,c=(none,segs.flatten.length)/\Pn κ P lt (aO st).toList st' segs rest/\x<=segs.flatten.length)
  (Q:=λc st'=>∃segs,c=(none,segs.flatten.length)/\Pn κ P lt (aO st).toList st' segs []) ?step ?fin ⟨[],_,rfl,h0,Nat.le_refl _⟩) ?post)
 case fin =>
  rintro c st' ⟨segs,rest,rfl,I,J⟩;have r:=I.room;obtain rfl:rest=[]:=bX (by lia)
  exact⟨segs,rfl,I⟩
 case post =>
  rintro c st' ⟨segs,rfl,I⟩;have r:=I.room;rw[dM] at r;have fl:=cQ8 segs λsg hsg=>(I.sd sg hsg).2;dsimp only;refine ax (cW (bK (I:=λx c st'=>∃ segs,c=(none,())/\Pn κ P lt (aO st).toList st' segs []/\(segs.length<=1\/segs.length + x<=(aO st).size))
   (Q:=λc st'=>∃segs,c=(none,())/\Pn κ P lt (aO st).toList st' segs []/\segs.length<=1) ?_ ?_ ⟨segs,rfl,I,by lia⟩) ?_)
  ·rintro x c st' _ J ⟨segs,rfl,I,hc⟩;refine ax (gN ?_);have hps:=I.psize
   by_cases Y:(bH st').size<=1
   ·rw[if_pos Y];exact aB ⟨segs,rfl,I,by lia⟩
   ·rw[if_neg Y];have hi:∀b:Bool,(if b=true then (bH st').size-2-1 else (bH st').size-2)+1<segs.length:=λb=>by split <;> lia
    refine ax (dZv o PA I (hi _) λB d U l2 _=>?_);exact aB ⟨d,rfl,U,by lia⟩
  ·rintro c st' ⟨segs,rfl,I,hc⟩;exact⟨segs,rfl,I,by lia⟩
  ·rintro c st' ⟨segs,rfl,I,hc⟩;refine aB (h st' I.perm I.fl ?_);rw[I.arr,a7]
   match segs,hc,I with
   |[],_,_=>exact e9
   |[sg],_,I=>rw[dR];exact(I.sd sg (.head _)).1
 case step =>
  rintro x c st' _ J ⟨segs,rest,rfl,I,hxs⟩;have r:=I.room;have sz:=I.size;dsimp only
  by_cases Y:segs.flatten.length>=(aO st).size
  ·rw[if_pos Y];obtain rfl:rest=[]:=bX (by lia)
   exact aB ⟨segs,rfl,I⟩
  rw[if_neg Y];refine ax (eXv o I.kind (pA I) (lo:=segs.flatten.length) (by lia) (by lia) λn xs n1 n2 g hu=>?_)
  dsimp only
  by_cases c2:n<minRun' (aO st).size (aO st).size 0
  rw[if_pos c2];refine ax (hZ (cS ⟨rfl,?_⟩));refine ax (eXw o (st:=cz st' xs) I.kind (λx J=>pA I x ((cI.mp g.1).mem_iff.mp J)) (by have:=g.size;show _<=xs.size;lia) (by lia) hu λys g2 hu2=>?_)
  rw[if_neg (by simp)]
  obtain⟨sg,j,ls,hs,D,U⟩:=I.next (by lia) (by lia) ⟨g2.1.trans g.1,λi hi=>(g2.2 i hi).trans (g.2 i hi)⟩ hu2
  change Pn κ P lt _ (cz (cz st' xs) ys) _ _ at U
  rotate_left
  rw[if_neg c2];obtain⟨sg,j,ls,hs,D,U⟩:=I.next n1 (by lia) g hu
  all_goals
   have lp:=dq.mpr D;refine ax (gN ?_)
   split
   next s1 n1' _ hb =>
    refine ax (cW (bK (I:=λ_ c v=>∃ d,c=(none,())/\Pn κ P lt (aO st).toList v d (sg++j)/\d.flatten.length=segs.flatten.length)
     (Q:=λc v=>∃d,c=(none,())/\Pn κ P lt (aO st).toList v d (sg++j)/\d.flatten.length=segs.flatten.length) ?_ (λ_ _ hh=>hh) ⟨segs,rfl,U,rfl⟩) ?_)
    ·rintro y c B _ hy ⟨d,rfl,O,N⟩;refine ax (gN ?_);have hps:=O.psize
     split
     next Z he =>
      have hgt:(bH B).size>1:=by
       by_cases z:(bH B).size>1
       ·exact z
       ·rw[if_neg z] at he;cases he
      split
      ·exact aB ⟨d,rfl,O,N⟩
      ·refine ax (dZv o PA O (by lia) λst4 L I4 _ l4=>?_)
       exact aB ⟨L,rfl,I4,l4.trans N⟩
     next=>exact aB ⟨d,rfl,O,N⟩
    ·rintro c B ⟨d,rfl,O,N⟩;dsimp only;refine ax (cH (ax (cH (aB ⟨d++[sg],j,?_,(O.repow _ _).push hs D N ls,?_⟩))))
     ·rw[dr,aG,dR,ls,N]
     ·rw[dr,aG,dR,N];lia
   next =>
    refine ax (cH (aB ⟨segs++[sg],j,?_,U.push hs D rfl ls,?_⟩))
    ·rw[dr,aG,dR,ls]
    ·rw[dr,aG,dR];lia
end
theorem aZt{α:Type}:∀{l:List α}{x y:α},(x,y)∈l.zip l->x=y/\x∈l
 |a::l,x,y,h=>by
  rw[eV] at h;rcases aK.mp h with e|h
  ·cases e;exact⟨rfl,.head _⟩
  ·exact⟨(aZt h).1,.tail _ (aZt h).2⟩
section
variable{prog:aF}{w:aR}{A:a8}{E:ad->ah->Prop}{s:ah}
theorem dQp{α:Type}{R:α->α->Prop}:∀l:List α,l.length<2->l.Pairwise R
 |[],_=>.nil
 |[x],_=>a4 _ _
theorem sort_any{a:Addr}{vs:List ad}{n:Nat}{P:gR->ah->Prop}(lt:ad->ad->Bool)(hz:vs.length<=sizeLine)(ho:s.heap.get? a=some (bO "list" vs.toArray n))
  (H:∀h2:bj,(∀b o,b≠a->s.heap.get? b=some o->h2.get? b=some o)->2<=vs.length->∀(Q:eN->ah->Prop),(∀κ,Orc prog w A {s with heap:=h2} κ (λx=>x.1∈vs) (λx y=>lt x.1 y.1)->Q κ {s with heap:=h2})->aH (aE prog w) A (keyKind' vs.toArray) Q E {s with heap:=h2})
  (h:∀xs:Array aJ,xs.Perm (gy vs)->xs.toList.Pairwise (λx y=>lt y.1 x.1=false)->P (.done (.ret .none)) {s with heap:=gu s.heap a vs (xs.map (·.2))}) :
  aH (aE prog w) A (cx.«list.sort» ⟨[.ref a],[]⟩) P E s:=by
 rw[list_sort_plain];have U:a<s.heap.objs.size:=aD ho;refine aa (listItems_at ho rfl ?_);refine aa (listUpdate_at ho rfl ?_ (by rw[ar];exact hz) (Nat.zero_le _))
 obtain⟨z,j⟩:∃z,(s.heap.update a (bI λ_=>#[])).get? a=some (bO "list" #[] z):=⟨_,ef ho (λ_=>#[])⟩;refine aa (seqEpoch_at j rfl ?_);refine aa (wpAny_newTuple ?_ (by show vs.length<=_;exact hz))
 refine aa (iy ?_ (Nat.zero_le _));refine bu ?_;have D:=cv s.heap a (bI λ_=>(#[]:Array ad));have i:(((s.heap.update a (bI λ_=>#[])).push (bO "tuple" vs.toArray 0)).push (bO "list" #[] 0)).get? a=some (bO "list" #[] z):=af _ (af _ j);have kp:∀b o,b≠a->s.heap.get? b=some o->(((s.heap.update a (bI λ_=>#[])).push (bO "tuple" vs.toArray 0)).push (bO "list" #[] 0)).get? b=some o:=λb o N e=>af _ (af _ ((D.2 b N).trans e));show aH (aE prog w) A _ P E {s with heap:=((s.heap.update a (bI λ_=>#[])).push (bO "tuple" vs.toArray 0)).push (bO "list" #[] 0)}
 dsimp only;have v:(gy vs).size=vs.length:=pairsOf_size vs
 by_cases h2:vs.toArray.size<2
 ·rw[if_pos h2,if_pos h2];refine aa (ae ?_);rw[StateT.run_pure];refine aa (ae ?_);dsimp only;refine aa (seqEpoch_at i rfl ?_);refine aa (listUpdate_at i rfl ?_ (Nat.zero_le _) (by rw[jm];show(gy vs).size<=_;rw[v];exact Nat.le_succ_of_le hz))
  simp only[bne_self_eq_false,aM,if_false];refine ae (h (gy vs) (je _) ?_)
  have:(gy vs).toList.length<2:=by rw[aP,v];simpa using h2
  exact dQp _ this
 ·rw[if_neg h2,if_neg h2];refine aa (H _ kp (by simpa using h2) _ fun κ o=>?_)
  refine aa (cK (dJe o (st:=hX κ (vs.toArray.zip vs.toArray) #[] 7 none) (Q:=λ_ d=>(aO d).toList.Perm (gy vs).toList/\fo d=none/\Sd (λx y:aJ=>lt x.1 y.1) (aO d).toList)
   (λx J=>(aZt (x:=x.1) (y:=x.2) (by rw[<- ic];exact J)).2) rfl rfl rfl λd a1 a2 O=>⟨a1,a2,O⟩) ?_ λ_ _ e=>e)
  rintro⟨⟨⟩,d⟩ s' ⟨rfl,B,hf,L⟩;dsimp only;refine aa (seqEpoch_at i rfl ?_);refine aa (listUpdate_at i rfl ?_ (Nat.zero_le _) (by rw[jm,<- aP,B.length_eq,aP,v];exact Nat.le_succ_of_le hz))
  rw[hf];simp only[bne_self_eq_false,aM,if_false];exact ae (h _ (cI.mpr B) L)
theorem treeK{κ:KeyKind}(hO:κ.OneLt){a:Addr}{vs:List ad}{n:Nat}{P:gR->ah->Prop}(ho:s.heap.get? a=some (bO "list" vs.toArray n))
  (h0:KeysOf κ (gy vs)) (hkk:∀v₁ v₂ rest,vs=v₁::v₂::rest->keyKind' (v₁::v₂::rest).toArray=pure oneType') (hz:vs.length<=sizeLine)
  (h:∀st':cG,(aO st').Perm (gy vs)->SortedToK κ (aO st') (gy vs).size->P (.done (.ret .none)) {s with heap:=gu s.heap a vs ((aO st').map (·.2))}) :
  aH (aE prog w) A (cx.«list.sort» ⟨[.ref a],[]⟩) P E s:=by
 have key:∀ v∈vs,∃ x,κ.keyOf v=some x:=λv hv=>h0 (v,v) (by
  rw[ic];obtain⟨i,hi,e⟩:=bd hv;exact List.mem_iff_getElem.mpr ⟨i,by simpa using hi,by simp[e]⟩)
 refine sort_any (λu v=>κ.blt ((κ.keyOf u).getD κ.dflt) ((κ.keyOf v).getD κ.dflt)) hz ho (λh2 kp N Q hq=>?_) λxs B hs=>h (hX oneType' xs #[] 7 none) B λi j L hj=>?_
 ·obtain⟨v₁,v₂,rest,rfl⟩:∃v₁ v₂ rest,vs=v₁::v₂::rest:=by
   match vs,N with
   |v₁::v₂::rest,_=>exact⟨v₁,v₂,rest,rfl⟩
  rw[hkk _ _ _ rfl];refine ae (hq _ ⟨λx y Q Z Y q=>?_,λx y _ _ e=>KeyOrd.klt_asymm e,λx y z _ _ _ e1 e2=>KeyOrd.kle_trans e1 e2⟩);obtain⟨p,B⟩:=key _ Z;obtain⟨U,d⟩:=key _ Y;rw[keyLt'_oneType];refine hO _ _ _ _ _ _ _ p U B d ?_;rw[B,d] at q;exact q
 ·show κ.kle (KK κ xs i) (KK κ xs j);rcases Nat.eq_or_lt_of_le L with rfl|D
  ·exact KeyOrd.kle_refl _
  ·have sz:=B.size_eq;have O:∀k (J:k<xs.size),KK κ xs k=(κ.keyOf (xs.toList[k]'(by simpa using J)).1).getD κ.dflt:=λk J=>by
    unfold KK;rw[<- aN,ag (by simpa using J)]
   rw[O i (by lia),O j (by lia)]
   exact bQ.mp hs i j (by simp;lia) (by simp;lia) D
def iv:ad->Int
 |.int n _=>n
 |_=>0
theorem treeI{a:Addr}{vs:List ad}{ns:List Int}{n:Nat}{P:gR->ah->Prop}(ho:s.heap.get? a=some (bO "list" vs.toArray n))(hI:gK vs ns)(hz:vs.length<=sizeLine)
  (h:∀(out:Array ad) (ns':List Int),gK out.toList ns'->ns'.Perm ns->ns'.Pairwise (·<=·)->P (.done (.ret .none)) {s with heap:=gu s.heap a vs out}) :
  aH (aE prog w) A (cx.«list.sort» ⟨[.ref a],[]⟩) P E s:=by
 have key:∀ v∈vs,∃ x t,v=.int x t:=λv hv=>hI.intKeys (v,v) (by
  rw[ic];obtain⟨i,hi,e⟩:=bd hv;exact List.mem_iff_getElem.mpr ⟨i,by simpa using hi,by simp[e]⟩)
 refine sort_any (λu v=>decide (iv u<iv v)) hz ho (λh2 kp U Q hq=>?_) λxs D hs=>?_
 ·obtain⟨B,d,rest,rfl⟩:∃B d rest,vs=B::d::rest:=by
   match vs,U with
   |B::d::rest,_=>exact⟨B,d,rest,rfl⟩
  rw[keyKind_ints hI];refine ae (hq _ ⟨λx y Q hx Z q=>?_,λx y _ _ e=>by simp at e ⊢;lia,λx y z _ _ _ e1 e2=>by simp at e1 e2 ⊢;lia⟩)
  obtain⟨p,t,D⟩:=key _ hx;obtain⟨p',t',L⟩:=key _ Z;rw[keyLt'_oneType];rw[D,L] at q ⊢;exact oneLt_int q
 ·have sz:=D.size_eq;obtain⟨ns',h1,h2,h3⟩:=sorted_out hI D (λi j O hj=>by
   rcases Nat.eq_or_lt_of_le O with rfl|N
   ·exact Int.le_refl _
   ·have Y:∀k (J:k<xs.size),K xs k=iv (xs.toList[k]'(by simpa using J)).1:=λk J=>by
     have hm:xs.toList[k]'(by simpa using J)∈(gy vs).toList:=(cI.mp D).mem_iff.mp (dX _)
     obtain⟨p,t,e⟩:=hI.intKeys _ hm;unfold K;rw[<- aN,ag (by simpa using J)]
     generalize xs.toList[k]'(by simpa using J)=z at e
     obtain⟨z1,z2⟩:=z;cases e
     rfl
    rw[Y i (by lia),Y j (by lia)]
    have:=bQ.mp hs i j (by simp;lia) (by simp;lia) N
    have:=of_decide_eq_false this
    lia)
  exact h _ ns' h1 h2 h3
end
end SF
set_option maxHeartbeats 1000000
namespace HT
open PySem
theorem ltS_tot{a b:Str}(h:ltS a b=false)(hne:a≠b):ltS b a=true:=by
 unfold ltS at *
 refine decide_eq_true ?_;have h1:=of_decide_eq_false h;refine ba λh2=>hne ?_;have e:a.cps.toList=b.cps.toList:=List.le_antisymm (List.not_lt.mp h2) (List.not_lt.mp h1);cases a;cases b
 congr 1
 exact Array.toList_inj.mp e
theorem ltS_tr{a b c:Str}(h:ltS a b=true)(h':ltS b c=true):ltS a c=true:=decide_eq_true (List.lt_trans (of_decide_eq_true h) (of_decide_eq_true h'))
theorem ltS_ir(a:Str):ltS a a=false:=decide_eq_false (List.lt_irrefl _)
theorem ltS_as{a b:Str}(h:ltS a b=true):ltS b a=false:=decide_eq_false (List.lt_asymm (of_decide_eq_true h))
theorem lexS_tot:∀{a b:List Str},lexS a b=false->a≠b->lexS b a=true
 |[],[],_,h=>absurd rfl h
 |[],_::_,h,_=>by cases h
 |_::_,[],_,_=>rfl
 |x::xs,y::ys,h,d=>by
  rw[lexS_cons] at h ⊢
  by_cases e:x=y
  ·rw[if_pos e] at h;rw[if_pos e.symm];exact lexS_tot h λz=>d (by rw[e,z])
  ·rw[if_neg e] at h;rw[if_neg λz=>e z.symm];exact ltS_tot h e
theorem lexS_as:∀{a b:List Str},lexS a b=true->lexS b a=false
 |[],[],h=>by cases h
 |[],_::_,_=>rfl
 |_::_,[],h=>by cases h
 |x::xs,y::ys,h=>by
  rw[lexS_cons] at h ⊢
  by_cases e:x=y
  ·rw[if_pos e] at h;rw[if_pos e.symm];exact lexS_as h
  ·rw[if_neg e] at h;rw[if_neg (λz=>e z.symm)];exact ltS_as h
theorem lexS_tr:∀{a b c:List Str},lexS a b=true->lexS b c=true->lexS a c=true
 |[],[],_,h,_=>by cases h
 |[],_::_,[],_,h=>by cases h
 |[],_::_,_::_,_,_=>rfl
 |_::_,[],_,h,_=>by cases h
 |_::_,_::_,[],_,h=>by cases h
 |x::xs,y::ys,z::zs,h,h'=>by
  rw[lexS_cons] at h h' ⊢
  by_cases e:x=y
  ·subst e;rw[if_pos rfl] at h
   by_cases d:x=z
   ·rw[if_pos d] at h' ⊢;exact lexS_tr h h'
   ·rw[if_neg d] at h' ⊢;exact h'
  ·rw[if_neg e] at h
   by_cases d:y=z
   ·subst d;rw[if_neg e];exact h
   ·rw[if_neg d] at h';have hxz:=ltS_tr h h'
    have:x≠z:=by rintro rfl;rw[ltS_ir] at hxz;cases hxz
    rw[if_neg this];exact hxz
end HT
namespace KS
open PySem PySem.W PyProof.Rows
theorem paired_idx{α β:Type}{F:α->β->Prop}{l:List α}{m:List β}(p:bi F l m)(a:α)(b:β):∀(idx:List Nat),(∀i∈idx,i<l.length)->bi F (idx.map λi=>l.getD i a) (idx.map λi=>m.getD i b)
 |[],_=>.nil
 |i::idx,h=>by
  refine .cons ?_ (paired_idx p a b idx λj v=>h j (au _ v));have hi:=h i aq;obtain⟨y,d,hf⟩:=L2.Paired.get' p (ag hi);show F (l.getD i a) (m.getD i b);rw[ak,ak,d,ag hi];exact hf
theorem TS.keep{h h':bj}{v:ad}{d:List Str}(t:TS h v d)(k:∀b o,h.get? b=some o->o.cls=.type "tuple"->h'.get? b=some o):TS h' v d:=by
 obtain⟨b,items,e,⟨o,j,i,r⟩,p⟩:=t;exact⟨b,items,e,⟨o,k b o j i,i,r⟩,p⟩
section
variable{prog:aF}{w:aR}{A:a8}{E:ad->ah->Prop}{s:ah}
theorem TS.uniq{h:bj}{v:ad}{d d':List Str}(t:TS h v d)(t':TS h v d'):d=d':=by
 obtain⟨b,items,rfl,⟨o,B,O,n,hd⟩,p⟩:=t;obtain⟨Y,i,e,⟨o',ho',j,U,hd'⟩,L⟩:=t';cases e;rw[B] at ho';cases ho';rw[hd] at hd';cases hd';clear hd B O j;have go:∀{l:List ad}{d d':List Str},HT.SAre l d->HT.SAre l d'->d=d':=by
  intro l d d' p
  induction p generalizing d' with
  |nil=>intro q;cases q;rfl
  |cons z _ N =>
   intro q;cases q with
   |cons D J =>
    obtain⟨t,e⟩:=z;obtain⟨t',e'⟩:=D;rw[e] at e';cases e';rw[N J]
 exact go p L
open Classical in
noncomputable def dec(h:bj)(v:ad):List Str:=if e:∃d,TS h v d then e.choose else []
theorem cXi{h:bj}{v:ad}{d:List Str}(t:TS h v d):dec h v=d:=by
 unfold dec;have e:∃d,TS h v d:=⟨d,t⟩;rw[dif_pos e];exact e.choose_spec.uniq t
theorem dJf{a b c:List Str}(h1:HT.lexS b a=false)(h2:HT.lexS c b=false):HT.lexS c a=false:=by
 cases e:HT.lexS c a with
 |false=>rfl
 |true =>
  by_cases z:b=a
  ·subst z;rw[h2] at e;cases e
  ·have:=HT.lexS_tr e (HT.lexS_tot h1 z)
   rw[h2] at this;cases this
theorem dQq{α β:Type}{f:α->β}{l:List β}{k:List β}(h:l.Perm k):∀{m:List α},k=m.map f->∃m':List α,m'.Perm m/\l=m'.map f:=by
 induction h with
 |nil=>exact λe=>⟨_,db _,e⟩
 |cons x _ J =>
  intro m e;cases m with
  |nil=>cases e
  |cons a m =>
   rw[bz] at e;injection e with i d
   obtain⟨m',p,q⟩:=J d;exact⟨a::m',p.cons a,by rw[bz,q,i]⟩
 |swap x y l =>
  intro m e;cases m with
  |nil=>cases e
  |cons a m =>
   cases m with
   |nil=>simp at e
   |cons b m =>
    rw[bz,bz] at e;injection e with i d
    injection d with d L
    exact⟨b::a::m,.swap _ _ _,by rw[bz,bz,i,d,L]⟩
 |trans p q v j =>
  intro m e;obtain⟨N,B,i⟩:=j e;obtain⟨D,z,d⟩:=v i;exact⟨D,z.trans B,d⟩
theorem cXj{α:Type}(l:List α)(d:α):((a6 l.length).map λi=>l.getD i d)=l:=by
 apply iQ
 ·simp
 ·intro i h1 h2;simp only[iR,List.getElem_range,ak];rw[ag h2]
  rfl
theorem sort_tupsL{a:Addr}{vs:List ad}{ds:List (List Str)}{n:Nat}{P:gR->ah->Prop}(hu:A.units<cE)(ho:s.heap.get? a=some (bO "list" vs.toArray n))(hp:bi (TS s.heap) vs ds)(hz:vs.length<=sizeLine)
  (h:∀ (idx:List Nat) (h':bj) (c:Nat),idx.Perm (a6 vs.length)->(idx.map λi=>ds.getD i []).Pairwise (λa b=>HT.lexS b a=false)->(idx.map λi=>ds.getD i []).Perm ds->h'.get? a=some (bO "list" (idx.map λi=>vs.getD i cB).toArray c) ->
   (∀b o,b≠a->s.heap.get? b=some o->h'.get? b=some o)->P (.done (.ret .none)) {s with heap:=h'}) :
  aH (aE prog w) A (cx.«list.sort» ⟨[.ref a],[]⟩) P E s:=by
 have hl:vs.length=ds.length:=cq hp;have at_:∀i,i<vs.length->TS s.heap (vs.getD i cB) (ds.getD i []):=λk hk=>by
  obtain⟨d,hd,t⟩:=L2.Paired.get' hp (ag hk);rw[ak,ak,hd,ag hk];exact t
 have B:∀v∈vs,TS s.heap v (dec s.heap v):=λv hv=>by
  obtain⟨i,hi,e⟩:=bd hv
  have:=at_ i hi
  rw[ak,ag hi] at this;have L:TS s.heap v (ds.getD i []):=by rw[<- e];exact this
  rw[cXi L];exact L
 refine SF.sort_any (λu v=>HT.lexS (dec s.heap u) (dec s.heap v)) hz ho (λh2 kp h2l Q hq=>?_) λxs U hs=>?_
 ·have kt:∀ b o,s.heap.get? b=some o->o.cls=.type "tuple"->h2.get? b=some o:=λb o e c=>kp b o (by
   rintro rfl;rw[ho] at e;have e':=aS e;rw[<- e'] at c;have c':dD "list"=dD "tuple":=c;injection c' with c''
   exact absurd c'' (by decide)) e
  have Y:bi (TS h2) vs ds:=L2.Paired.imp (λv d t=>t.keep kt) hp;refine dJc (s:={s with heap:=h2}) Y (by rintro rfl;simp at h2l) fun κ hκ=>hq κ ⟨λx y Q U hy q=>?_,λx y _ _ e=>HT.lexS_as e,λx y z _ _ _ D L=>dJf D L⟩
  have t1:=(B _ U).keep kt;have N:=(B _ hy).keep kt;rcases hκ with rfl|rfl|rfl
  ·exact cXe (s:={s with heap:=h2}) t1 N q
  ·exact cZ6 (s:={s with heap:=h2}) hu t1 N q
  ·exact eXn (s:={s with heap:=h2}) hu t1 N q
 ·have pl:xs.toList.Perm (gy vs).toList:=cI.mp U;obtain⟨idx,O,D⟩:=dQq (f:=λi=>(vs.getD i cB,vs.getD i cB)) (m:=a6 vs.length) pl (by
   rw[ic]
   conv=>lhs;rw[<- cXj vs cB]
   rw[List.zip_map'])
  have J:∀i∈idx,i<vs.length:=λi hi=>aX.mp (O.mem_iff.mp hi);have eo:xs.map (·.2)=(idx.map λi=>vs.getD i cB).toArray:=by
   apply Array.toList_inj.mp;rw[Array.toList_map,D,bS]
   rfl
  rw[eo];rw[D,de] at hs;have s2:=cv (((s.heap.update a (bI λ_=>(#[]:Array ad))).push (bO "tuple" vs.toArray 0)).push (bO "list" #[] 0)) a (bI λ_=>(idx.map λi=>vs.getD i cB).toArray);obtain⟨L,Z⟩:∃D,(s.heap.update a (bI λ_=>(#[]:Array ad))).get? a=some (bO "list" #[] D):=⟨_,ef ho λ_=>#[]⟩;have sb:=cv s.heap a (bI λ_=>(#[]:Array ad));refine h idx _ _ O ?_ ?_ (ef (af _ (af _ Z)) λ_=>_) λb o hb e=>(s2.2 b hb).trans (af _ (af _ ((sb.2 b hb).trans e)))
  ·rw[de];refine hs.imp_of_mem λ{i j} hi hj hij=>?_;have a1:=cXi (at_ i (J i hi));have a2:=cXi (at_ j (J j hj));rw[<- a1,<- a2];exact hij
  ·have:=O.map λi=>ds.getD i []
   rw[hl,cXj] at this;exact this
theorem cXk{l:List (List Str)}(nd:l.Nodup)(h:l.Pairwise λa b=>HT.lexS b a=false):l.Pairwise λa b=>HT.lexS a b=true:=jA.imp (λ⟨h1,h2⟩=>HT.lexS_tot h1 λz=>h2 z.symm) (List.pairwise_and_iff.mpr ⟨h,nd⟩)
theorem sort_tups{a:Addr}{vs:List ad}{ds:List (List Str)}{n:Nat}{P:gR->ah->Prop}(hu:A.units<cE)(ho:s.heap.get? a=some (bO "list" vs.toArray n))(hp:bi (TS s.heap) vs ds)(nd:ds.Nodup)(hz:vs.length<=sizeLine)
  (h:∀ (idx:List Nat) (h':bj) (c:Nat),idx.Perm (a6 vs.length)->(idx.map λi=>ds.getD i []).Pairwise (λa b=>HT.lexS a b=true)->(idx.map λi=>ds.getD i []).Perm ds->h'.get? a=some (bO "list" (idx.map λi=>vs.getD i cB).toArray c) ->
   (∀b o,b≠a->s.heap.get? b=some o->h'.get? b=some o)->P (.done (.ret .none)) {s with heap:=h'}) :
  aH (aE prog w) A (cx.«list.sort» ⟨[.ref a],[]⟩) P E s:=sort_tupsL hu ho hp hz λidx h' c v j d g k=>h idx h' c v (cXk (d.nodup_iff.mpr nd) j) d g k
end
end KS
namespace ST
open PySem PySem.SetTable PySem.Spec PyProof.Rows
def restr{prog:aF}{w:aR}{κ:Type}(D:SetKd prog w κ)(W:κ->ad->Prop):SetKd prog w κ where
 is:=λh k v=>D.is h k v/\W k v
 I:=λh a es ep t=>D.I h a es ep t/\∀e∈es.toList,∃k,D.is h k e.2/\W k e.2
 inj:=λa b=>D.inj a.1 b.1
 obj:=λx=>D.obj x.1
 fits:=λx=>D.fits x.1
 few:=λx p nd hp=>D.few x.1 (L2.Paired.mapP p λ_ _ q=>q.1) nd hp
 fresh:=λh=>⟨D.fresh h,λe he=>by simp at he⟩
 keepIs:=λx kp=>⟨D.keepIs x.1 kp,x.2⟩
 keepI:=λx e kp=>⟨D.keepI x.1 e kp,λe he=>let ⟨k,h1,h2⟩:=x.2 e he;⟨k,D.keepIs h1 kp,h2⟩⟩
 add:=λ{A E s a es ep t k x Q} hu hI hx hn h=>by
  refine D.add hu hI.1 hx.1 hn λh' tk es' ep' t' added q1 q2 q3 q4 q5=>?_;have kp:=aX9 (D.obj hI.1) q2;have up:∀e∈es.toList,∃k,D.is h' k e.2/\W k e.2:=λe he=>let ⟨k,h1,h2⟩:=hI.2 e he;⟨k,D.keepIs h1 kp,h2⟩
  rcases q5 with⟨r1,r2,e,he,r3⟩|⟨r1,⟨hh,r2⟩,r3⟩
  ·obtain⟨k',z1,z2⟩:=hI.2 e he
   have:=D.inj r3 z1
   subst this;exact h h' tk es' ep' t' added ⟨q1,by rw[r2];exact up⟩ q2 q3 q4 (.inl ⟨r1,r2,e,he,r3,z2⟩)
  ·refine h h' tk es' ep' t' added ⟨q1,λe he=>?_⟩ q2 q3 q4 (.inr ⟨r1,⟨hh,r2⟩,λ⟨e,he,z⟩=>r3 ⟨e,he,z.1⟩⟩);rcases aK.mp (r2.mem_iff.mp he) with z|z
   ·subst z;exact⟨k,D.keepIs hx.1 kp,hx.2⟩
   ·exact up e z
end ST
namespace L2
open PySem PySem.Spec PyProof.Rows
def stO(p:Addr)(es:Array (Int×ad))(ep:Nat)(t:aV):HO:=.ext λh=>h.get? p=some (ST.setOb es ep t)
abbrev PV(K:Fg)(H:Hp):ad->V×List Str->Prop:=λv p=>RelV p.1 v/\dT K dS H p.1 p.2
def dSt(w:aR)(K:Fg):Dn (List (List Str)):=λH v ms=>∃p es ep t ps,v=.ref p/\H p=some (stO p es ep t)/\t.fits es.size=true/\t.led=ST.ledOf w/\(t.plain=true->es.size<=1)/\bi (PV K H) (es.toList.map (·.2)) ps/\ms=ps.map (·.2)
theorem Inv.drawn{X:Cx}{pins:List (Addr×Obj)}{σ:St}{H:Hp}{s:ah}(I:Inv X pins σ H s)(d:_):Inv X pins σ H {s with drawn:=d} :=
 ⟨I.ok,I.os,I.bare,I.base,I.loc,I.cell,I.free,I.freeC,I.pin,I.hok,I.len⟩
section
variable{X:Cx}
theorem eXx{K:Fg}{H:Hp}{h:bj}{P:aF}{w:aR}:∀{es:List (Int×ad)}{ms:List (List Str)},bi (λ(e:Int×ad) k=>ST.TK P w h k e.2/\∃x,RelV x e.2/\dT K dS H x k) es ms->∃ps,bi (PV K H) (es.map (·.2)) ps/\ms=ps.map (·.2)
 |_,_,.nil=>⟨[],.nil,rfl⟩
 |_,_,.cons ⟨_,x,r,d⟩ q=>by
  obtain⟨ps,h1,h2⟩:=eXx q;exact⟨(x,_)::ps,.cons ⟨r,d⟩ h1,by rw[h2];rfl⟩
theorem dZw{P:aF}{w:aR}{pins:List (Addr×Obj)}{σ:St}{H:Hp}{s:ah}(I:Inv X pins σ H s):∀{xs:List V}{us:List ad}{ds:List (List Str)},bi (dT X.K dS H) xs ds->Vals xs us->bi (λv k=>ST.TK P w s.heap k v/\∃x,RelV x v/\dT X.K dS H x k) us ds
 |_,_,_,.nil,.nil=>.nil
 |_,_,_,.cons p q,.cons r t=>by
  refine .cons ⟨?_,_,r,p⟩ (dZw I q t);obtain⟨b,ys,rfl,j,pp⟩:=p;cases r;obtain⟨its,i,d,_⟩:=I.tuple j;exact fZ0 (K:=X.K) pp i d
def eXy(w:aR)(K:Fg):List V->Hp->VK->Prop:=λxs H Q=>∃x ds,xs=[x]/\dL K (dT K dS) H x ds/\ds.length+1<=300/\∀p ms H',Same H H'->ms.Nodup->(∀k,k∈ms↔k∈ds)->dSt w K H' (.ref p) ms->Q (.ref p) H'
theorem cZ7{K:Fg}{w:aR}(hu:X.A.units+8<cE)(hK:X.K=K:=by rfl)(hw:X.w=w:=by rfl)(hc:X.calm=true:=by rfl):CallR X (.type "set") (eXy w K):=by
 subst hK hw;intro pins s σ H xs us Q I r h;obtain⟨x,ds,rfl,⟨a,ys,rfl,O,p⟩,U,q⟩:=h;obtain⟨u,rfl,rx⟩:=aXc r;cases rx;obtain⟨its,J,pl,_⟩:=I.list O;refine ST.call_setK (ST.restr (ST.tupKd X.prog X.w) λk v=>∃x,RelV x v/\dT X.K dS H x k) (I.ok.hd hc) hu pl.isList (dZw I p J) (by rw[ar,<- J.length,p.length];exact U) λh' N ms M _ Y=>?_
 obtain⟨es,B,t,i,d,L⟩:=M.ex;obtain⟨ps,h1,h2⟩:=eXx L;have j:H s.heap.objs.size=none:=I.hok.fresh (Nat.le_refl _);have D:Same H (upd H s.heap.objs.size (stO s.heap.objs.size es B t)):=aZc j;refine⟨.ref s.heap.objs.size,_,I.laid (t':=N) (o:=stO s.heap.objs.size es B t) (λb o e=>Y b o (aD e) e) (Nat.le_refl _) ?_,rfl,q _ _ _ D M.nd M.mem ⟨_,es,B,t,ps,rfl,aQ7,(ST.tupKd X.prog X.w).fits i.1,d,λz=>?_,L2.Paired.imp (λ_ _ z=>⟨z.1,Mo.mo D z.2⟩) h1,h2⟩⟩
 ·refine⟨(ST.tupKd X.prog X.w).obj i.1,⟨_,(ST.tupKd X.prog X.w).obj i.1⟩,λg1 g2 g k=>k _ g⟩
 ·exact(ST.restr (ST.tupKd X.prog X.w) λk v=>∃x,RelV x v/\dT X.K dS H x k).few i L M.nd z
end
section
variable{X:Cx}
theorem eXz{K:Fg}{pins:List (Addr×Obj)}{σ:St}{H:Hp}{s:ah}(I:Inv X pins σ H s)(hK:X.K=K){h':bj}(k:∀b o,s.heap.get? b=some o->h'.get? b=some o):∀{vs:List ad}{ps:List (V×List Str)},bi (PV K H) vs ps->bi (KS.TS h') vs (ps.map (·.2))
 |_,_,.nil=>.nil
 |_,_,.cons ⟨r,d⟩ q=>by
  refine .cons ?_ (eXz I hK k q);obtain⟨b,xs,e,i,pp⟩:=d;rw[e] at r;cases r;rw[<- hK] at i;obtain⟨its,j,⟨o,v,z⟩,_⟩:=I.tuple i;exact⟨b,its.toArray,rfl,⟨o,k b o v,z⟩,aJw pp j⟩
theorem cQ9:∀(ps:List (V×List Str)) (i:Nat),(ps.map (·.2)).getD i []=(ps.getD i (V.non,[])).2
 |[],i=>by simp
 |p::ps,0=>by simp
 |p::ps,i+1=>by simpa using cQ9 ps i
theorem bZ4{K:Fg}{H:Hp}:∀{vs:List ad}{zs:List (V×List Str)},bi (PV K H) vs zs->Vals (zs.map (·.1)) vs/\bi (dT K dS H) (zs.map (·.1)) (zs.map (·.2))
 |_,_,.nil=>⟨.nil,.nil⟩
 |_,_,.cons ⟨r,d⟩ q=>⟨.cons r (bZ4 q).1,.cons d (bZ4 q).2⟩
theorem cXl{H:Hp}:∀{xs:List V}{us:List ad}{ds:List Str},bi (dS H) xs ds->Vals xs us->jb us ds
 |_,_,_,.nil,.nil=>.nil
 |_,_,_,.cons p q,.cons r t=>by
  cases p;obtain⟨k,rfl⟩:=r;exact .cons _ k (cXl q t)
theorem bZ5{H:Hp}:∀{us:List ad}{ds:List Str},jb us ds->Vals (ds.map V.str) us/\bi (dS H) (ds.map V.str) ds
 |_,_,.nil=>⟨.nil,.nil⟩
 |_,_,.cons y t r=>⟨.cons ⟨t,rfl⟩ (bZ5 (H:=H) r).1,.cons rfl (bZ5 r).2⟩
theorem dZx:∀{l:List Str},sortedS l=true->l.Nodup->l.Pairwise λa b=>HT.ltS a b=true
 |[],_,_=>.nil
 |[x],_,_=>a4 _ _
 |x::y::l,h,nd=>by
  have h':(!ltCps y.cps.toList x.cps.toList&&risingS y l)=true:=h;rw[bb] at h';have j:=dZx (l:=y::l) h'.2 (bM.mp nd).2;have d:HT.ltS x y=true:=by
   have e:HT.ltS y x=false:=by
    have:=h'.1
    rw[dl] at this;rw[ltCps_eq] at this;exact this
   exact HT.ltS_tot e λz=>(bM.mp nd).1 (z▸aq)
  refine aY.mpr ⟨λz i=>?_,j⟩;rcases aK.mp i with rfl|i
  ·exact d
  ·exact HT.ltS_tr d ((aY.mp j).1 z i)
end
end L2
set_option maxHeartbeats 4000000
namespace L2
open PySem PySem.Spec PyProof.Rows
def cutS(z:Str)(lo hi:Option Int):Str:=if ((bT lo hi 1 z.length).length==z.length)=true then z else ⟨((bT lo hi 1 z.length).filterMap (z.cps[·]?)).toArray⟩
def rSlS:V->Option Int->Option Int->Hp->VK->Prop:=λx lo hi H Q=>∃z,x=.str z/\z.length<=1000000/\Q (.str (cutS z lo hi)) H
theorem sl_str{X:Cx}:SlR X rSlS:=by
 intro pins s σ H x v vl Z lo hi sl Q I L O pl pu h;obtain⟨z,rfl,hz,q⟩:=h;obtain⟨t,rfl⟩:=L;refine⟨"str",_,PySem.F.slot_str_getitem.lookup,typeIs_str _ _ _,?_⟩;have go:∀(l u:Option (Int×Tok)),l.map (·.1)=lo->u.map (·.1)=hi->s.heap.IsSlice sl l u none->aH (aE X.prog X.w) X.A (iZ (.str z t) (.ref sl)) (EP X pins σ Q) X.xe s:=λl u U N Y=>by
  refine wpAny_getItem_str_slice Y rfl ?_;unfold sliceMade slicePicked;simp only[Option.map_none,iF,beq_self_eq_true,iz,U,N];unfold cutS at q
  by_cases c:((bT lo hi 1 z.length).length==z.length)=true
  ·rw[if_pos c] at q ⊢;exact⟨.str z,H,I,⟨t,rfl⟩,q⟩
  ·rw[if_neg c] at q ⊢;refine⟨?_,.str _,H,I.tok _,⟨_,rfl⟩,q⟩;have h1:=PyProof.Rows.indices_len_le lo hi z.length;have h2:((bT lo hi 1 z.length).filterMap (z.cps[·]?)).length<=(bT lo hi 1 z.length).length:=List.length_filterMap_le _ _;show((bT lo hi 1 z.length).filterMap (z.cps[·]?)).toArray.size<=_;rw[ar,bh];lia
 obtain⟨o,d,B,hd⟩:=O;cases pl with
 |none =>
  cases pu with
  |none=>exact go none none rfl rfl ⟨o,d,B,hd⟩
  |int j D=>exact go none (some (j,D)) rfl rfl ⟨o,d,B,hd⟩
 |int i J =>
  cases pu with
  |none=>exact go (some (i,J)) none rfl rfl ⟨o,d,B,hd⟩
  |int j D=>exact go (some (i,J)) (some (j,D)) rfl rfl ⟨o,d,B,hd⟩
end L2
set_option maxHeartbeats 1000000
namespace L2
open PySem PySem.Spec PyProof.Rows
inductive D where
 |non|bl (b:Bool)|int (i:Int)|str (x:Str)|ty (n:String)|ref (a:Addr)|tup (xs:List D)|lst (xs:List D)
abbrev Am:=Addr->Prop
structure Keep(M:Am)(H:Hp)(M':Am)(H':Hp):Prop where
 st:∀a o,¬ M a->H a=some o->H' a=some o
 nm:∀a,¬ M a->H a≠none->¬ M' a
def Xo:HO->Prop
 |.ext _=>True
 |.ins _ _ _=>True
 |_=>False
inductive DO where
 |lst (xs:List D)|dk (kvs:List (Key×D))|dt (kvs:List (List Key×D))
 |tb (pos:Pos) (qual:Str)
 |ex (f:Am->Hp->Addr->Prop) (hk:∀M M' H H' a,Keep M H M' H'->H' a=H a->f M H a->f M' H' a) (hl:∀M H a,f M H a->∃g,H a=some g/\Xo g)
abbrev Sto:=Addr->Option DO
abbrev Gm:=List (Option D)
def supd(S:Sto)(a:Addr)(o:DO):Sto:=λb=>if b=a then some o else S b
def sdel(S:Sto)(a:Addr):Sto:=λb=>if b=a then none else S b
theorem aQ9{S:Sto}{a:Addr}{o:DO}:supd S a o a=some o:=by unfold supd;rw[if_pos rfl]
theorem aQb{S:Sto}{a b:Addr}{o:DO}(h:b≠a):supd S a o b=S b:=by unfold supd;rw[if_neg h]
theorem bX8{S:Sto}{a:Addr}:sdel S a a=none:=by unfold sdel;rw[if_pos rfl]
theorem bJ2{S:Sto}{a b:Addr}(h:b≠a):sdel S a b=S b:=by unfold sdel;rw[if_neg h]
def TupAt(K:Fg)(M:Am)(H:Hp)(a:Addr)(xs:List V):Prop:=(¬ M a/\Rd H a (.tup xs))\/SqT K (λ_=>none) a xs
theorem TupAt.sq{K:Fg}{M:Am}{H:Hp}{a:Addr}{xs:List V}(h:TupAt K M H a xs):SqT K H a xs:=by
 rcases h with h|(h|⟨o,h⟩)|h
 ·exact .inl h.2
 ·cases h
 ·cases h
 ·exact .inr h
def LstAt(K:Fg)(M:Am)(H:Hp)(a:Addr)(xs:List V):Prop:=(¬ M a/\Rd H a (.lst xs))\/SqL K (λ_=>none) a xs
theorem LstAt.sq{K:Fg}{M:Am}{H:Hp}{a:Addr}{xs:List V}(h:LstAt K M H a xs):SqL K H a xs:=by
 rcases h with h|(h|⟨o,h⟩)|h
 ·exact .inl h.2
 ·cases h
 ·cases h
 ·exact .inr h
mutual
def RepV(K:Fg)(M:Am)(H:Hp):D->V->Prop
 |.non,v=>v=.non
 |.bl b,v=>v=.bl b
 |.int i,v=>v=.int i
 |.str x,v=>v=.str x
 |.ty n,v=>v=.ty n
 |.ref a,v=>v=.ref a
 |.tup ds,v=>∃a xs,v=.ref a/\TupAt K M H a xs/\RepL K M H ds xs
 |.lst ds,v=>∃a xs,v=.ref a/\LstAt K M H a xs/\RepL K M H ds xs
def RepL(K:Fg)(M:Am)(H:Hp):List D->List V->Prop
 |[],xs=>xs=[]
 |d::ds,xs=>∃v vs,xs=v::vs/\RepV K M H d v/\RepL K M H ds vs
end
theorem Rd.live{H:Hp}{a:Addr}{u:HO}(r:Rd H a u):H a≠none:=by
 rcases r with r|⟨o,r⟩ <;> rw[r] <;> exact λz=>by cases z
theorem Keep.rd{M M':Am}{H H':Hp}(k:Keep M H M' H'){a:Addr}{u:HO}(hm:¬ M a)(r:Rd H a u):Rd H' a u:=by
 rcases r with r|⟨o,r⟩
 ·exact .inl (k.st a _ hm r)
 ·exact .inr ⟨o,k.st a _ hm r⟩
theorem TupAt.keep{K:Fg}{M M':Am}{H H':Hp}{p:Addr}{us:List V}(t:TupAt K M H p us)(x:Keep M H M' H'):TupAt K M' H' p us:=by
 rcases t with⟨hm,r⟩|t
 ·exact .inl ⟨x.nm p hm r.live,x.rd hm r⟩
 ·exact .inr t
theorem LstAt.keep{K:Fg}{M M':Am}{H H':Hp}{p:Addr}{us:List V}(t:LstAt K M H p us)(x:Keep M H M' H'):LstAt K M' H' p us:=by
 rcases t with⟨hm,r⟩|t
 ·exact .inl ⟨x.nm p hm r.live,x.rd hm r⟩
 ·exact .inr t
mutual
theorem RepV.keep{K:Fg}{M M':Am}{H H':Hp}(k:Keep M H M' H'):∀{d:D}{v:V},RepV K M H d v->RepV K M' H' d v
 |.non,_,h=>h
 |.bl _,_,h=>h
 |.int _,_,h=>h
 |.str _,_,h=>h
 |.ty _,_,h=>h
 |.ref _,_,h=>h
 |.tup ds,v,h=>by
  unfold RepV at h ⊢;obtain⟨a,xs,e,t,l⟩:=h;exact⟨a,xs,e,t.keep k,RepL.keep k l⟩
 |.lst ds,v,h=>by
  unfold RepV at h ⊢;obtain⟨a,xs,e,t,l⟩:=h;exact⟨a,xs,e,t.keep k,RepL.keep k l⟩
theorem RepL.keep{K:Fg}{M M':Am}{H H':Hp}(k:Keep M H M' H'):∀{ds:List D}{xs:List V},RepL K M H ds xs->RepL K M' H' ds xs
 |[],_,h=>h
 |d::ds,xs,h=>by
  unfold RepL at h ⊢;obtain⟨v,i,e,r,l⟩:=h;exact⟨v,i,e,RepV.keep k r,RepL.keep k l⟩
end
section
variable{K:Fg}{M:Am}{H:Hp}
theorem RepL.length:∀{ds:List D}{xs:List V},RepL K M H ds xs->xs.length=ds.length
 |[],_,h=>by unfold RepL at h;rw[h];rfl
 |d::ds,xs,h=>by
  unfold RepL at h;obtain⟨v,i,rfl,_,l⟩:=h;simp[RepL.length l]
theorem RepL.nil:RepL K M H [] []:=by unfold RepL;rfl
theorem RepL.cons{d:D}{ds:List D}{v:V}{vs:List V}(r:RepV K M H d v)(l:RepL K M H ds vs):RepL K M H (d::ds) (v::vs):=by unfold RepL;exact⟨v,vs,rfl,r,l⟩
theorem RepL.app:∀{ds es:List D}{xs ys:List V},RepL K M H ds xs->RepL K M H es ys->RepL K M H (ds++es) (xs++ys)
 |[],es,xs,ys,h,h'=>by unfold RepL at h;rw[h];exact h'
 |d::ds,es,xs,ys,h,h'=>by
  unfold RepL at h;obtain⟨v,i,rfl,r,l⟩:=h;exact RepL.cons r (RepL.app l h')
theorem RepL.get:∀{ds:List D}{xs:List V}{i:Nat}{d:D},RepL K M H ds xs->ds[i]?=some d->∃v,xs[i]?=some v/\RepV K M H d v
 |[],_,_,_,_,e=>by simp at e
 |d::ds,xs,0,e,h,he=>by
  unfold RepL at h;obtain⟨v,j,rfl,r,l⟩:=h;simp at he;subst he;exact⟨v,rfl,r⟩
 |d::ds,xs,i+1,e,h,he=>by
  unfold RepL at h;obtain⟨v,j,rfl,r,l⟩:=h;obtain⟨w,h1,h2⟩:=RepL.get (i:=i) l (by simpa using he)
  exact⟨w,by simpa using h1,h2⟩
theorem RepL.get'{ds:List D}{xs:List V}{i:Nat}{v:V}(h:RepL K M H ds xs)(e:xs[i]?=some v):∃d,ds[i]?=some d/\RepV K M H d v:=by
 have B:=h.length;have hi:i<xs.length:=by
  rcases Nat.lt_or_ge i xs.length with z|z
  ·exact z
  ·rw[bV z] at e;cases e
 have j:ds[i]?=some ds[i]:=ag (by omega)
 obtain⟨w,h1,h2⟩:=h.get j;rw[e] at h1;cases h1;exact⟨_,j,h2⟩
theorem RepL.take:∀{ds:List D}{xs:List V}(n:Nat),RepL K M H ds xs->RepL K M H (ds.take n) (xs.take n)
 |_,_,0,_=>by simpa using RepL.nil
 |[],_,n+1,h=>by unfold RepL at h;subst h;simpa using RepL.nil
 |d::ds,xs,n+1,h=>by
  unfold RepL at h;obtain⟨v,i,rfl,r,l⟩:=h;simpa using RepL.cons r (RepL.take n l)
theorem RepL.drop:∀{ds:List D}{xs:List V}(n:Nat),RepL K M H ds xs->RepL K M H (ds.drop n) (xs.drop n)
 |_,_,0,h=>by simpa using h
 |[],_,n+1,h=>by unfold RepL at h;subst h;simpa using RepL.nil
 |d::ds,xs,n+1,h=>by
  unfold RepL at h;obtain⟨v,i,rfl,r,l⟩:=h;simpa using RepL.drop n l
theorem RepL.set{d:D}{v:V}(r:RepV K M H d v):∀{ds:List D}{xs:List V}(i:Nat),RepL K M H ds xs->RepL K M H (ds.set i d) (xs.set i v)
 |[],_,i,h=>by unfold RepL at h;subst h;simpa using RepL.nil
 |e::ds,xs,0,h=>by
  unfold RepL at h;obtain⟨w,j,rfl,_,l⟩:=h;simpa using RepL.cons r l
 |e::ds,xs,i+1,h=>by
  unfold RepL at h;obtain⟨w,j,rfl,q,l⟩:=h;simpa using RepL.cons q (RepL.set r i l)
theorem RepL.erase:∀{ds:List D}{xs:List V}(i:Nat),RepL K M H ds xs->RepL K M H (ds.eraseIdx i) (xs.eraseIdx i)
 |[],_,i,h=>by unfold RepL at h;subst h;simpa using RepL.nil
 |e::ds,xs,0,h=>by
  unfold RepL at h;obtain⟨w,d,rfl,_,l⟩:=h;simpa using l
 |e::ds,xs,i+1,h=>by
  unfold RepL at h;obtain⟨w,d,rfl,q,l⟩:=h;simpa using RepL.cons q (RepL.erase i l)
theorem RepL.one{d:D}{xs:List V}(h:RepL K M H [d] xs):∃v,xs=[v]/\RepV K M H d v:=by
 unfold RepL at h;obtain⟨v,i,rfl,r,l⟩:=h;unfold RepL at l;subst l;exact⟨v,rfl,r⟩
theorem RepL.two{d e:D}{xs:List V}(h:RepL K M H [d,e] xs):∃v w,xs=[v,w]/\RepV K M H d v/\RepV K M H e w:=by
 unfold RepL at h;obtain⟨v,j,rfl,r,l⟩:=h;obtain⟨w,rfl,i⟩:=l.one;exact⟨v,w,rfl,r,i⟩
end
def mt(S:Sto)(F:Am):Am:=λa=>S a≠none\/F a
abbrev cdO(c:Addr)(oc:Obj):HO:=.ext λh=>h.get? c=some oc
def TbOk(M:Am)(H:Hp)(pos:Pos)(qual:Str)(ps:Array ad):Prop:=TriplesOk ps.toList/\(gS pos ps.toList=none \/
 ∃c oc,gS pos ps.toList=some (.ref c)/\¬ M c/\H c=some (cdO c oc)/\∃vs t,oc.data=.fields vs/\vs[1]?=some (.str qual t))
theorem TbOk.keep{M M':Am}{H H':Hp}(k:Keep M H M' H'){pos:Pos}{qual:Str}{ps:Array ad}(h:TbOk M H pos qual ps):TbOk M' H' pos qual ps:=by
 obtain⟨h1,h2⟩:=h;refine⟨h1,h2.imp id λ⟨c,oc,i,m,d,r⟩=>⟨c,oc,i,k.nm c m (by rw[d];exact λz=>by cases z),k.st c _ m d,r⟩⟩
def RepO(K:Fg)(M:Am)(H:Hp)(a:Addr):DO->Prop
 |.lst ds=>∃xs,H a=some (.lst xs)/\RepL K M H ds xs
 |.dk kvs=>∃ks,H a=some (.dK ks)/\bi (λ(p:Key×V) (q:Key×D)=>p.1=q.1/\RepV K M H q.2 p.2) ks kvs
 |.dt kvs=>∃ks,H a=some (.dT ks)/\bi (λ(p:List Key×V) (q:List Key×D)=>p.1=q.1/\RepV K M H q.2 p.2) ks kvs
 |.tb pos qual=>∃ps,H a=some (.tbl ps)/\TbOk M H pos qual ps
 |.ex f _ _=>f M H a
theorem RepO.live{K:Fg}{M:Am}{H:Hp}{a:Addr}{o:DO}(h:RepO K M H a o):H a≠none:=by
 cases o with
 |ex f i d=>obtain⟨g,e,_⟩:=d _ _ _ h;rw[e];exact λz=>by cases z
 |_=>obtain⟨xs,e,_⟩:=h;rw[e];exact λz=>by cases z
theorem RepO.keep{K:Fg}{M M':Am}{H H':Hp}(k:Keep M H M' H'){a:Addr}{o:DO}(e:H' a=H a)(h:RepO K M H a o):RepO K M' H' a o:=by
 cases o with
 |lst ds=>obtain⟨xs,d,l⟩:=h;exact⟨xs,e.trans d,l.keep k⟩
 |dk i=>obtain⟨xs,d,l⟩:=h;exact⟨xs,e.trans d,Paired.imp (λ_ _ z=>⟨z.1,z.2.keep k⟩) l⟩
 |dt i=>obtain⟨xs,d,l⟩:=h;exact⟨xs,e.trans d,Paired.imp (λ_ _ z=>⟨z.1,z.2.keep k⟩) l⟩
 |tb pos qual=>obtain⟨xs,d,l⟩:=h;exact⟨xs,e.trans d,l.keep k⟩
 |ex f j v=>exact j _ _ _ _ _ k e h
def Clt:HO->Prop
 |.lst _=>True
 |.ext _=>True
 |_=>False
structure Rp(K:Fg)(F:Am)(S:Sto)(H:Hp):Prop where
 obj:∀a o,S a=some o->RepO K (mt S F) H a o
 frm:∀a,F a->(∃u,H a=some u/\Clt u)/\S a=none
structure Ext(S:Sto)(H:Hp)(S':Sto)(H':Hp):Prop where
 keep:∀a o,S a=none->H a=some o->H' a=some o
 live:∀a,H a≠none->H' a≠none
 new:∀a,S' a≠none->S a≠none\/H a=none
theorem Ext.refl(S:Sto)(H:Hp):Ext S H S H:=⟨λ_ _ _ h=>h,λ_ h=>h,λ_ h=>.inl h⟩
theorem Ext.sn{S S':Sto}{H H':Hp}(x:Ext S H S' H'){a:Addr}(h:S a=none)(h':H a≠none):S' a=none:=by
 cases e:S' a with
 |none=>rfl
 |some o =>
  rcases x.new a (by rw[e];exact λz=>by cases z) with z|z
  ·exact absurd h z
  ·exact absurd z h'
theorem Ext.trans{S S1 S2:Sto}{H H1 H2:Hp}(x:Ext S H S1 H1)(y:Ext S1 H1 S2 H2):Ext S H S2 H2 :=
 ⟨λa o h h'=>y.keep a o (x.sn h (by rw[h'];exact λz=>by cases z)) (x.keep a o h h'),λa h=>y.live a (x.live a h),λa h=>by
  rcases y.new a h with z|z
  ·exact x.new a z
  ·refine .inr (ba λn=>x.live a n z)⟩
theorem Ext.same{S:Sto}{H H':Hp}(s:Same H H'):Ext S H S H' where
 keep:=λa o _ h=>s a o h
 live:=λa h=>by
  cases e:H a with
  |none=>exact absurd e h
  |some o =>
   rw[s a o e];exact λz=>by cases z
 new:=λ_ h=>.inl h
theorem Ext.kp{F:Am}{S S':Sto}{H H':Hp}(x:Ext S H S' H'):Keep (mt S F) H (mt S' F) H':=⟨λa o h e=>x.keep a o (ba λn=>h (.inl n)) e,λa h e=>λz=>by
 rcases z with z|z
 ·rcases x.new a z with y|y
  ·exact h (.inl y)
  ·exact e y
 ·exact h (.inr z)⟩
section
variable{K:Fg}{F:Am}{S S':Sto}{H H':Hp}
theorem RepV.ext{d:D}{v:V}(h:RepV K (mt S F) H d v)(x:Ext S H S' H'):RepV K (mt S' F) H' d v:=h.keep x.kp
theorem RepL.ext{ds:List D}{vs:List V}(h:RepL K (mt S F) H ds vs)(x:Ext S H S' H'):RepL K (mt S' F) H' ds vs:=h.keep x.kp
theorem Rp.same(r:Rp K F S H)(s:Same H H'):Rp K F S H' where
 obj:=λa o h=>by
  have q:=r.obj a o h;have e:H' a=H a:=by
   cases z:H a with
   |none=>exact absurd z q.live
   |some u=>exact s a u z
  exact q.keep (Ext.same s).kp e
 frm:=λa h=>by
  obtain⟨⟨zs,e,ct⟩,h2⟩:=r.frm a h;exact⟨⟨zs,s a _ e,ct⟩,h2⟩
theorem Ext.write{a:Addr}{o:DO}{u:HO}(h:S a≠none):Ext S H (supd S a o) (upd H a u) where
 keep:=λb i h1 h2=>by
  have ne:b≠a:=by rintro rfl;exact h h1
  rw[upd_ne ne];exact h2
 live:=λb d=>by
  by_cases e:b=a
  ·subst e;rw[aQ7];exact λz=>by cases z
  ·rw[upd_ne e];exact d
 new:=λb d=>by
  by_cases e:b=a
  ·subst e;exact .inl h
  ·rw[aQb e] at d;exact .inl d
theorem Rp.write{a:Addr}{o:DO}{u:HO}(r:Rp K F S H)(h:S a≠none)(q:RepO K (mt (supd S a o) F) (upd H a u) a o):Rp K F (supd S a o) (upd H a u) where
 obj:=λb d hb=>by
  by_cases e:b=a
  ·subst e;rw[aQ9] at hb;cases hb;exact q
  ·rw[aQb e] at hb;exact(r.obj b d hb).keep (Ext.write h).kp (upd_ne e)
 frm:=λb hb=>by
  have e:b≠a:=by rintro rfl;exact h (r.frm b hb).2
  rw[upd_ne e,aQb e];exact r.frm b hb
theorem Rp.sn(r:Rp K F S H){a:Addr}(h:H a=none):S a=none:=by
 cases e:S a with
 |none=>rfl
 |some o=>exact absurd h (r.obj a o e).live
theorem Ext.mk'{a:Addr}{o:DO}{u:HO}(h:H a=none):Ext S H (supd S a o) (upd H a u) where
 keep:=λb i h1 h2=>by
  have ne:b≠a:=by rintro rfl;rw[h] at h2;cases h2
  rw[upd_ne ne];exact h2
 live:=λb d=>by
  have ne:b≠a:=by rintro rfl;exact d h
  rw[upd_ne ne];exact d
 new:=λb d=>by
  by_cases e:b=a
  ·subst e;exact .inr h
  ·rw[aQb e] at d;exact .inl d
theorem Rp.mk'{a:Addr}{o:DO}{u:HO}(r:Rp K F S H)(h:H a=none)(q:RepO K (mt (supd S a o) F) (upd H a u) a o):Rp K F (supd S a o) (upd H a u) where
 obj:=λb d hb=>by
  by_cases e:b=a
  ·subst e;rw[aQ9] at hb;cases hb;exact q
  ·rw[aQb e] at hb;exact(r.obj b d hb).keep (Ext.mk' h).kp (upd_ne e)
 frm:=λb hb=>by
  have e:b≠a:=by
   rintro rfl;obtain⟨⟨zs,e,_⟩,_⟩:=r.frm b hb;rw[h] at e;cases e
  rw[upd_ne e,aQb e];exact r.frm b hb
theorem Ext.less{S':Sto}(h:∀ a o,S' a=some o->S a=some o):Ext S H S' H:=⟨λ_ _ _ e=>e,λ_ e=>e,λa e=>.inl λz=>by
 cases q:S' a with
 |none=>exact e q
 |some o=>rw[h a o q] at z;cases z⟩
theorem Rp.less{S':Sto}(r:Rp K F S H)(h:∀a o,S' a=some o->S a=some o):Rp K F S' H where
 obj:=λa o e=>(r.obj a o (h a o e)).keep (Ext.less h).kp rfl
 frm:=λa e=>⟨(r.frm a e).1,by
  cases q:S' a with
  |none=>rfl
  |some o=>have:=h a o q;rw[(r.frm a e).2] at this;cases this⟩
theorem dJg{a:Addr}:∀b o,sdel S a b=some o->S b=some o:=λb o e=>by
 by_cases z:b=a
 ·subst z;rw[bX8] at e;cases e
 ·rwa [bJ2 z] at e
end
def look(g:Gm)(i:Nat)(k:D->Prop):Prop:=match i with
 |0=>match g with
  |some d::_=>k d
  |_=>False
 |n+1=>match g with
  |_::g=>look g n k
  |[]=>False
def RepG(K:Fg)(M:Am)(H:Hp):Gm->St->Prop
 |[],σ=>σ=[]
 |none::g,σ=>∃v τ,σ=v::τ/\RepG K M H g τ
 |some d::g,σ=>∃v τ,σ=some v::τ/\RepV K M H d v/\RepG K M H g τ
theorem RepG.keep{K:Fg}{M M':Am}{H H':Hp}(k:Keep M H M' H'):∀{g:Gm}{σ:St},RepG K M H g σ->RepG K M' H' g σ
 |[],_,h=>h
 |none::g,_,⟨v,τ,e,r⟩=>⟨v,τ,e,RepG.keep k r⟩
 |some d::g,_,⟨v,τ,e,q,r⟩=>⟨v,τ,e,q.keep k,RepG.keep k r⟩
theorem RepG.ext{K:Fg}{F:Am}{S S':Sto}{H H':Hp}{g:Gm}{σ:St}(h:RepG K (mt S F) H g σ)(x:Ext S H S' H'):RepG K (mt S' F) H' g σ:=h.keep x.kp
theorem RepG.look{K:Fg}{M:Am}{H:Hp}{k:D->Prop}:∀{g:Gm}{σ:St}{i:Nat},RepG K M H g σ->look g i k->∃v d,σ[i]?=some (some v)/\RepV K M H d v/\k d
 |[],_,0,_,h=>c6 h
 |[],_,_+1,_,h=>c6 h
 |none::_,_,0,_,h=>c6 h
 |some d::g,_,0,⟨v,τ,e,q,r⟩,h=>⟨v,d,by rw[e];rfl,q,h⟩
 |some d::g,_,i+1,⟨v,τ,e,q,r⟩,h=>by
  obtain⟨u,z,j,h1⟩:=RepG.look (i:=i) r h;exact⟨u,z,by rw[e];simpa using j,h1⟩
 |none::g,_,i+1,⟨v,τ,e,r⟩,h=>by
  obtain⟨u,z,j,h1⟩:=RepG.look (i:=i) r h;exact⟨u,z,by rw[e];simpa using j,h1⟩
theorem RepG.set{K:Fg}{M:Am}{H:Hp}{d:D}{v:V}(q:RepV K M H d v):∀{g:Gm}{σ:St}(i:Nat),RepG K M H g σ->RepG K M H (g.set i (some d)) (σ.set i (some v))
 |[],_,_,h=>by cases h;rfl
 |none::g,_,0,⟨w,τ,e,r⟩=>by subst e;exact⟨v,τ,rfl,q,r⟩
 |some _::g,_,0,⟨w,τ,e,_,r⟩=>by subst e;exact⟨v,τ,rfl,q,r⟩
 |none::g,_,i+1,⟨w,τ,e,r⟩=>by subst e;exact⟨w,_,rfl,RepG.set q i r⟩
 |some _::g,_,i+1,⟨w,τ,e,z,r⟩=>by subst e;exact⟨w,_,rfl,z,RepG.set q i r⟩
abbrev DK:=D->Sto->Prop
abbrev ED:=Gm->Sto->DK->Prop
abbrev TD:=Gm->Sto->(Bool->Sto->Prop)->Prop
abbrev AD:=Gm->Sto->(List D->Sto->Prop)->Prop
structure EndsD where
 nx:Gm->Sto->Prop
 rt:DK
 bk:Gm->Sto->Prop:=λ_ _=>False
 ct:Gm->Sto->Prop:=λ_ _=>False
abbrev SD:=EndsD->Gm->Sto->Prop
def upE(K:Fg)(t:ED):TE:=fun σ H Q=>∃F S Γ QD,Rp K F S H/\RepG K (mt S F) H Γ σ/\t Γ S QD/\∀v d H' S',Ext S H S' H'->Rp K F S' H'->RepV K (mt S' F) H' d v->QD d S'->Q v H'
theorem upE.el{K:Fg}{t:ED}{σ:St}{H:Hp}{Q:VK}{p:Prop}(h:upE K t σ H Q)(k:∀F S Γ QD,Rp K F S H->RepG K (mt S F) H Γ σ->t Γ S QD->(∀v d H' S',Ext S H S' H'->Rp K F S' H'->RepV K (mt S' F) H' d v->QD d S'->Q v H')->p):p:=by
 obtain⟨F,S,Γ,QD,h0,h1,h2,i⟩:=h;exact k F S Γ QD h0 h1 h2 i
def upT(K:Fg)(t:TD):TT:=fun σ H Q=>∃F S Γ QD,Rp K F S H/\RepG K (mt S F) H Γ σ/\t Γ S QD/\∀b H' S',Ext S H S' H'->Rp K F S' H'->QD b S'->Q b H'
theorem upT.el{K:Fg}{t:TD}{σ:St}{H:Hp}{Q:Bool->Hp->Prop}{p:Prop}(h:upT K t σ H Q)(k:∀F S Γ QD,Rp K F S H->RepG K (mt S F) H Γ σ->t Γ S QD->(∀b H' S',Ext S H S' H'->Rp K F S' H'->QD b S'->Q b H')->p):p:=by
 obtain⟨F,S,Γ,QD,h0,h1,h2,d⟩:=h;exact k F S Γ QD h0 h1 h2 d
def upA(K:Fg)(t:AD):TA:=fun σ H Q=>∃F S Γ QD,Rp K F S H/\RepG K (mt S F) H Γ σ/\t Γ S QD/\∀vs ds H' S',Ext S H S' H'->Rp K F S' H'->RepL K (mt S' F) H' ds vs->QD ds S'->Q vs H'
theorem upA.el{K:Fg}{t:AD}{σ:St}{H:Hp}{Q:List V->Hp->Prop}{p:Prop}(h:upA K t σ H Q)(k:∀F S Γ QD,Rp K F S H->RepG K (mt S F) H Γ σ->t Γ S QD->(∀vs ds H' S',Ext S H S' H'->Rp K F S' H'->RepL K (mt S' F) H' ds vs->QD ds S'->Q vs H')->p):p:=by
 obtain⟨F,S,Γ,QD,h0,h1,h2,d⟩:=h;exact k F S Γ QD h0 h1 h2 d
structure CnS(K:Fg)(F:Am)(S:Sto)(H:Hp)(E:EndsD)(D':Ends):Prop where
 nx:∀Γ' S' σ' H',Ext S H S' H'->Rp K F S' H'->RepG K (mt S' F) H' Γ' σ'->E.nx Γ' S'->D'.nx σ' H'
 rt:∀v d H' S',Ext S H S' H'->Rp K F S' H'->RepV K (mt S' F) H' d v->E.rt d S'->D'.rt v H'
 bk:∀Γ' S' σ' H',Ext S H S' H'->Rp K F S' H'->RepG K (mt S' F) H' Γ' σ'->E.bk Γ' S'->D'.bk σ' H'
 ct:∀Γ' S' σ' H',Ext S H S' H'->Rp K F S' H'->RepG K (mt S' F) H' Γ' σ'->E.ct Γ' S'->D'.ct σ' H'
theorem CnS.ext{K:Fg}{F:Am}{S S1:Sto}{H H1:Hp}{E:EndsD}{D':Ends}(c:CnS K F S H E D')(x:Ext S H S1 H1):CnS K F S1 H1 E D' :=
 ⟨fun Γ' S' σ' H' y=>c.nx Γ' S' σ' H' (x.trans y),λv d H' S' y=>c.rt v d H' S' (x.trans y),fun Γ' S' σ' H' y=>c.bk Γ' S' σ' H' (x.trans y),fun Γ' S' σ' H' y=>c.ct Γ' S' σ' H' (x.trans y)⟩
def upS(K:Fg)(t:SD):TS:=λD' σ H=>∃F S Γ E,Rp K F S H/\RepG K (mt S F) H Γ σ/\t E Γ S/\CnS K F S H E D'
theorem upS.el{K:Fg}{t:SD}{D':Ends}{σ:St}{H:Hp}{p:Prop}(h:upS K t D' σ H)(k:∀F S Γ E,Rp K F S H->RepG K (mt S F) H Γ σ->t E Γ S->CnS K F S H E D'->p):p:=by
 obtain⟨F,S,Γ,E,h0,h1,h2,d⟩:=h;exact k F S Γ E h0 h1 h2 d
structure PD(K:Fg)(X:Cx)(e:Expr)(t:ED):Prop where
 o:PE X e (upE K t)
structure PTD(K:Fg)(X:Cx)(e:Expr)(t:TD):Prop where
 o:PT X e (upT K t)
structure PAD(K:Fg)(X:Cx)(es:List Expr)(t:AD):Prop where
 o:PA X es (upA K t)
structure PSD(K:Fg)(X:Cx)(st:Stmt)(t:SD):Prop where
 o:PS X st (upS K t)
structure PSsD(K:Fg)(X:Cx)(st:List Stmt)(t:SD):Prop where
 o:PSs X st (upS K t)
section
variable{X:Cx}{K:Fg}
theorem PD.of{e:Expr}{te:TE}{t:ED}(h:PE X e te)(i:∀σ H Q,upE K t σ H Q->te σ H Q):PD K X e t:=⟨λpins s σ H Q I q=>h pins s σ H Q I (i σ H Q q)⟩
theorem PTD.of{e:Expr}{te:TT}{t:TD}(h:PT X e te)(i:∀σ H Q,upT K t σ H Q->te σ H Q):PTD K X e t:=⟨λpins s σ H Q I q=>h pins s σ H Q I (i σ H Q q)⟩
theorem PAD.of{e:List Expr}{te:TA}{t:AD}(h:PA X e te)(i:∀σ H Q,upA K t σ H Q->te σ H Q):PAD K X e t:=⟨λpos pins s σ H Q I q=>h pos pins s σ H Q I (i σ H Q q)⟩
theorem PSD.of{e:Stmt}{te:TS}{t:SD}(h:PS X e te)(i:∀D' σ H,upS K t D' σ H->te D' σ H):PSD K X e t:=⟨λpins s σ H D' I q=>h pins s σ H D' I (i D' σ H q)⟩
theorem PSsD.of{e:List Stmt}{te:TS}{t:SD}(h:PSs X e te)(i:∀D' σ H,upS K t D' σ H->te D' σ H):PSsD K X e t:=⟨λpins s σ H D' I q=>h pins s σ H D' I (i D' σ H q)⟩
def dVar(i:Nat):ED:=fun Γ S Q=>look Γ i λd=>Q d S
def dC(d:D):ED:=λ_ S Q=>Q d S
theorem dv(i:Nat){x:Str}{pos:Pos}(hN:X.N[i]?=some x:=by rfl)(hv:Vis X.env.scope x:=by first|exact bB rfl|exact ie (bB rfl)|exact ie (ie rfl))(hd:(x==("__debug__":Str))=false:=by decide)
  (hcd:(x==("__classdict__":Str))=false:=by decide):PD K X (.Name x pos) (dVar i):=.of (eZd hN hv hd hcd) fun σ H Q j=>j.el λF S Γ QD r g h c=>by
 obtain⟨v,d,e,q,z⟩:=g.look h;exact⟨v,e,c v d H S (Ext.refl _ _) r q z⟩
theorem up_c{d:D}{v:V}(h:∀M H,RepV K M H d v):∀σ H Q,upE K (dC d) σ H Q->tC v σ H Q:=fun σ H Q i=>i.el λF S Γ QD r g q c=>c v d H S (Ext.refl _ _) r (h _ _) q
theorem aQ4{i j pos}:PD K X (.Constant (.int i) j pos) (dC (.int i)):=.of eZe (up_c λ_ _=>by unfold RepV;rfl)
theorem e_bl{b j pos}:PD K X (.Constant (.bool b) j pos) (dC (.bl b)):=.of fQg (up_c λ_ _=>by unfold RepV;rfl)
theorem aXf{j pos}:PD K X (.Constant .none j pos) (dC .non):=.of eZf (up_c λ_ _=>by unfold RepV;rfl)
theorem aXr{x j pos}:PD K X (.Constant (.str x) j pos) (dC (.str x)):=.of eZg (up_c λ_ _=>by unfold RepV;rfl)
def Cn(K:Fg)(F:Am)(S:Sto)(H:Hp)(QD:DK)(Q:VK):Prop:=∀v d H' S',Ext S H S' H'->Rp K F S' H'->RepV K (mt S' F) H' d v->QD d S'->Q v H'
abbrev R2D:=D->D->Sto->DK->Prop
def OpD(K:Fg)(r:R2)(rd:R2D):Prop:=∀F S H d e x y Q QD,Rp K F S H->RepV K (mt S F) H d x->RepV K (mt S F) H e y->rd d e S QD->Cn K F S H QD Q->r x y H Q
def dOp(rd:R2D)(ta tb:ED):ED:=fun Γ S Q=>ta Γ S λx S1=>tb Γ S1 λy S2=>rd x y S2 Q
theorem dQr{r:R2}{rd:R2D}{ta tb:ED}(h:OpD K r rd):∀σ H Q,upE K (dOp rd ta tb) σ H Q->tOp r (upE K ta) (upE K tb) σ H Q:=fun σ H Q B=>B.el λF S Γ QD r g q c =>
 ⟨F,S,Γ,_,r,g,q,λx d H1 Z j L v1 O=>⟨F,Z,Γ,_,L,g.ext j,O,λy e H2 Y i J v2 N=>h F Y H2 d e x y Q QD J (v1.ext i) v2 N λv z H3 U D=>c v z H3 U (j.trans (i.trans D))⟩⟩
theorem e_op{op:Operator}{r:R2}{rd:R2D}{a b:Expr}{ta tb:ED}{pos:Pos}(ho:OpR X (eg op) r)(h:OpD K r rd)(ha:PD K X a ta)(hb:PD K X b tb):PD K X (.BinOp a op b pos) (dOp rd ta tb):=.of (fQp ho ha.o hb.o) (dQr h)
theorem dJh{op:CmpOp}{r:R2}{rd:R2D}{a b:Expr}{ta tb:ED}{pos:Pos}(ho:OpR X (cA op) r)(h:OpD K r rd)(ha:PD K X a ta)(hb:PD K X b tb)(hm:dU op b=false):PD K X (.Compare a [op] [b] pos) (dOp rd ta tb):=.of (dXl ho ha.o hb.o hm) (dQr h)
def aJ7(t:ED):TD:=fun Γ S Q=>t Γ S λd S1=>∃b,d=.bl b/\Q b S1
theorem eJ0{r:R2}{rd:R2D}{ta tb:ED}(h:OpD K r rd):∀ σ H Q,upT K (aJ7 (dOp rd ta tb)) σ H Q->eZy (tOp r (upE K ta) (upE K tb)) σ H Q:=fun σ H Q q=>dQr (rd:=rd) h σ H _ (by
 obtain⟨F,S,Γ,QD,r,g,q,c⟩:=q;refine⟨F,S,Γ,_,r,g,q,λv d H1 B i j v1 ⟨b,e,z⟩=>?_⟩;subst e;unfold RepV at v1;exact⟨b,v1,c b H1 B i j z⟩)
theorem aJ0{op:CmpOp}{r:R2}{rd:R2D}{a b:Expr}{ta tb:ED}{pos:Pos}(ho:OpR X (cA op) r)(h:OpD K r rd)(ha:PD K X a ta)(hb:PD K X b tb)(hm:dU op b=false):PTD K X (.Compare a [op] [b] pos) (aJ7 (dOp rd ta tb)):=.of (dXm ho ha.o hb.o hm) (eJ0 h)
end
end L2
set_option maxHeartbeats 4000000
namespace L2
open PySem PySem.Spec PyProof.Rows
section
variable{K:Fg}{F:Am}{S:Sto}{H:Hp}{QD:DK}{Q:VK}
theorem Cn.here(c:Cn K F S H QD Q)(r:Rp K F S H){d:D}{v:V}(h:RepV K (mt S F) H d v)(q:QD d S):Q v H:=c v d H S (Ext.refl _ _) r h q
theorem Cn.int(c:Cn K F S H QD Q)(r:Rp K F S H){i:Int}(q:QD (.int i) S):Q (.int i) H:=c.here r (by unfold RepV;rfl) q
theorem Cn.str(c:Cn K F S H QD Q)(r:Rp K F S H){i:Str}(q:QD (.str i) S):Q (.str i) H:=c.here r (by unfold RepV;rfl) q
theorem Cn.bl(c:Cn K F S H QD Q)(r:Rp K F S H){i:Bool}(q:QD (.bl i) S):Q (.bl i) H:=c.here r (by unfold RepV;rfl) q
theorem Rp.nmt(r:Rp K F S H){a:Addr}(h:H a=none):¬ mt S F a:=λz=>by
 rcases z with z|z
 ·exact z (r.sn h)
 ·obtain⟨⟨zs,e,_⟩,_⟩:=r.frm a z;rw[h] at e;cases e
theorem Cn.tup(c:Cn K F S H QD Q)(r:Rp K F S H){l:Addr}(h:H l=none){ds:List D}{xs:List V}(rl:RepL K (mt S F) H ds xs)(q:QD (.tup ds) S):Q (.ref l) (upd H l (.tup xs)):=by
 have x:Ext S H S (upd H l (.tup xs)):=Ext.same (aZc h);refine c _ _ _ S x (r.same (aZc h)) ?_ q;unfold RepV;exact⟨l,xs,rfl,.inl ⟨r.nmt h,.inl aQ7⟩,rl.ext x⟩
theorem Cn.lst(c:Cn K F S H QD Q)(r:Rp K F S H){l:Addr}(h:H l=none){ds:List D}{xs:List V}(rl:RepL K (mt S F) H ds xs)(q:QD (.lst ds) S):Q (.ref l) (upd H l (.lst xs)):=by
 have x:Ext S H S (upd H l (.lst xs)):=Ext.same (aZc h);refine c _ _ _ S x (r.same (aZc h)) ?_ q;unfold RepV;exact⟨l,xs,rfl,.inl ⟨r.nmt h,.inl aQ7⟩,rl.ext x⟩
theorem Cn.lstR(c:Cn K F S H QD Q)(r:Rp K F S H){l:Addr}(h:H l=none){ds:List D}{xs:List V}(rl:RepL K (mt S F) H ds xs)(q:QD (.ref l) (supd S l (.lst ds))):Q (.ref l) (upd H l (.lst xs)):=by
 have x:Ext S H (supd S l (.lst ds)) (upd H l (.lst xs)):=Ext.mk' h;exact c _ _ _ _ x (r.mk' h ⟨xs,aQ7,rl.ext x⟩) (by unfold RepV;rfl) q
def newL(b:Bool)(ds:List D)(S:Sto)(Q:DK):Prop:=match b with
 |false=>Q (.lst ds) S
 |true=>∀p,S p=none->Q (.ref p) (supd S p (.lst ds))
theorem Cn.new(c:Cn K F S H QD Q)(r:Rp K F S H){b:Bool}{l:Addr}(h:H l=none){ds:List D}{xs:List V}(rl:RepL K (mt S F) H ds xs)(q:newL b ds S QD):Q (.ref l) (upd H l (.lst xs)):=by
 cases b with
 |false=>exact c.lst r h rl q
 |true=>exact c.lstR r h rl (q l (r.sn h))
def lsIs(S:Sto):D->List D->Prop
 |.lst ys,xs=>ys=xs
 |.ref a,xs=>S a=some (.lst xs)
 |_,_=>False
def sqIs(S:Sto):D->List D->Prop
 |.tup ys,xs=>ys=xs
 |.lst ys,xs=>ys=xs
 |.ref a,xs=>S a=some (.lst xs)
 |_,_=>False
theorem lsIs.sl(r:Rp K F S H){d:D}{v:V}{ds:List D}(h:RepV K (mt S F) H d v)(l:lsIs S d ds):∃a xs,v=.ref a/\SqL K H a xs/\RepL K (mt S F) H ds xs:=by
 cases d with
 |lst ys =>
  cases l;unfold RepV at h;obtain⟨a,xs,e,q,z⟩:=h;exact⟨a,xs,e,q.sq,z⟩
 |ref a =>
  unfold RepV at h;obtain⟨xs,e,z⟩:=r.obj a _ l;exact⟨a,xs,h,SqL.of e,z⟩
 |_=>exact l.elim
theorem tup.st{ds:List D}{v:V}(h:RepV K (mt S F) H (.tup ds) v):∃a xs,v=.ref a/\SqT K H a xs/\RepL K (mt S F) H ds xs:=by
 unfold RepV at h;obtain⟨a,xs,e,t,z⟩:=h;exact⟨a,xs,e,t.sq,z⟩
theorem sqIs.sq(r:Rp K F S H){d:D}{v:V}{ds:List D}(h:RepV K (mt S F) H d v)(l:sqIs S d ds):∃a xs,v=.ref a/\(SqL K H a xs\/SqT K H a xs)/\RepL K (mt S F) H ds xs:=by
 cases d with
 |tup ys =>
  cases l;obtain⟨a,xs,e,t,z⟩:=tup.st h;exact⟨a,xs,e,.inr t,z⟩
 |lst ys =>
  obtain⟨a,xs,e,t,z⟩:=lsIs.sl r h (show lsIs S (.lst ys) ds from l)
  exact⟨a,xs,e,.inl t,z⟩
 |ref a =>
  obtain⟨a,xs,e,t,z⟩:=lsIs.sl r h (show lsIs S (.ref a) ds from l)
  exact⟨a,xs,e,.inl t,z⟩
 |_=>exact l.elim
theorem rint{i:Int}{v:V}(h:RepV K (mt S F) H (.int i) v):v=.int i:=by unfold RepV at h;exact h
theorem rstr{i:Str}{v:V}(h:RepV K (mt S F) H (.str i) v):v=.str i:=by unfold RepV at h;exact h
theorem rbl{i:Bool}{v:V}(h:RepV K (mt S F) H (.bl i) v):v=.bl i:=by unfold RepV at h;exact h
theorem rref{i:Addr}{v:V}(h:RepV K (mt S F) H (.ref i) v):v=.ref i:=by unfold RepV at h;exact h
theorem rnon{v:V}(h:RepV K (mt S F) H .non v):v=.non:=by unfold RepV at h;exact h
end
section
variable{X:Cx}{K:Fg}
def eJ1(K:Fg):R2:=λx y H Q=>∃l b xs zs,x=.ref l/\y=.ref b/\SqL K H l xs/\SqL K H b zs/\xs.length+zs.length<=sizeLine/\∀p,H p=none->Q (.ref p) (upd H p (.lst (xs++zs)))
theorem dJi(hK:X.K=K:=by rfl):OpR X (eg .Add) (eJ1 K):=by
 subst hK;intro pins s σ H x y v u Q I rx ry h;obtain⟨l,b,xs,zs,rfl,rfl,hH,hB,hz,q⟩:=h;cases rx;cases ry;obtain⟨its,r,⟨⟨cls,dd,data,sl⟩,n,L,N,hd,z⟩,Z⟩:=I.list hH;obtain⟨d,J,⟨⟨O,dd2,data2,D⟩,U,j,B,hd2,i⟩,Y⟩:=I.list hB;simp only at N hd z B hd2 i;subst N hd z B hd2 i;have h1:=r.length;have h2:=J.length;refine iY ⟨_,L,rfl⟩ ⟨_,j,rfl⟩ noFill_list_add seq_list_add PySem.F.slot_list_add PySem.F.entry_list_add (PySem.F.args_list_add_2 _ _)
  (list_addW l b its.toArray d.toArray n U none none sl D (by rw[ar,ar];lia)) ⟨L,j,?_⟩
 have ea:its.toArray++d.toArray=(its++d).toArray:=by simp
 rw[ea];exact⟨.ref _,_,I.lnew (t':=s.toks) (r.append J) (by rw[aG];lia),rfl,q _ I.fresh⟩
def eJ2(K:Fg):R2:=λx y H Q=>∃a b ys,x=.ref a/\y=.ref b/\SqT K H a []/\SqT K H b ys/\Q (.ref b) H
theorem dJj(hK:X.K=K:=by rfl):OpR X (eg .Add) (eJ2 K):=by
 subst hK;intro pins s σ H x y v u Q I rx ry h;obtain⟨a,b,ys,rfl,rfl,Y,U,q⟩:=h;cases rx;cases ry;obtain⟨its,r1,N,_⟩:=I.tuple Y;obtain⟨B,Z,p2,_⟩:=I.tuple U;cases r1;obtain⟨⟨cls,dd,data,sl⟩,D,J,n,hd⟩:=id N;obtain⟨⟨L,z,data2,j⟩,d,i,O,hd2⟩:=id p2;simp only at J hd i hd2;subst J hd i hd2;exact iY ⟨_,D,rfl⟩ ⟨_,d,rfl⟩ iE seq_tuple_add fV fN (fF _ _)
   (tuple_addW0 a b _ _ n O dd z sl j rfl) ⟨D,d,⟨.ref b,H,I,rfl,q⟩⟩
def addD(b:Bool):R2D:=λd e S Q=>match d,e with
 |.int i,.int j=>Q (.int (i+j)) S
 |.str x,.str y=>x.length+y.length<=sizeLine/\Q (.str (x++y)) S
 |.tup xs,.tup ys=>xs.length+ys.length<=sizeLine/\Q (.tup (xs++ys)) S
 |d,e=>∃xs ys,lsIs S d xs/\lsIs S e ys/\xs.length+ys.length<=sizeLine/\newL b (xs++ys) S Q
def dJk(K:Fg):R2:=λx y H Q=>rI0 (λi j=>.int (i+j)) x y H Q\/(∃i j,x=.str i/\y=.str j/\i.length+j.length<=sizeLine/\Q (.str (i++j)) H)\/dXr K x y H Q\/eJ2 K x y H Q\/eJ1 K x y H Q
theorem dJl(hK:X.K=K:=by rfl):OpR X (eg .Add) (dJk K):=op_add.or (op_add_str.or ((dQm hK).or ((dJj hK).or (dJi hK))))
theorem eJ3{b:Bool}:OpD K (dJk K) (addD b):=by
 intro F S H d e x y Q QD r hd he h c;have lists:(∃xs ys,lsIs S d xs/\lsIs S e ys/\xs.length+ys.length<=sizeLine/\newL b (xs++ys) S QD)->dJk K x y H Q:=by
  rintro⟨xs,ys,L,J,N,q⟩;obtain⟨a,us,rfl,s1,v⟩:=lsIs.sl r hd L;obtain⟨a2,us2,rfl,s2,p2⟩:=lsIs.sl r he J;exact .inr (.inr (.inr (.inr ⟨a,a2,us,us2,rfl,rfl,s1,s2,by rw[v.length,p2.length];exact N,λp B=>c.new r B (v.app p2) q⟩)))
 cases d with
 |int i =>
  cases e with
  |int j=>rw[rint hd,rint he];exact .inl ⟨i,j,rfl,rfl,c.int r h⟩
  |_=>exact lists h
 |str i =>
  cases e with
  |str j=>rw[rstr hd,rstr he];exact .inr (.inl ⟨i,j,rfl,rfl,h.1,c.str r h.2⟩)
  |_=>exact lists h
 |tup xs =>
  cases e with
  |tup ys =>
   obtain⟨a,us,rfl,s1,v⟩:=tup.st hd;obtain⟨a2,us2,rfl,s2,p2⟩:=tup.st he
   by_cases D:xs=[]
   ·subst D;unfold RepL at v;subst v;exact .inr (.inr (.inr (.inl ⟨a,a2,us2,rfl,rfl,s1,s2,c.here r he (by simpa using h.2)⟩)))
   ·refine .inr (.inr (.inl ⟨a,a2,us,us2,rfl,rfl,s1,s2,λz=>D ?_,by rw[v.length,p2.length];exact h.1,λz=>?_,λ_ p B=>c.tup r B (v.app p2) h.2⟩))
    ·have:=v.length;rw[z] at this;exact bX this.symm
    ·have h0:ys=[]:=by have:=p2.length;rw[z] at this;exact bX this.symm
     subst h0;exact c.here r hd (by simpa using h.2)
  |_=>exact lists h
 |_=>exact lists h
def iiD(C:Int->Int->Prop)(g:Int->Int->D):R2D:=λd e S Q=>match d,e with
 |.int i,.int j=>C i j/\Q (g i j) S
 |_,_=>False
theorem od_I{C:Int->Int->Prop}{g:Int->Int->Int}:OpD K (rI C λi j=>.int (g i j)) (iiD C λi j=>.int (g i j)):=by
 intro F S H d e x y Q QD r hd he h c;cases d with
 |int i =>
  cases e with
  |int j=>rw[rint hd,rint he];exact⟨i,j,rfl,rfl,h.1,c.int r h.2⟩
  |_=>exact h.elim
 |_=>exact h.elim
def iiD0(g:Int->Int->D):R2D:=λd e S Q=>match d,e with
 |.int i,.int j=>Q (g i j) S
 |_,_=>False
theorem fZ2{g:Int->Int->Int}:OpD K (rI0 λi j=>.int (g i j)) (iiD0 λi j=>.int (g i j)):=by
 intro F S H d e x y Q QD r hd he h c;cases d with
 |int i =>
  cases e with
  |int j=>rw[rint hd,rint he];exact⟨i,j,rfl,rfl,c.int r h⟩
  |_=>exact h.elim
 |_=>exact h.elim
theorem eJ4{g:Int->Int->Bool}:OpD K (rI0 λi j=>.bl (g i j)) (iiD0 λi j=>.bl (g i j)):=by
 intro F S H d e x y Q QD r hd he h c;cases d with
 |int i =>
  cases e with
  |int j=>rw[rint hd,rint he];exact⟨i,j,rfl,rfl,c.bl r h⟩
  |_=>exact h.elim
 |_=>exact h.elim
section
variable{a b:Expr}{ta tb:ED}{pos:Pos}
theorem aQw{k:Bool}(ha:PD K X a ta)(hb:PD K X b tb)(hK:X.K=K:=by rfl):PD K X (.BinOp a .Add b pos) (dOp (addD k) ta tb):=e_op (dJl hK) eJ3 ha hb
theorem fZ3(ha:PD K X a ta)(hb:PD K X b tb):PD K X (.BinOp a .Sub b pos) (dOp (iiD0 λi j=>.int (i-j)) ta tb):=e_op eZt fZ2 ha hb
theorem dQs(ha:PD K X a ta)(hb:PD K X b tb):PD K X (.BinOp a .Mult b pos) (dOp (iiD CMul λi j=>.int (i*j)) ta tb):=e_op eZu od_I ha hb
theorem bX9(ha:PD K X a ta)(hb:PD K X b tb):PD K X (.BinOp a .Mod b pos) (dOp (iiD (λ_ j=>0<j) λi j=>.int (i%j)) ta tb):=e_op eZv od_I ha hb
theorem cXm(ha:PD K X a ta)(hb:PD K X b tb):PD K X (.BinOp a .FloorDiv b pos) (dOp (iiD CDiv λi j=>.int (i/j)) ta tb):=e_op dXj od_I ha hb
theorem fZ4(ha:PD K X a ta)(hb:PD K X b tb):PD K X (.BinOp a .Pow b pos) (dOp (iiD CPow λi j=>.int (i^j.toNat)) ta tb):=e_op eZw od_I ha hb
end
def dNil:AD:=λ_ S Q=>Q [] S
def bJ3(ta:ED)(tr:AD):AD:=fun Γ S Q=>ta Γ S λx S1=>tr Γ S1 λxs S2=>Q (x::xs) S2
theorem aQ1:PAD K X [] dNil:=.of bJu fun σ H Q d=>d.el λF S Γ QD r g q c=>c [] [] H S (Ext.refl _ _) r RepL.nil q
theorem aQ0{e:Expr}{es:List Expr}{te:ED}{t:AD}(ha:PD K X e te)(hr:PAD K X es t)(hs:aC (e::es) X.env=(false,eval e X.env)::aC es X.env:=by rfl):PAD K X (e::es) (bJ3 te t) :=
 .of (bQr ha.o hr.o hs) fun σ H Q z=>z.el λF S Γ QD r g q c=>⟨F,S,Γ,_,r,g,q,λv d H1 U j J v1 N=>⟨F,U,Γ,_,J,g.ext j,N,λB ds H2 O i D v2 L=>c (v::B) (d::ds) H2 O (j.trans i) D (RepL.cons (v1.ext i) v2) L⟩⟩
def dTup(t:AD):ED:=fun Γ S Q=>t Γ S λds S1=>ds.length<=sizeLine/\Q (.tup ds) S1
def dLst(b:Bool)(t:AD):ED:=fun Γ S Q=>t Γ S λds S1=>ds.length<=sizeLine/\newL b ds S1 Q
theorem Cn.shift{F:Am}{S S1:Sto}{H H1:Hp}{QD:DK}{Q:VK}(c:∀v d H' S',Ext S H S' H'->Rp K F S' H'->RepV K (mt S' F) H' d v->QD d S'->Q v H')(x:Ext S H S1 H1):Cn K F S1 H1 QD Q:=λv z B j i=>c v z B j (x.trans i)
theorem aZ8{es:List Expr}{t:AD}{x1 pos}(h:PAD K X es t):PD K X (.Tuple es x1 pos) (dTup t):=.of (eX0 h.o) fun σ H Q i=>i.el λF S Γ QD r g q c =>
 ⟨F,S,Γ,_,r,g,q,λz ds H1 B x1 j v1 d=>⟨by rw[v1.length];exact d.1,λp v=>(Cn.shift c x1).tup j v v1 d.2⟩⟩
theorem bXa{b:Bool}{es:List Expr}{t:AD}{pos}(h:PAD K X es t):PD K X (.List es pos) (dLst b t):=.of (eX1 h.o) fun σ H Q i=>i.el λF S Γ QD r g q c =>
 ⟨F,S,Γ,_,r,g,q,λB ds H1 D j v v1 d=>⟨by rw[v1.length];exact d.1,λp z=>(Cn.shift c j).new v z v1 d.2⟩⟩
abbrev RCD:=List D->Sto->DK->Prop
def bQa(K:Fg)(r:List V->Hp->VK->Prop)(rd:RCD):Prop:=∀F S H ds vs Q QD,Rp K F S H->RepL K (mt S F) H ds vs->rd ds S QD->Cn K F S H QD Q->r vs H Q
def dCB(rd:RCD)(t:AD):ED:=fun Γ S Q=>t Γ S λds S1=>rd ds S1 Q
theorem eJ5{r:List V->Hp->VK->Prop}{rd:RCD}{t:AD}(h:bQa K r rd):∀σ H Q,upE K (dCB rd t) σ H Q->tCB r (upA K t) σ H Q:=fun σ H Q d=>d.el λF S Γ QD r g q c =>
 ⟨F,S,Γ,_,r,g,q,λj ds H1 B i v v1 z=>h F B H1 ds j Q QD v v1 z (Cn.shift c i)⟩
theorem aXa{id:String}{r:List V->Hp->VK->Prop}{rd:RCD}{x:Str}{p pos:Pos}{e:Expr}{es:List Expr}{t:AD}(hc:CallR X (.builtin id) r)(h:bQa K r rd)(hg:Gl X x)(hm:X.mg x=none)(hv:cb x=some (.builtin id))(ha:PAD K X (e::es) t)(hn:x ≠ "__name__":=by decide)(hdb:(x==("__debug__":Str))=false:=by decide)
  (he:aC (e::es) X.env=(false,eval e X.env)::aC es X.env:=by rfl) (hpl:(cD pos (aC es X.env)).any (·.1)=false:=by rfl):PD K X (.Call (.Name x p) (e::es) [] pos) (dCB rd t):=.of (bQs hc hg hm hv ha.o hn hdb he hpl) (eJ5 h)
theorem bZ6{T:String}{r:List V->Hp->VK->Prop}{rd:RCD}{x:Str}{p pos:Pos}{e:Expr}{es:List Expr}{t:AD}(hc:CallR X (.type T) r)(h:bQa K r rd)(hg:Gl X x)(hm:X.mg x=none)(hv:cb x=some (.type T))(ha:PAD K X (e::es) t)(hn:x ≠ "__name__":=by decide)(hdb:(x==("__debug__":Str))=false:=by decide)
  (he:aC (e::es) X.env=(false,eval e X.env)::aC es X.env:=by rfl) (hpl:(cD pos (aC es X.env)).any (·.1)=false:=by rfl):PD K X (.Call (.Name x p) (e::es) [] pos) (dCB rd t):=.of (bZv hc hg hm hv ha.o hn hdb he hpl) (eJ5 h)
end
mutual
def beqD:D->D->Bool
 |.non,.non=>true
 |.bl a,.bl b=>a==b
 |.int a,.int b=>decide (a=b)
 |.str a,.str b=>decide (a=b)
 |.ty a,.ty b=>decide (a=b)
 |.ref a,.ref b=>decide (a=b)
 |.tup a,.tup b=>bJ4 a b
 |.lst a,.lst b=>bJ4 a b
 |_,_=>false
def bJ4:List D->List D->Bool
 |[],[]=>true
 |a::as,b::bs=>beqD a b&&bJ4 as bs
 |_,_=>false
end
theorem bqE{α:Type}[BEq α][LawfulBEq α]{c:α->D}(inj:∀x y,c x=c y->x=y)(x y:α):(x==y)=true↔c x=c y:=⟨λh=>congrArg c (beq_iff_eq.mp h),λh=>beq_iff_eq.mpr (inj x y h)⟩
theorem bdE{α:Type}{c:α->D}(inj:∀x y,c x=c y->x=y)(x y:α){d:Decidable (x=y)}:@decide (x=y) d=true↔c x=c y:=⟨λh=>congrArg c (of_decide_eq_true h),λh=>decide_eq_true (inj x y h)⟩
theorem bnE{p:Prop}(h:¬ p):false=true↔p:=⟨λz=>absurd z dZ,λz=>absurd z h⟩
mutual
theorem cXn:∀{a b:D},beqD a b=true↔a=b
 |.non,b=>by
  cases b with
  |non=>exact⟨λ_=>rfl,λ_=>rfl⟩
  |_=>exact bnE (λh=>by cases h)
 |.bl x,b=>by
  cases b with
  |bl y=>exact bqE (λ_ _ h=>by injection h) x y
  |_=>exact bnE (λh=>by cases h)
 |.int x,b=>by
  cases b with
  |int y=>exact bdE (λ_ _ h=>by injection h) x y
  |_=>exact bnE (λh=>by cases h)
 |.str x,b=>by
  cases b with
  |str y=>exact bdE (λ_ _ h=>by injection h) x y
  |_=>exact bnE (λh=>by cases h)
 |.ty x,b=>by
  cases b with
  |ty y=>exact bdE (λ_ _ h=>by injection h) x y
  |_=>exact bnE (λh=>by cases h)
 |.ref x,b=>by
  cases b with
  |ref y=>exact bdE (λ_ _ h=>by injection h) x y
  |_=>exact bnE (λh=>by cases h)
 |.tup as,b=>by
  cases b with
  |tup bs=>exact beqDs_eq.trans ⟨λh=>congrArg D.tup h,λh=>by injection h⟩
  |_=>exact bnE (λh=>by cases h)
 |.lst as,b=>by
  cases b with
  |lst bs=>exact beqDs_eq.trans ⟨λh=>congrArg D.lst h,λh=>by injection h⟩
  |_=>exact bnE (λh=>by cases h)
theorem beqDs_eq:∀{a b:List D},bJ4 a b=true↔a=b
 |[],b=>by cases b <;> simp[bJ4]
 |a::as,[]=>by simp[bJ4]
 |a::as,b::bs=>by
  simp only[bJ4,bb,List.cons.injEq];rw[cXn,beqDs_eq]
end
instance:DecidableEq D:=λa b=>decidable_of_iff _ (cXn (a:=a) (b:=b))
def okE:Nat->D->D->Bool
 |_,.int _,.int _=>true
 |_,.str _,.str _=>true
 |_,.bl _,.bl _=>true
 |_,.non,.non=>true
 |_,.non,.int _=>true
 |_,.int _,.non=>true
 |_,.non,.str _=>true
 |_,.str _,.non=>true
 |n+1,.non,.tup _=>true
 |n+1,.tup _,.non=>true
 |n+1,.tup xs,.tup ys=>(xs.zip ys).all λp=>okE n p.1 p.2
 |n+1,.lst xs,.lst ys=>(xs.zip ys).all λp=>okE n p.1 p.2
 |_,_,_=>false
abbrev okEs(n:Nat)(xs ys:List D):Bool:=(xs.zip ys).all λp=>okE n p.1 p.2
section
variable{X:Cx}{pins:List (Addr×Obj)}{σ:St}{H:Hp}{s:ah}{M:Am}
structure Eq3(A:a8)(s:ah)(u v:ad)(b:Bool):Prop where
 eq:cR A s u v b
 rc:SeqAt.RcAt A s u v b
 ne:cm A s u v (!b)
theorem dJm{xs ys:List D}:decide (D.tup xs=D.tup ys)=decide (xs=ys):=by simp
theorem dJn{xs ys:List D}:decide (D.lst xs=D.lst ys)=decide (xs=ys):=by simp
theorem dJo{xs ys:List D}{j:Nat}{a b:D}(h1:xs[j]?=some a)(h2:ys[j]?=some b):(a,b)∈xs.zip ys:=by
 have i:j<xs.length:=by
  rcases Nat.lt_or_ge j xs.length with z|z
  ·exact z
  ·rw[bV z] at h1;cases h1
 have d:j<ys.length:=by
  rcases Nat.lt_or_ge j ys.length with z|z
  ·exact z
  ·rw[bV z] at h2;cases h2
 have J:xs[j]=a:=by rw[ag i] at h1;exact aS h1
 have B:ys[j]=b:=by rw[ag d] at h2;exact aS h2
 have v:j<(xs.zip ys).length:=by rw[List.length_zip];lia
 have:(xs.zip ys)[j]=(a,b):=by rw[List.getElem_zip,J,B]
 rw[<- this];exact dX v
theorem dZy{n:Nat}{xs ys:List V}{us vs:List ad}{ds es:List D}{A:a8}(p:RepL X.K M H ds xs)(p':RepL X.K M H es ys)(r:Vals xs us)(r':Vals ys vs)(hz:okEs n ds es=true)
  (ih:∀{d e:D}{x y:V}{u v:ad},RepV X.K M H d x->RepV X.K M H e y->RelV x u->RelV y v->okE n d e=true->Eq3 A s u v (decide (d=e))) :
  ∀j (h1:j<us.toArray.size) (h2:j<vs.toArray.size),cR A s us.toArray[j] vs.toArray[j] (decide (ds[j]?=es[j]?)):=by
 intro j h1 h2;simp only[ar] at h1 h2;have J:j<xs.length:=by have:=r.length;lia
 have B:j<ys.length:=by have:=r'.length;lia
 obtain⟨d,O,rd⟩:=p.get' (ag J);obtain⟨e,N,re⟩:=p'.get' (ag B);obtain⟨u,L,Y⟩:=r.get (ag J);obtain⟨v,ev,U⟩:=r'.get (ag B);have z:us[j]=u:=by rw[ag h1] at L;exact aS L
 have i:vs[j]=v:=by rw[ag h2] at ev;exact aS ev
 have:decide (ds[j]?=es[j]?)=decide (d=e):=by rw[O,N];simp
 rw[this];simp only[List.getElem_toArray];rw[z,i];exact(ih rd re Y U (bY.mp hz _ (dJo O N))).eq
theorem dZz{n:Nat}{a b:Addr}{xs ys:List V}{ds es:List D}{A:a8}(I:Inv X pins σ H s)(q:SqL X.K H a xs)(q':SqL X.K H b ys)(p:RepL X.K M H ds xs)(p':RepL X.K M H es ys)(hz:okEs n ds es=true)(hu:A.units+(n+1)<cE)
  (ih:∀{d e:D}{x y:V}{u v:ad},RepV X.K M H d x->RepV X.K M H e y->RelV x u->RelV y v->okE n d e=true->Eq3 A.in1 s u v (decide (d=e))) :
  SeqAt.RcAt A s (.ref a) (.ref b) (decide (ds=es))/\cm A s (.ref a) (.ref b) (!decide (ds=es)):=by
 obtain⟨us,N,pl,_⟩:=I.list q;obtain⟨vs,L,i,_⟩:=I.list q';have l1:=p.length;have Z:=p'.length;have Y:=N.length;have U:=L.length;have it:=dZy (A:=A.in1) p p' N L hz ih
 by_cases O:ds.length=es.length
 ·have z:us.toArray.size=vs.toArray.size:=by rw[ar,ar];lia
  have J:((a6 (us.toArray.size)).all λj=>decide (ds[j]?=es[j]?))=decide (ds=es):=by
   have:=cZz ds es us.toArray.size vs.toArray.size (by rw[ar];lia) (by rw[ar];lia)
   rw[z,Nat.min_self] at this;rw[z,<- this];simp
  have h1:=SeqAt.RcAt.lists (e:=λj=>decide (ds[j]?=es[j]?)) pl.isList i.isList z (show A.units<cE by lia) λj h1 h2=>it j h1 h2
  have h2:=cm.lists (e:=λj=>decide (ds[j]?=es[j]?)) pl.isList i.isList z (show A.units<cE by lia) λj h1 h2=>it j h1 h2
  rw[J] at h1 h2;exact⟨h1,h2⟩
 ·have z:(us.toArray.size !=vs.toArray.size)=true:=by rw[ar,ar];simp;lia
  have B:ds≠es:=λe=>O (by rw[e])
  rw[decide_eq_false B];exact⟨SeqAt.RcAt.lists_lengths pl.isList i.isList z (by lia),cm.lists_lengths pl.isList i.isList z (by lia)⟩
theorem dJp{n:Nat}(ih:∀{d e:D}{v:V},RepV X.K M H d v->RepV X.K M H e v->okE n d e=true->d=e):∀{ds es:List D}{xs:List V},RepL X.K M H ds xs->RepL X.K M H es xs->okEs n ds es=true->ds=es
 |[],[],_,_,_,_=>rfl
 |[],e::es,xs,p,i,_=>by have h1:=p.length;have h2:=i.length;rw[h1] at h2;simp at h2
 |d::ds,[],xs,p,i,_=>by have h1:=p.length;have h2:=i.length;rw[h1] at h2;simp at h2
 |d::ds,e::es,xs,p,i,h=>by
  unfold RepL at p i;obtain⟨v,J,rfl,r,l⟩:=p;obtain⟨L,j,e1,z,B⟩:=i;cases e1;simp only[okEs,eV,List.all_cons,bb] at h;rw[ih r z h.1,dJp ih l B h.2]
theorem uniq(I:Inv X pins σ H s):∀(n:Nat) {d e:D}{v:V},RepV X.K M H d v->RepV X.K M H e v->okE n d e=true->d=e:=by
 intro n
 induction n with
 |zero =>
  intro d e v h h' o;cases d <;> cases e <;> first|rfl|(cases o;done)|(unfold RepV at h h';rw[h] at h';cases h';done)|(unfold RepV at h h';rw[h] at h';cases h';rfl)
 |succ n z =>
  intro d e v h h' o;cases d <;> cases e <;> first|rfl|(cases o;done)|(unfold RepV at h h';rw[h] at h';cases h';done)|(unfold RepV at h h';rw[h] at h';cases h';rfl)|skip
  ·unfold RepV at h h';obtain⟨a,xs,e1,_⟩:=h';rw[h] at e1;cases e1
  ·unfold RepV at h h';obtain⟨a,xs,e1,_⟩:=h;rw[h'] at e1;cases e1
  ·unfold RepV at h h';obtain⟨a,xs,rfl,t,l⟩:=h;obtain⟨b,ys,e1,i,j⟩:=h';cases e1
   have:=I.tuple_inj t.sq i.sq
   subst this;rw[dJp z l j o]
  ·unfold RepV at h h';obtain⟨a,xs,rfl,t,l⟩:=h;obtain⟨b,ys,e1,i,j⟩:=h';cases e1
   have:=I.list_inj t.sq i.sq
   subst this;rw[dJp z l j o]
theorem eq3(I:Inv X pins σ H s):∀(n:Nat) {A:a8}{d e:D}{x y:V}{u v:ad},A.units+n<cE->RepV X.K M H d x->RepV X.K M H e y->RelV x u->RelV y v->okE n d e=true->Eq3 A s u v (decide (d=e)):=by
 intro n
 induction n with
 |zero =>
  intro A d e x y u v hu h h' r r' o;cases d <;> cases e <;> first|(cases o;done)|skip
  all_goals unfold RepV at h h';subst h;subst h'
  ·cases r;cases r';exact⟨jf _,SeqAt.RcAt.none_none,cm.none_none⟩
  ·cases r;obtain⟨t,rfl⟩:=r';exact⟨cR.none_int _ _,SeqAt.RcAt.none_int _ _,cm.none_int _ _⟩
  ·cases r;obtain⟨t,rfl⟩:=r';exact⟨cR.none_str _ _,SeqAt.RcAt.none_str _ _,cm.none_str _ _⟩
  ·cases r;cases r';rw[show ∀a b:Bool,decide (D.bl a=D.bl b)=(a==b) from by intro a b;cases a <;> cases b <;> rfl];exact⟨cR.bool_bool _ _,SeqAt.RcAt.bool_bool _ _,cm.bool_bool _ _⟩
  ·obtain⟨t,rfl⟩:=r;cases r';exact⟨cR.int_none _ _,SeqAt.RcAt.int_none _ _,cm.int_none _ _⟩
  ·obtain⟨t,rfl⟩:=r;obtain⟨J,rfl⟩:=r';rw[show ∀a b:Int,decide (D.int a=D.int b)=(a==b) from by intro a b;rw[beq_dec];simp];exact⟨cR.int_int _ _ _ _,SeqAt.RcAt.int_int _ _ _ _,cm.int_int _ _ _ _⟩
  ·obtain⟨t,rfl⟩:=r;cases r';exact⟨cR.str_none _ _,SeqAt.RcAt.str_none _ _,cm.str_none _ _⟩
  ·obtain⟨t,rfl⟩:=r;obtain⟨J,rfl⟩:=r';rw[show ∀a b:Str,decide (D.str a=D.str b)=(a==b) from by intro a b;rw[beq_dec];simp];exact⟨g9 _ _ _ _,SeqAt.RcAt.str_str _ _ _ _,cm.str_str _ _ _ _⟩
 |succ n j =>
  intro A d e x y u v hu h h' r r' o;cases d <;> cases e <;> first|(cases o;done)|skip
  ·exact j (by lia) h h' r r' (by cases n <;> rfl)
  ·exact j (by lia) h h' r r' (by cases n <;> rfl)
  ·exact j (by lia) h h' r r' (by cases n <;> rfl)
  ·unfold RepV at h;subst h;cases r;obtain⟨a,xs,rfl,t,l⟩:=(show RepV X.K M H (.tup _) y from h')
   cases r';obtain⟨us,N,pl,_⟩:=I.tuple t.sq;exact⟨cR.none_tuple pl (by lia),SeqAt.RcAt.none_tuple pl (by lia),cm.none_tuple pl (by lia)⟩
  ·exact j (by lia) h h' r r' (by cases n <;> rfl)
  ·exact j (by lia) h h' r r' (by cases n <;> rfl)
  ·exact j (by lia) h h' r r' (by cases n <;> rfl)
  ·exact j (by lia) h h' r r' (by cases n <;> rfl)
  ·exact j (by lia) h h' r r' (by cases n <;> rfl)
  ·unfold RepV at h';subst h';cases r';obtain⟨a,xs,rfl,t,l⟩:=(show RepV X.K M H (.tup _) x from h)
   cases r;obtain⟨us,N,pl,_⟩:=I.tuple t.sq;exact⟨cR.tuple_none pl (by lia),SeqAt.RcAt.tuple_none pl (by lia),cm.tuple_none pl (by lia)⟩
  ·rename_i ds es;have un:=λ{e:D}=>uniq (e:=e) I (n+1) h;have h0:=h;have B:=h';unfold RepV at h h';obtain⟨a,xs,rfl,t,l⟩:=h;obtain⟨b,ys,rfl,J,O⟩:=h';cases r;cases r';obtain⟨us,N,pl,_⟩:=I.tuple t.sq;obtain⟨vs,rv,L,_⟩:=I.tuple J.sq;have l1:=l.length;have l2:=O.length;have l3:=N.length;have l4:=rv.length;have it:=dZy (A:=A.in1) l O N rv o λq Y z U o=>j (show A.units+1+n<cE by lia) q Y z U o
   have Z:=cZz ds es us.toArray.size vs.toArray.size (by rw[ar];lia) (by rw[ar];lia)
   have h1:=SeqAt.RcAt.tuples pl L (show A.units<cE by lia) it
   have h2:=cm.tuples pl L (show A.units<cE by lia) it
   rw[Z] at h1 h2;rw[dJm];refine⟨?_,h1,h2⟩
   by_cases i:a=b
   ·subst i;have e1:=un B o;cases e1;rw[decide_eq_true rfl];exact jf _
   ·exact jB i h1
  ·have un:=λ{e:D}=>uniq (e:=e) I (n+1) h;have B:=h';unfold RepV at h h';obtain⟨a,xs,rfl,t,l⟩:=h;obtain⟨b,ys,rfl,J,O⟩:=h';cases r;cases r';obtain⟨h1,h2⟩:=dZz (A:=A) (n:=n) I t.sq J.sq l O o hu λq Y z U o=>j (show A.units+1+n<cE by lia) q Y z U o
   rw[dJn];refine⟨?_,h1,h2⟩
   by_cases i:a=b
   ·subst i;have e1:=un B o;cases e1;rw[decide_eq_true rfl];exact jf _
   ·exact jB i h1
def eqD(neg:Bool):R2D:=λd e S Q=>match d,e with
 |.ref a,e=>∃xs ys,S a=some (.lst xs)/\lsIs S e ys/\okEs 8 xs ys=true/\Q (.bl (if neg then !decide (xs=ys) else decide (xs=ys))) S
 |.lst xs,.ref a=>∃ys,S a=some (.lst ys)/\okEs 8 xs ys=true/\Q (.bl (if neg then !decide (xs=ys) else decide (xs=ys))) S
 |d,e=>okE 9 d e=true/\Q (.bl (if neg then !decide (d=e) else decide (d=e))) S
def rEqA(K:Fg)(neg:Bool):R2:=λx y H Q=>∃b,(∀{X:Cx}{pins:List (Addr×Obj)}{σ:St}{s:ah},Inv X pins σ H s->X.K=K->∀{u v:ad},RelV x u->RelV y v->∀A:a8,A.units+9<cE->SeqAt.RcAt A s u v b/\cm A s u v (!b))/\Q (.bl (if neg then !b else b)) H
theorem dX0{K:Fg}(hu:X.A.units+9<cE)(hK:X.K=K:=by rfl):OpR X (cA .Eq) (rEqA K false):=by
 intro pins s σ H x y v u Q I i d ⟨b,h,q⟩;exact(h I hK i d X.A hu).1 _ _ _ _ ⟨.bl b,H,I,rfl,q⟩
theorem eJ6{K:Fg}(hu:X.A.units+9<cE)(hK:X.K=K:=by rfl):OpR X (cA .NotEq) (rEqA K true):=by
 intro pins s σ H x y v u Q I i d ⟨b,h,q⟩;exact(h I hK i d X.A hu).2 _ _ _ _ ⟨.bl (!b),H,I,rfl,q⟩
theorem dJq{K:Fg}{neg:Bool}:OpD K (rEqA K neg) (eqD neg):=by
 intro F S H d e x y Q QD r hd he h c;have lists:∀{xs ys:List D},lsIs S d xs->lsIs S e ys->okEs 8 xs ys=true->QD (.bl (if neg then !decide (xs=ys) else decide (xs=ys))) S->rEqA K neg x y H Q:=by
  intro xs ys Y U o q;obtain⟨a,us,rfl,s1,O⟩:=lsIs.sl r hd Y;obtain⟨a2,us2,rfl,s2,p2⟩:=lsIs.sl r he U;refine⟨_,λ{X pins σ s} I i u v ru rv A j=>?_,c.bl r q⟩;subst i;cases ru;cases rv;exact dZz I s1 s2 O p2 o j λq N z L o=>eq3 I 8 (show A.units+1+8<cE by lia) q N z L o
 have plain:okE 9 d e=true->QD (.bl (if neg then !decide (d=e) else decide (d=e))) S->rEqA K neg x y H Q:=by
  intro o q;refine⟨_,λ{X pins σ s} I i u v ru rv A j=>?_,c.bl r q⟩;subst i
  have:=eq3 I 9 j hd he ru rv o
  exact⟨this.rc,this.ne⟩
 cases d with
 |ref a=>obtain⟨xs,ys,h1,h2,J,B⟩:=h;exact lists h1 h2 J B
 |lst xs =>
  cases e with
  |ref a=>obtain⟨ys,h2,J,B⟩:=h;exact lists rfl h2 J B
  |_=>exact plain h.1 h.2
 |_=>exact plain h.1 h.2
mutual
def plain:D->Bool
 |.non=>true
 |.bl _=>true
 |.int _=>true
 |.str _=>true
 |.tup xs=>aZj xs
 |_=>false
def aZj:List D->Bool
 |[]=>true
 |x::xs=>plain x&&aZj xs
end
mutual
theorem cQa(I:Inv X pins σ H s):∀{d e:D}{v:V},plain d=true->plain e=true->RepV X.K M H d v->RepV X.K M H e v->d=e
 |.tup ds,e,v,p,p',h,h'=>by
  cases e with
  |tup es =>
   unfold RepV at h h';obtain⟨a,xs,rfl,t,l⟩:=h;obtain⟨b,ys,e1,i,j⟩:=h';cases e1
   have:=I.tuple_inj t.sq i.sq
   subst this;unfold plain at p p';rw[bXb I p p' l j]
  |lst _=>cases p'
  |ref _=>cases p'
  |ty _=>cases p'
  |_ =>
   unfold RepV at h h';obtain⟨a,xs,e1,_⟩:=h;rw[h'] at e1;cases e1
 |.non,e,v,p,p',h,h'=>by
  cases e <;> first|rfl|(cases p';done)|(unfold RepV at h h';rw[h] at h';cases h';done)|(unfold RepV at h h';obtain⟨a,xs,e1,_⟩:=h';rw[h] at e1;cases e1)
 |.bl _,e,v,p,p',h,h'=>by
  cases e <;> first|(cases p';done)|(unfold RepV at h h';rw[h] at h';cases h';done)|(unfold RepV at h h';rw[h] at h';cases h';rfl)|(unfold RepV at h h';obtain⟨a,xs,e1,_⟩:=h';rw[h] at e1;cases e1)
 |.int _,e,v,p,p',h,h'=>by
  cases e <;> first|(cases p';done)|(unfold RepV at h h';rw[h] at h';cases h';done)|(unfold RepV at h h';rw[h] at h';cases h';rfl)|(unfold RepV at h h';obtain⟨a,xs,e1,_⟩:=h';rw[h] at e1;cases e1)
 |.str _,e,v,p,p',h,h'=>by
  cases e <;> first|(cases p';done)|(unfold RepV at h h';rw[h] at h';cases h';done)|(unfold RepV at h h';rw[h] at h';cases h';rfl)|(unfold RepV at h h';obtain⟨a,xs,e1,_⟩:=h';rw[h] at e1;cases e1)
 |.ty _,e,v,p,p',h,h'=>by cases p
 |.ref _,e,v,p,p',h,h'=>by cases p
 |.lst _,e,v,p,p',h,h'=>by cases p
theorem bXb(I:Inv X pins σ H s):∀{ds es:List D}{vs:List V},aZj ds=true->aZj es=true->RepL X.K M H ds vs->RepL X.K M H es vs->ds=es
 |[],es,vs,p,j,l,i=>by
  have h1:=l.length;have h2:=i.length;rw[h1] at h2;exact(bX h2.symm).symm
 |d::ds,[],vs,p,j,l,i=>by have h1:=l.length;have h2:=i.length;rw[h1] at h2;simp at h2
 |d::ds,e::es,vs,p,j,l,i=>by
  unfold RepL at l i;obtain⟨v,vs,rfl,r,l⟩:=l;obtain⟨J,z,e1,B,i⟩:=i;cases e1;simp only[aZj,bb] at p j;rw[cQa I p.1 j.1 r B,bXb I p.2 j.2 l i]
end
theorem aXs:∀{ds:List D},aZj ds=true->∀d∈ds,plain d=true
 |[],_,d,h=>by cases h
 |x::ds,p,d,h=>by
  simp only[aZj,bb] at p;rcases aK.mp h with rfl|h
  ·exact p.1
  ·exact aXs p.2 d h
def rInA(K:Fg)(neg:Bool):R2:=λx y H Q=>∃p xs b,y=.ref p/\(SqL K H p xs\/SqT K H p xs) /\
 (∀{X:Cx}{pins:List (Addr×Obj)}{σ:St}{s:ah},Inv X pins σ H s->X.K=K->∀{v:ad}{us:List ad},RelV x v->Vals xs us->∀A:a8,A.units+9<cE->∃f:ad->Bool,(∀u∈us,cR A s u v (f u))/\us.any f=b)/\Q (.bl (if neg then !b else b)) H
theorem dX1{K:Fg}(hu:X.A.units+10<cE)(hK:X.K=K:=by rfl):OpR X (cA .In) (rInA K false):=by
 intro pins s σ H x y v u Q I i ry h;obtain⟨p,xs,b,rfl,d,hf,q⟩:=h;cases ry;rw[<- hK] at d;rcases d with d|d
 ·obtain⟨its,r,pl,j⟩:=I.list d;obtain⟨f,f1,f2⟩:=hf I hK i r X.A.in1 (show X.A.units+1+9<cE by lia)
  refine SeqAt.in_listAt f pl.isList (λw hw=>f1 w (by simpa using hw)) ⟨.bl _,H,I,rfl,?_⟩
  rw[show its.toArray.any f=its.any f by simp,f2]
  exact q
 ·obtain⟨its,r,pl,j⟩:=I.tuple d;obtain⟨f,f1,f2⟩:=hf I hK i r X.A.in1 (show X.A.units+1+9<cE by lia)
  refine SeqAt.in_tupleAt f pl (λw hw=>f1 w (by simpa using hw)) ⟨.bl _,H,I,rfl,?_⟩
  rw[show its.toArray.any f=its.any f by simp,f2]
  exact q
theorem dJr{K:Fg}(hu:X.A.units+10<cE)(hK:X.K=K:=by rfl):OpR X (cA .NotIn) (rInA K true):=by
 intro pins s σ H x y v u Q I i ry h;obtain⟨p,xs,b,rfl,d,hf,q⟩:=h;cases ry;rw[<- hK] at d;rcases d with d|d
 ·obtain⟨its,r,pl,j⟩:=I.list d;obtain⟨f,f1,f2⟩:=hf I hK i r X.A.in1 (show X.A.units+1+9<cE by lia)
  refine SeqAt.notIn_listAt f pl.isList (λw hw=>f1 w (by simpa using hw)) ⟨.bl _,H,I,rfl,?_⟩
  rw[show its.toArray.any f=its.any f by simp,f2]
  exact q
 ·obtain⟨its,r,pl,j⟩:=I.tuple d;obtain⟨f,f1,f2⟩:=hf I hK i r X.A.in1 (show X.A.units+1+9<cE by lia)
  refine SeqAt.notIn_tupleAt f pl (λw hw=>f1 w (by simpa using hw)) ⟨.bl _,H,I,rfl,?_⟩
  rw[show its.toArray.any f=its.any f by simp,f2]
  exact q
def inD(neg:Bool):R2D:=λd e S Q=>∃xs,sqIs S e xs/\aZj xs=true/\(xs.all λy=>okE 8 y d)=true/\Q (.bl (if neg then !decide (d∈xs) else decide (d∈xs))) S
theorem eJ7(I:Inv X pins σ H s){d:D}{x:V}{v:ad}(rx:RelV x v)(hd:RepV X.K M H d x){A:a8}(hA:A.units+9<cE):∀{xs:List V}{us:List ad}{ds:List D},RepL X.K M H ds xs->Vals xs us->aZj ds=true->(ds.all λy=>okE 8 y d)=true ->
  ∃f:ad->Bool,(∀u∈us,cR A s u v (f u))/\us.any f=decide (d∈ds):=by
 classical
 intro xs us ds l r p o;have key:∀{y:V}{u:ad}{e:D},e∈ds->RepV X.K M H e y->RelV y u->decide (∃y e,e∈ds/\RepV X.K M H e y/\RelV y u/\e=d)=decide (e=d):=by
  intro y u e hm he j
  congr 1
  refine propext ⟨λ⟨y',Z,J,h1,h2,U⟩=>?_,λh=>⟨y,e,hm,he,j,h⟩⟩
  have:=h2.inj j
  subst this;rw[<- U];exact cQa I (aXs p e hm) (aXs p Z J) he h1
 refine⟨λu=>decide (∃y e,e∈ds/\RepV X.K M H e y/\RelV y u/\e=d),?_,?_⟩
 ·intro u O;obtain⟨i,hi,rfl⟩:=bd O;have h1:=r.length;have h2:=l.length;obtain⟨e,Y,re⟩:=l.get' (ag (show i<xs.length by lia))
  obtain⟨u',eu,j⟩:=r.get (ag (show i<xs.length by lia))
  rw[ag hi] at eu;cases eu;have hm:e∈ds:=ao Y;show cR A s us[i] v (decide (∃y e,e∈ds/\RepV X.K M H e y/\RelV y us[i]/\e=d));rw[key hm re j];exact(eq3 I 8 (by lia) re hd j rx (bY.mp o e hm)).eq
 ·have gen:∀{zs:List V}{ws:List ad}{es:List D},RepL X.K M H es zs->Vals zs ws->(∀e∈es,e∈ds)->ws.any (λu=>decide (∃y e,e∈ds/\RepV X.K M H e y/\RelV y u/\e=d))=decide (d∈es):=by
   intro zs ws es
   induction es generalizing zs ws with
   |nil =>
    intro l r _;unfold RepL at l;subst l;cases r;simp
   |cons e es N =>
    intro l r hm;unfold RepL at l;obtain⟨z,zs,rfl,B,L⟩:=l;cases r with
    |cons q t =>
     rw[List.any_cons,key (hm e aq) B q,N L t λe he=>hm e (au _ he)]
     by_cases h:e=d
     ·simp[h]
     ·have h':¬ d=e:=λz=>h z.symm;simp[h,h']
  exact gen l r λ_ h=>h
theorem dJs{K:Fg}{neg:Bool}:OpD K (rInA K neg) (inD neg):=by
 intro F S H d e x y Q QD r hd he ⟨ds,z,p,o,q⟩ c;obtain⟨a,xs,rfl,sq,l⟩:=z.sq r he;refine⟨a,xs,decide (d∈ds),rfl,sq,λ{X pins σ s} I B {v us} i j A D=>?_,c.bl r q⟩;subst B;exact eJ7 I i hd D l j p o
variable{K:Fg}{a b:Expr}{ta tb:ED}{pos:Pos}{k:Nat}
theorem lt10{n:Nat}{A:a8}(r:Room k A)(h:n<=64:=by decide):A.units+n<cE:=by have:=r.units;lia
theorem e_eq(hr:Room k X.A)(ha:PD K X a ta)(hb:PD K X b tb)(hK:X.K=K:=by rfl):PD K X (.Compare a [.Eq] [b] pos) (dOp (eqD false) ta tb):=dJh (dX0 (lt10 hr) hK) dJq ha hb (nomark _)
theorem dJt(hr:Room k X.A)(ha:PD K X a ta)(hb:PD K X b tb)(hK:X.K=K:=by rfl):PTD K X (.Compare a [.Eq] [b] pos) (aJ7 (dOp (eqD false) ta tb)):=aJ0 (dX0 (lt10 hr) hK) dJq ha hb (nomark _)
theorem dJu(hr:Room k X.A)(ha:PD K X a ta)(hb:PD K X b tb)(hK:X.K=K:=by rfl):PTD K X (.Compare a [.NotEq] [b] pos) (aJ7 (dOp (eqD true) ta tb)):=aJ0 (eJ6 (lt10 hr) hK) dJq ha hb (nomark _)
theorem e_in(hr:Room k X.A)(ha:PD K X a ta)(hb:PD K X b tb)(hm:dU .In b=false:=by rfl)(hK:X.K=K:=by rfl):PD K X (.Compare a [.In] [b] pos) (dOp (inD false) ta tb):=dJh (dX1 (lt10 hr) hK) dJs ha hb hm
theorem fZ5(hr:Room k X.A)(ha:PD K X a ta)(hb:PD K X b tb)(hm:dU .In b=false:=by rfl)(hK:X.K=K:=by rfl):PTD K X (.Compare a [.In] [b] pos) (aJ7 (dOp (inD false) ta tb)):=aJ0 (dX1 (lt10 hr) hK) dJs ha hb hm
theorem dX2(hr:Room k X.A)(ha:PD K X a ta)(hb:PD K X b tb)(hm:dU .NotIn b=false:=by rfl)(hK:X.K=K:=by rfl):PTD K X (.Compare a [.NotIn] [b] pos) (aJ7 (dOp (inD true) ta tb)):=aJ0 (dJr (lt10 hr) hK) dJs ha hb hm
end
end L2
namespace HT
open PySem PySem.Spec PyProof.Rows
section
variable{prog:aF}{w:aR}{A:a8}{E:ad->ah->Prop}{s:ah}
theorem tup_slice{t sl:Addr}{items:Array ad}{Q:ad->ah->Prop}(ht:iB s.heap t items)(hTs:s.TypeIs (.ref sl) "slice")
    (h:∀ A,aH (aE prog w) A (fk (.ref sl) (pure (items.size:Int))) (λr s'=>s'=s /\
      ((r.1=0 /\ r.2.1=1 /\ r.2.2=items.size /\ Q (.ref t) s) \/
       (¬ (r.1==0&&r.2.1==1&&r.2.2==items.size)=true/\sizeOk (.seq ((a6 r.2.2).filterMap λ(k:Nat)=>items[(r.1+(k:Int)*r.2.1).toNat]?).toArray)/\Q (.ref s.heap.objs.size) {s with heap:=s.heap.push {cls:=.type "tuple",data:=.seq ((a6 r.2.2).filterMap λ(k:Nat)=>items[(r.1+(k:Int)*r.2.1).toNat]?).toArray}}))) E s) :
    aH (aE prog w) A (iZ (.ref t) (.ref sl)) Q E s:=by
  unfold iZ
  try with_reducible refine bu ?_
  first|refine aa (ae ?_)|skip
  refine aa (wpAny_sequenceKey ht.typeIs (by decide) ?_)
  refine aa (fO (name:=Str.ofString "__getitem__") ht.typeIs ca
    (dE ca ht.typeIs entry_tuple_getitem ?_ (args_tuple_getitem _ _)))
  show aH _ _ (gY (.ref t)>>=_) _ _ s;refine aa (tupleItemsOf_ ht (aa (fW hTs ?_)));rw [if_pos (by decide)]
  refine aa (cK (h _) (λr s' ⟨e,q⟩=>?_) λ_ _ x=>x);subst e;obtain⟨lo,st,n⟩:=r;show aH _ _ (if (lo==0&&st==1&&n==items.size)=true then _ else _) _ _ _
  rcases q with⟨h1,h2,j,q⟩|⟨i,d,q⟩
  · have B:lo=0:=h1
    have z:st=1:=h2;have v:n=items.size:=j;rw [if_pos (by rw [B,z,v]; simp)]
    unfold cx.Tuple.tupleIsExact;refine aa (aa (fW ht.typeIs (ae ?_)));rw [if_pos (by decide)]
    refine aa (cS ?_)
    first
      |exact ae ⟨_,rfl,ae q⟩
      |exact aa (ae ⟨_,rfl,ae q⟩)
      |exact aa (ae (ae ⟨_,rfl,ae q⟩))
  · rw [if_neg i]
    first
      |exact aa (m:=b9 _) (bC (ae ⟨_,rfl,ae q⟩) d)
      |exact aa (m:=b9 _) (bC (aa (ae (ae ⟨_,rfl,ae q⟩))) d)
      |exact aa (aa (m:=b9 _) (bC (ae (ae ⟨_,rfl,ae q⟩)) d))
      |exact aa (aa (m:=b9 _) (bC (ae ⟨_,rfl,ae q⟩) d))
end
end HT
namespace L2
open PySem PySem.Spec PyProof.Rows
section
variable{X:Cx}{K:Fg}
def rSlW(K:Fg):V->Option Int->Option Int->Hp->VK->Prop:=λx lo hi H Q=>∃a xs,x=.ref a/\SqT K H a xs/\HT.sIx xs.length 0 lo=0/\HT.sIx xs.length xs.length hi=xs.length/\Q (.ref a) H
theorem dJv(hK:X.K=K:=by rfl):SlR X (rSlW K):=by
 subst hK;intro pins s σ H x v N L lo hi sl Q I rx z pl pu h;obtain⟨a,xs,rfl,B,h0,D,q⟩:=h;cases rx;obtain⟨its,r,j,O⟩:=I.tuple B;have hlen:its.toArray.size=xs.length:=by rw[ar];exact r.length.symm
 obtain⟨os,d,i,J⟩:=id z;refine⟨"tuple",_,ca.lookup,j.typeIs,HT.tup_slice j ⟨os,d,i⟩ λA=>HT.sliceApplied_gen z pl pu ⟨rfl,.inl ⟨?_,rfl,?_,.ref a,H,I,rfl,q⟩⟩⟩
 ·show((HT.sIx its.toArray.size 0 lo:Nat):Int)=0;rw[hlen,h0];rfl
 ·show HT.sIx its.toArray.size its.toArray.size hi-HT.sIx its.toArray.size 0 lo=its.toArray.size;rw[hlen,h0,D];rfl
end
end L2
set_option maxHeartbeats 1000000
namespace L2
open PySem PySem.Spec PyProof.Rows
section
variable{X:Cx}{K:Fg}{a b:Expr}{ta tb:ED}{pos:Pos}{k:Nat}
def ltD:R2D:=λd e S Q=>match d,e with
 |.int i,.int j=>Q (.bl (decide (i<j))) S
 |.str x,.str y=>Q (.bl (HT.ltS x y)) S
 |.tup xs,.tup ys=>∃as bs,xs=as.map D.str/\ys=bs.map D.str/\Q (.bl (HT.lexS as bs)) S
 |_,_=>False
def rLtA(K:Fg):R2:=λx y H Q=>rI0 (λi j=>.bl (decide (i<j))) x y H Q\/(∃i j,x=.str i/\y=.str j/\Q (.bl (decide (i.cps.toList<j.cps.toList))) H)\/rLtS K x y H Q
theorem eJ8(hu:X.A.units<cE)(hK:X.K=K:=by rfl):OpR X (cA .Lt) (rLtA K):=op_lt.or (op_lt_str.or (dJ8 hu hK))
theorem cXo{M:Am}{H:Hp}:∀{as:List Str}{xs:List V},RepL K M H (as.map D.str) xs->bi (dS H) xs as
 |[],xs,h=>by rw[eU] at h;unfold RepL at h;subst h;exact .nil
 |a::as,xs,h=>by
  rw[bz] at h;unfold RepL at h;obtain⟨v,d,rfl,r,l⟩:=h;unfold RepV at r;exact .cons r (cXo l)
theorem cXp{M:Am}{H:Hp}:∀{as:List Str}{xs:List V},bi (dS H) xs as->RepL K M H (as.map D.str) xs
 |_,_,.nil=>RepL.nil
 |_,_,.cons r l=>RepL.cons (by unfold RepV;exact r) (cXp l)
theorem bJ5{S:Sto}{F:Am}{H:Hp}{as:List Str}{v:V}(h:RepV K (mt S F) H (.tup (as.map D.str)) v):dT K dS H v as:=by
 obtain⟨a,xs,rfl,t,l⟩:=tup.st h;exact⟨a,xs,rfl,t,cXo l⟩
theorem fZ6:OpD K (rLtA K) ltD:=by
 intro F S H d e x y Q QD r hd he h c;cases d with
 |int i =>
  cases e with
  |int j=>rw[rint hd,rint he];exact .inl ⟨i,j,rfl,rfl,c.bl r h⟩
  |_=>exact h.elim
 |str i =>
  cases e with
  |str j=>rw[rstr hd,rstr he];exact .inr (.inl ⟨i,j,rfl,rfl,c.bl r h⟩)
  |_=>exact h.elim
 |tup xs =>
  cases e with
  |tup ys =>
   obtain⟨as,bs,rfl,rfl,q⟩:=h;exact .inr (.inr ⟨as,bs,bJ5 hd,bJ5 he,c.bl r q⟩)
  |_=>exact h.elim
 |_=>exact h.elim
theorem bJ6(hr:Room k X.A)(ha:PD K X a ta)(hb:PD K X b tb)(hK:X.K=K:=by rfl):PTD K X (.Compare a [.Lt] [b] pos) (aJ7 (dOp ltD ta tb)):=aJ0 (eJ8 hr.units0 hK) fZ6 ha hb (nomark _)
abbrev gtD:R2D:=iiD0 λi j=>.bl (decide (j<i))
abbrev geD:R2D:=iiD0 λi j=>.bl (decide (j<=i))
theorem fZ7(hr:Room k X.A)(ha:PD K X a ta)(hb:PD K X b tb):PTD K X (.Compare a [.Gt] [b] pos) (aJ7 (dOp gtD ta tb)):=aJ0 fQq eJ4 ha hb (nomark _)
theorem eJ9(hr:Room k X.A)(ha:PD K X a ta)(hb:PD K X b tb):PTD K X (.Compare a [.GtE] [b] pos) (aJ7 (dOp geD ta tb)):=aJ0 fQr eJ4 ha hb (nomark _)
def cXq:D->Bool
 |.non=>true
 |_=>false
def isD(neg:Bool):R2D:=λd e S Q=>match d,e with
 |.bl x,.bl y=>Q (.bl (if neg then x !=y else x==y)) S
 |d,.non=>Q (.bl (if neg then !cXq d else cXq d)) S
 |_,_=>False
def rIsA(neg:Bool):R2:=λx y H Q=>(∃i j,x=.bl i/\y=.bl j/\Q (.bl (if neg then i !=j else i==j)) H)\/(y=.non/\Q (.bl (if neg then !decide (x=.non) else decide (x=.non))) H)
theorem eJa:OpR X (cA .Is) (rIsA false):=OpR.or (by
 intro pins s σ H x y v u Q I rx ry h;obtain⟨i,j,rfl,rfl,q⟩:=h;cases rx;cases ry;exact is_bool ⟨.bl _,H,I,rfl,q⟩) eZx
theorem dQt:OpR X (cA .IsNot) (rIsA true):=OpR.or (by
 intro pins s σ H x y v u Q I rx ry h;obtain⟨i,j,rfl,rfl,q⟩:=h;cases rx;cases ry;exact isnot_bool ⟨.bl _,H,I,rfl,q⟩) dXk
theorem dQu{M:Am}{H:Hp}{d:D}{x:V}(h:RepV K M H d x):decide (x=.non)=cXq d:=by
 cases d <;> unfold RepV at h <;> first|(rw[h];rfl)|(obtain⟨a,xs,rfl,_⟩:=h;rfl)|skip
theorem eJb{neg:Bool}:OpD K (rIsA neg) (isD neg):=by
 intro F S H d e x y Q QD r hd he h c;have non:e=.non->QD (.bl (if neg then !cXq d else cXq d)) S->rIsA neg x y H Q:=by
  rintro rfl q;rw[rnon he];refine .inr ⟨rfl,?_⟩;rw[dQu hd];exact c.bl r q
 cases e with
 |non=>exact non rfl (by cases d <;> exact h)
 |bl j =>
  cases d with
  |bl i=>rw[rbl hd,rbl he];exact .inl ⟨i,j,rfl,rfl,c.bl r h⟩
  |_=>exact h.elim
 |_=>cases d <;> exact h.elim
theorem e_is(hr:Room k X.A)(ha:PD K X a ta)(hb:PD K X b tb):PD K X (.Compare a [.Is] [b] pos) (dOp (isD false) ta tb):=dJh eJa eJb ha hb (nomark _)
theorem bJ7(hr:Room k X.A)(ha:PD K X a ta)(hb:PD K X b tb):PTD K X (.Compare a [.IsNot] [b] pos) (aJ7 (dOp (isD true) ta tb)):=aJ0 dQt eJb ha hb (nomark _)
def fZ8(ta tb:ED):ED:=fun Γ S Q=>ta Γ S λx S1=>∃c,x=.bl c/\if c=true then tb Γ S1 Q else Q (.bl false) S1
theorem eJc{op}(h:PD K X a ta):PD K X (.BoolOp op [a] pos) ta:=⟨eZk h.o⟩
theorem eJd{rest:List Expr}(ha:PD K X a ta)(hb:PD K X (.BoolOp .And (b::rest) pos) tb):PD K X (.BoolOp .And (a::b::rest) pos) (fZ8 ta tb):=.of (eZl ha.o hb.o) fun σ H Q J=>J.el λF S Γ QD r g q c =>
 ⟨F,S,Γ,_,r,g,q,λv d H1 O i j v1 D=>by
  obtain⟨z,e,B⟩:=D;subst e;refine⟨z,rbl v1,?_⟩;cases z with
  |true=>exact⟨F,O,Γ,QD,j,g.ext i,B,λv z U N L=>c v z U N (i.trans L)⟩
  |false=>exact(Cn.shift c i).bl j B⟩
structure PWD(K:Fg)(X:Cx)(e:Expr)(t:TD):Prop where
 o:PW X e (upT K t)
def dAnd(t u:TD):TD:=fun Γ S Q=>t Γ S λc S1=>if c=true then u Γ S1 Q else Q false S1
def dOr(t u:TD):TD:=fun Γ S Q=>t Γ S λc S1=>if c=true then Q true S1 else u Γ S1 Q
def dNot(t:TD):TD:=fun Γ S Q=>t Γ S λc S1=>Q (!c) S1
section
variable{tA tB':TD}{rest:List Expr}
theorem PWD.pt{e:Expr}{t:TD}(h:PWD K X e t):PTD K X e t:=⟨PW.pt h.o⟩
theorem PWD.of{e:Expr}{te:TT}{t:TD}(h:PW X e te)(i:∀σ H Q,upT K t σ H Q->te σ H Q):PWD K X e t:=⟨λd pins s σ H Q I q=>h d pins s σ H Q I (i σ H Q q)⟩
theorem bJ8(ha:PTD K X a tA):PWD K X (.BoolOp .And [a] pos) tA:=⟨dXe ha.o⟩
theorem dX3(ha:PTD K X a tA):PWD K X (.BoolOp .Or [a] pos) tA:=⟨eZh ha.o⟩
theorem cXr(ha:PTD K X a tA)(hb:PWD K X (.BoolOp .And (b::rest) pos) tB'):PWD K X (.BoolOp .And (a::b::rest) pos) (dAnd tA tB'):=.of (eZi ha.o hb.o) fun σ H Q v=>v.el λF S Γ QD r g q c =>
 ⟨F,S,Γ,_,r,g,q,λz H1 J d i j=>by
  cases z with
  |true=>exact⟨F,J,Γ,QD,i,g.ext d,j,λz L D B=>c z L D (d.trans B)⟩
  |false=>exact c _ _ _ d i j⟩
theorem dJw(ha:PTD K X a tA)(hb:PWD K X (.BoolOp .Or (b::rest) pos) tB'):PWD K X (.BoolOp .Or (a::b::rest) pos) (dOr tA tB'):=.of (fQh ha.o hb.o) fun σ H Q v=>v.el λF S Γ QD r g q c =>
 ⟨F,S,Γ,_,r,g,q,λz H1 J d i j=>by
  cases z with
  |false=>exact⟨F,J,Γ,QD,i,g.ext d,j,λz L D B=>c z L D (d.trans B)⟩
  |true=>exact c _ _ _ d i j⟩
theorem cQb(ha:PTD K X a tA):PTD K X (.UnaryOp .Not a pos) (dNot tA):=.of (eZj ha.o) fun σ H Q d=>d.el λF S Γ QD r g q c=>⟨F,S,Γ,_,r,g,q,λz H1 B i j v=>c _ _ _ i j v⟩
end
def truD(S:Sto)(d:D)(k:Bool->Prop):Prop:=match d with
 |.non=>k false
 |.bl b=>k b
 |.int i=>k (i !=0)
 |.str x=>x.length<=sizeLine/\k ((x.length:Int) !=0)
 |.tup xs=>k (!xs.isEmpty)
 |.lst xs=>k (!xs.isEmpty)
 |.ref a=>∃xs,S a=some (.lst xs)/\k (!xs.isEmpty)
 |.ty _=>False
def dTru(ta:ED):TD:=fun Γ S Q=>ta Γ S λd S1=>truD S1 d λb=>Q b S1
theorem cXs{M:Am}{H:Hp}{ds:List D}{xs:List V}(l:RepL K M H ds xs):(!xs.isEmpty)=!ds.isEmpty:=by
 have:=l.length
 cases ds <;> cases xs <;> first|rfl|simp at this
theorem bQm(ha:PD K X a ta)(he:∀whole,isTrue a X.env whole=(do let v <- whole;fH a.pos;fv [v] (truthy v)):=by intro _;rfl)(hK:X.K=K:=by rfl):PTD K X a (dTru ta):=.of (cXd (K:=K) ha.o he hK) fun σ H Q D=>D.el λF S Γ QD r g q c =>
 ⟨F,S,Γ,_,r,g,q,λv d H1 B z j v1 i=>by
  cases d with
  |non=>rw[rnon v1];exact⟨false,rfl,c _ _ _ z j i⟩
  |bl b=>rw[rbl v1];exact⟨b,rfl,c _ _ _ z j i⟩
  |int b=>rw[rint v1];exact⟨_,rfl,c _ _ _ z j i⟩
  |str b=>rw[rstr v1];exact⟨_,⟨i.1,rfl⟩,c _ _ _ z j i.2⟩
  |ty b=>exact i.elim
  |tup xs =>
   obtain⟨p,us,rfl,t,l⟩:=tup.st v1;exact⟨_,.inr (.inl ⟨us,t,rfl⟩),c _ _ _ z j (by rw[cXs l];exact i)⟩
  |lst xs =>
   obtain⟨p,us,rfl,t,l⟩:=lsIs.sl j v1 (show lsIs B (.lst xs) xs from rfl)
   exact⟨_,.inl ⟨us,t,rfl⟩,c _ _ _ z j (by rw[cXs l];exact i)⟩
  |ref p =>
   obtain⟨xs,e,i⟩:=i;obtain⟨p,us,rfl,t,l⟩:=lsIs.sl j v1 (show lsIs B (.ref p) xs from e)
   exact⟨_,.inl ⟨us,t,rfl⟩,c _ _ _ z j (by rw[cXs l];exact i)⟩⟩
section
variable{e:Expr}{t:AD}{p:Pos}
def lenD:RCD:=λds S Q=>match ds with
 |[.str x]=>x.length<=sizeLine/\Q (.int x.length) S
 |[d]=>∃xs,sqIs S d xs/\Q (.int xs.length) S
 |_=>False
theorem cXt(hK:X.K=K:=by rfl):CallR X (.builtin "len") (λxs H Q=>∃x n,xs=[x]/\LenV K x H n/\Q (.int n) H):=hK▸dQ5
theorem eJe:bQa K (λxs H Q=>∃x n,xs=[x]/\LenV K x H n/\Q (.int n) H) lenD:=by
 intro F S H ds j Q QD r l h c
 match ds,h with
 |[d],h =>
  obtain⟨v,rfl,i⟩:=l.one;have seq:(∃xs,sqIs S d xs/\QD (.int xs.length) S)->∃x n,[v]=[x]/\LenV K x H n/\Q (.int n) H:=by
   rintro⟨xs,h1,q⟩;obtain⟨a,us,rfl,sq,l⟩:=h1.sq r i;refine⟨_,xs.length,rfl,?_,c.int r q⟩;rcases sq with sq|sq
   ·exact .inl ⟨us,sq,l.length.symm⟩
   ·exact .inr ⟨us,sq,l.length.symm⟩
  cases d with
  |str x=>rw[rstr i];exact⟨_,x.length,rfl,⟨h.1,rfl⟩,c.int r h.2⟩
  |_=>exact seq h
 |[],h=>exact h.elim
 |d::_::_,h=>cases d <;> exact h.elim
theorem aZ2(hg:Gl X "len")(hm:X.mg "len"=none)(ha:PAD K X [e] t)(hK:X.K=K:=by rfl)(he:aC [e] X.env=(false,eval e X.env)::aC [] X.env:=by rfl)(hpl:(cD pos (aC [] X.env)).any (·.1)=false:=by rfl):PD K X (.Call (.Name "len" p) [e] [] pos) (dCB lenD t):=aXa (cXt hK) eJe hg hm eX9 ha (by decide) (by decide) he hpl
def tupD:RCD:=λds S Q=>match ds with
 |[d]=>∃xs,sqIs S d xs/\Q (.tup xs) S
 |_=>False
theorem eJf:bQa K (λxs H Q=>∃p ys,xs=[.ref p]/\((SqL K H p ys/\∀l,H l=none->Q (.ref l) (upd H l (.tup ys)))\/(SqT K H p ys/\Q (.ref p) H))) tupD:=by
 intro F S H ds z Q QD r l h c
 match ds,h with
 |[d],⟨xs,h1,q⟩ =>
  obtain⟨v,rfl,i⟩:=l.one;cases d with
  |tup ys =>
   cases h1;obtain⟨a,us,rfl,sq,l⟩:=tup.st i;exact⟨a,us,rfl,.inr ⟨sq,c.here r i q⟩⟩
  |lst ys =>
   obtain⟨a,us,rfl,sq,l⟩:=lsIs.sl r i (show lsIs S (.lst ys) xs from h1)
   exact⟨a,us,rfl,.inl ⟨sq,λp j=>c.tup r j l q⟩⟩
  |ref y =>
   obtain⟨a,us,rfl,sq,l⟩:=lsIs.sl r i (show lsIs S (.ref y) xs from h1)
   exact⟨a,us,rfl,.inl ⟨sq,λp j=>c.tup r j l q⟩⟩
  |_=>exact h1.elim
theorem aQm(hg:Gl X "tuple")(hm:X.mg "tuple"=none)(ha:PAD K X [e] t)(hK:X.K=K:=by rfl)(he:aC [e] X.env=(false,eval e X.env)::aC [] X.env:=by rfl)(hpl:(cD pos (aC [] X.env)).any (·.1)=false:=by rfl):PD K X (.Call (.Name "tuple" p) [e] [] pos) (dCB tupD t):=bZ6 (bXy hK) eJf hg hm dQa ha (by decide) (by decide) he hpl
def lstD(b:Bool):RCD:=λds S Q=>match ds with
 |[d]=>∃xs,sqIs S d xs/\newL b xs S Q
 |_=>False
theorem eJg{b:Bool}:bQa K (λxs H Q=>∃p ys,xs=[.ref p]/\(SqL K H p ys\/SqT K H p ys)/\∀l,H l=none->Q (.ref l) (upd H l (.lst ys))) (lstD b):=by
 intro F S H ds z Q QD r l h c
 match ds,h with
 |[d],⟨xs,h1,q⟩ =>
  obtain⟨v,rfl,i⟩:=l.one;obtain⟨a,us,rfl,sq,l⟩:=h1.sq r i;exact⟨a,us,rfl,sq,λp j=>c.new r j l q⟩
theorem dX4{b:Bool}(hg:Gl X "list")(hm:X.mg "list"=none)(ha:PAD K X [e] t)(hK:X.K=K:=by rfl)(he:aC [e] X.env=(false,eval e X.env)::aC [] X.env:=by rfl)(hpl:(cD pos (aC [] X.env)).any (·.1)=false:=by rfl):PD K X (.Call (.Name "list" p) [e] [] pos) (dCB (lstD b) t):=bZ6 (cZ5 hK) eJg hg hm cZw ha (by decide) (by decide) he hpl
def i2D(g:Int->Int->Int):RCD:=λds S Q=>match ds with
 |[.int i,.int j]=>Q (.int (g i j)) S
 |_=>False
theorem fZ9{g:Int->Int->Int}:bQa K (λxs H Q=>∃i j,xs=[.int i,.int j]/\Q (.int (g i j)) H) (i2D g):=by
 intro F S H ds B Q QD r l h c
 match ds,h with
 |[.int i,.int j],h =>
  obtain⟨v,w,rfl,z,d⟩:=l.two;rw[rint z,rint d];exact⟨i,j,rfl,c.int r h⟩
theorem eJh{e2:Expr}(hg:Gl X "min")(hm:X.mg "min"=none)(ha:PAD K X [e,e2] t)(hc:X.calm=true:=by rfl)(he:aC [e,e2] X.env=(false,eval e X.env)::aC [e2] X.env:=by rfl)(hpl:(cD pos (aC [e2] X.env)).any (·.1)=false:=by rfl):PD K X (.Call (.Name "min" p) [e,e2] [] pos) (dCB (i2D λi j=>if j<i then j else i) t):=aXa (cZp hc) fZ9 hg hm eXa ha (by decide) (by decide) he hpl
theorem cQc{M:Am}{H:Hp}:∀{bs:List Bool}{xs:List V},RepL K M H (bs.map D.bl) xs->bi (dB H) xs bs
 |[],xs,h=>by rw[eU] at h;unfold RepL at h;subst h;exact .nil
 |a::as,xs,h=>by
  rw[bz] at h;unfold RepL at h;obtain⟨v,d,rfl,r,l⟩:=h;unfold RepV at r;exact .cons r (cQc l)
def quD(g:List Bool->Bool):RCD:=λds S Q=>match ds with
 |[d]=>∃bs,lsIs S d (bs.map D.bl)/\Q (.bl (g bs)) S
 |_=>False
theorem eJi{g:List Bool->Bool}:bQa K (λxs H Q=>∃x bs,xs=[x]/\dL K dB H x bs/\Q (.bl (g bs)) H) (quD g):=by
 intro F S H ds j Q QD r l h c
 match ds,h with
 |[d],⟨bs,h1,q⟩ =>
  obtain⟨v,rfl,i⟩:=l.one;obtain⟨a,us,rfl,sq,l⟩:=lsIs.sl r i h1;exact⟨_,bs,rfl,⟨a,us,rfl,sq,cQc l⟩,c.bl r q⟩
theorem fZa(hg:Gl X "all")(hm:X.mg "all"=none)(ha:PAD K X [e] t)(hK:X.K=K:=by rfl)(hc:X.calm=true:=by rfl)(he:aC [e] X.env=(false,eval e X.env)::aC [] X.env:=by rfl)(hpl:(cD pos (aC [] X.env)).any (·.1)=false:=by rfl):PD K X (.Call (.Name "all" p) [e] [] pos) (dCB (quD λbs=>bs.all id) t):=aXa (cXb hK hc) eJi hg hm eXb ha (by decide) (by decide) he hpl
theorem eJj(hg:Gl X "any")(hm:X.mg "any"=none)(ha:PAD K X [e] t)(hK:X.K=K:=by rfl)(hc:X.calm=true:=by rfl)(he:aC [e] X.env=(false,eval e X.env)::aC [] X.env:=by rfl)(hpl:(cD pos (aC [] X.env)).any (·.1)=false:=by rfl):PD K X (.Call (.Name "any" p) [e] [] pos) (dCB (quD λbs=>bs.any id) t):=aXa (cXc hK hc) eJi hg hm dZo ha (by decide) (by decide) he hpl
end
def ixD:R2D:=λd e S Q=>match d,e with
 |.str z,.int i=>z.length<=sizeLine/\∃c,atI z.cps.toList i=some c/\Q (.str ⟨#[c]⟩) S
 |d,.int i=>∃xs v,sqIs S d xs/\atI xs i=some v/\Q v S
 |_,_=>False
theorem fZb{M:Am}{H:Hp}{ds:List D}{xs:List V}(l:RepL K M H ds xs){i:Int}{d:D}(h:atI ds i=some d):∃v,atI xs i=some v/\RepV K M H d v:=by
 unfold atI at h ⊢;rw[l.length];cases hi:ixN ds.length i with
 |none=>rw[hi] at h;cases h
 |some j=>rw[hi] at h;exact l.get h
theorem fZc:OpD K (rIx K) ixD:=by
 intro F S H d e x y Q QD r hd he h c;have seq:∀i,e=.int i->(∃xs v,sqIs S d xs/\atI xs i=some v/\QD v S)->rIx K x y H Q:=by
  rintro i rfl ⟨xs,v,h1,h2,q⟩;obtain⟨a,us,rfl,sq,l⟩:=h1.sq r hd;obtain⟨u,B,j⟩:=fZb l h2;rw[rint he];rcases sq with sq|sq
  ·exact .inl ⟨a,us,i,u,rfl,rfl,sq,B,c.here r j q⟩
  ·exact .inr (.inl ⟨a,us,i,u,rfl,rfl,sq,B,c.here r j q⟩)
 cases e with
 |int i =>
  cases d with
  |str z =>
   obtain⟨h1,w,h2,q⟩:=h;rw[rstr hd,rint he];exact .inr (.inr ⟨z,i,w,rfl,rfl,h1,h2,c.str r q⟩)
  |_=>exact seq i rfl h
 |_=>cases d <;> exact h.elim
theorem dJx(hK:X.K=K:=by rfl):IxR X (rIx K):=hK▸eX7
theorem e_ix(ha:PD K X a ta)(hb:PD K X b tb)(hs:PlainIx b:=by exact λ_ _=>rfl)(hK:X.K=K:=by rfl):PD K X (.Subscript a b pos) (dOp ixD ta tb):=.of (pe_ix (dJx hK) ha.o hb.o hs) (dQr fZc)
abbrev OD:=Gm->Sto->(Option Int->Sto->Prop)->Prop
def upO(K:Fg)(t:OD):TO:=fun σ H Q=>∃F S Γ QD,Rp K F S H/\RepG K (mt S F) H Γ σ/\t Γ S QD/\∀o H' S',Ext S H S' H'->Rp K F S' H'->QD o S'->Q o H'
theorem upO.el{K:Fg}{t:OD}{σ:St}{H:Hp}{Q:Option Int->Hp->Prop}{p:Prop}(h:upO K t σ H Q)(k:∀F S Γ QD,Rp K F S H->RepG K (mt S F) H Γ σ->t Γ S QD->(∀o H' S',Ext S H S' H'->Rp K F S' H'->QD o S'->Q o H')->p):p:=by
 obtain⟨F,S,Γ,QD,h0,h1,h2,d⟩:=h;exact k F S Γ QD h0 h1 h2 d
structure POD(K:Fg)(X:Cx)(e:Option Expr)(t:OD):Prop where
 o:PO X e (upO K t)
def bJ9:OD:=λ_ S Q=>Q none S
def fZd(t:ED):OD:=fun Γ S Q=>t Γ S λd S1=>∃i,d=.int i/\Q (some i) S1
theorem aZl:POD K X none bJ9:=⟨λpins s σ H Q I d=>d.el λF S Γ QD r g q c=>dXp pins s σ H Q I (c none H S (Ext.refl _ _) r q)⟩
theorem aZ9(h:PD K X a ta):POD K X (some a) (fZd ta):=⟨λpins s σ H Q I z=>z.el λF S Γ QD r g q c=>dXq h.o pins s σ H Q I ⟨F,S,Γ,_,r,g,q,λv d H1 L B D v1 j=>by
 obtain⟨i,e,J⟩:=j;subst e;exact⟨i,rint v1,c _ _ _ B D J⟩⟩⟩
def cutD(xs:List D)(lo hi:Option Int):List D:=(xs.drop (HT.sIx xs.length 0 lo)).take (HT.sIx xs.length xs.length hi-HT.sIx xs.length 0 lo)
def slD(b:Bool)(d:D)(lo hi:Option Int)(S:Sto)(Q:DK):Prop:=match d with
 |.str z=>z.length<=1000000/\Q (.str (cutS z lo hi)) S
 |.tup xs=>Q (.tup (cutD xs lo hi)) S
 |d=>∃xs,lsIs S d xs/\newL b (cutD xs lo hi) S Q
def rSlA(K:Fg):V->Option Int->Option Int->Hp->VK->Prop:=λx lo hi H Q=>rSlS x lo hi H Q\/rSlT K x lo hi H Q\/rSlW K x lo hi H Q\/rSlL K x lo hi H Q
theorem sl_A(hK:X.K=K:=by rfl):SlR X (rSlA K):=sl_str.or ((dJ7 hK).or ((dJv hK).or (dQl hK)))
theorem dQv(xs:List D){lo hi:Option Int}(h0:HT.sIx xs.length 0 lo=0)(h1:HT.sIx xs.length xs.length hi=xs.length):cutD xs lo hi=xs:=by unfold cutD;rw[h0,h1];simp
theorem dX5{M:Am}{H:Hp}{ds:List D}{xs:List V}(l:RepL K M H ds xs)(lo hi:Option Int):RepL K M H (cutD ds lo hi) (cutV xs lo hi):=by
 unfold cutD cutV;rw[l.length];exact(l.drop _).take _
theorem sd_A{b:Bool}:∀F S H d x lo hi Q QD,Rp K F S H->RepV K (mt S F) H d x->slD b d lo hi S QD->Cn K F S H QD Q->rSlA K x lo hi H Q:=by
 intro F S H d x lo hi Q QD r hd h c;have lists:(∃xs,lsIs S d xs/\newL b (cutD xs lo hi) S QD)->rSlA K x lo hi H Q:=by
  rintro⟨xs,v,q⟩;obtain⟨a,us,rfl,s1,i⟩:=lsIs.sl r hd v;exact .inr (.inr (.inr ⟨a,us,rfl,s1,λp j=>c.new r j (dX5 i lo hi) q⟩))
 cases d with
 |str z=>rw[rstr hd];exact .inl ⟨z,rfl,h.1,c.str r h.2⟩
 |tup xs =>
  obtain⟨a,us,rfl,s1,i⟩:=tup.st hd
  by_cases hw:HT.sIx us.length 0 lo=0/\HT.sIx us.length us.length hi=us.length
  ·refine .inr (.inr (.inl ⟨a,us,rfl,s1,hw.1,hw.2,c.here r hd ?_⟩));rw[i.length] at hw;have h':QD (.tup (cutD xs lo hi)) S:=h;rwa [dQv xs hw.1 hw.2] at h'
  ·exact .inr (.inl ⟨a,us,rfl,s1,hw,λp j=>c.tup r j (dX5 i lo hi) h⟩)
 |_=>exact lists h
def dSl(b:Bool)(te:ED)(tl th:OD):ED:=fun Γ S Q=>te Γ S λd S1=>tl Γ S1 λlo S2=>th Γ S2 λhi S3=>slD b d lo hi S3 Q
theorem e_sl{b:Bool}{e:Expr}{te:ED}{lo hi:Option Expr}{tl th:OD}{p2 pos:Pos}(he:PD K X e te)(hl:POD K X lo tl)(hu:POD K X hi th)(hK:X.K=K:=by rfl):PD K X (.Subscript e (.Slice lo hi none p2) pos) (dSl b te tl th):=.of (dQ7 (sl_A hK) he.o hl.o hu.o) fun σ H Q B=>B.el λF S Γ QD r g q c =>
 ⟨F,S,Γ,_,r,g,q,λv d H1 S1 j L v1 U=>⟨F,S1,Γ,_,L,g.ext j,U,λl H2 Z i J O=>⟨F,Z,Γ,_,J,g.ext (j.trans i),O,λu H3 Y z D N=>sd_A F Y H3 d v l u Q QD D (v1.ext (i.trans z)) N (Cn.shift c (j.trans (i.trans z)))⟩⟩⟩
end
end L2
set_option maxHeartbeats 4000000
namespace L2
open PySem PySem.Spec PyProof.Rows
section
variable{X:Cx}{K:Fg}{a b:Expr}{ta tb:ED}{pos:Pos}{k:Nat}
abbrev GD:=D->Gm->Sto->(Gm->Sto->Prop)->Prop
abbrev GsD:=List D->Gm->Sto->(Gm->Sto->Prop)->Prop
def upG(K:Fg)(t:GD):TG:=λv σ H Q=>∃F S Γ d QD,Rp K F S H/\RepG K (mt S F) H Γ σ/\RepV K (mt S F) H d v/\t d Γ S QD/\∀Γ' S' σ' H',Ext S H S' H'->Rp K F S' H'->RepG K (mt S' F) H' Γ' σ'->QD Γ' S'->Q σ' H'
theorem upG.el{K:Fg}{t:GD}{v:V}{σ:St}{H:Hp}{Q:St->Hp->Prop}{p:Prop}(h:upG K t v σ H Q)(k:∀F S Γ d QD,Rp K F S H->RepG K (mt S F) H Γ σ->RepV K (mt S F) H d v->t d Γ S QD->(∀Γ' S' σ' H',Ext S H S' H'->Rp K F S' H'->RepG K (mt S' F) H' Γ' σ'->QD Γ' S'->Q σ' H')->p):p:=by
 obtain⟨F,S,Γ,d,QD,h0,h1,h2,j,i⟩:=h;exact k F S Γ d QD h0 h1 h2 j i
def upGs(K:Fg)(t:GsD):TGs:=λvs σ H Q=>∃F S Γ ds QD,Rp K F S H/\RepG K (mt S F) H Γ σ/\RepL K (mt S F) H ds vs/\t ds Γ S QD/\∀Γ' S' σ' H',Ext S H S' H'->Rp K F S' H'->RepG K (mt S' F) H' Γ' σ'->QD Γ' S'->Q σ' H'
theorem upGs.el{K:Fg}{t:GsD}{vs:List V}{σ:St}{H:Hp}{Q:St->Hp->Prop}{p:Prop}(h:upGs K t vs σ H Q)(k:∀F S Γ ds QD,Rp K F S H->RepG K (mt S F) H Γ σ->RepL K (mt S F) H ds vs->t ds Γ S QD->(∀Γ' S' σ' H',Ext S H S' H'->Rp K F S' H'->RepG K (mt S' F) H' Γ' σ'->QD Γ' S'->Q σ' H')->p):p:=by
 obtain⟨F,S,Γ,ds,QD,h0,h1,h2,i,d⟩:=h;exact k F S Γ ds QD h0 h1 h2 i d
structure PGD(K:Fg)(X:Cx)(e:Expr)(t:GD):Prop where
 o:PG X e (upG K t)
structure PGsD(K:Fg)(X:Cx)(es:List Expr)(t:GsD):Prop where
 o:PGs X es (upGs K t)
theorem PGD.of{e:Expr}{te:TG}{t:GD}(h:PG X e te)(i:∀v σ H Q,upG K t v σ H Q->te v σ H Q):PGD K X e t:=⟨λpins s σ H v u Q I r q=>h pins s σ H v u Q I r (i v σ H Q q)⟩
theorem PGsD.of{e:List Expr}{te:TGs}{t:GsD}(h:PGs X e te)(i:∀v σ H Q,upGs K t v σ H Q->te v σ H Q):PGsD K X e t:=⟨λpins s σ H v u Q I r q=>h pins s σ H v u Q I r (i v σ H Q q)⟩
def aZa(i:Nat):GD:=λd Γ S Q=>Q (Γ.set i (some d)) S
theorem aZg{i:Nat}{x:Str}(hN:X.N.Nodup)(hi:X.N[i]?=some x)(hx:Loc X.env.scope x)(hf:X.fn x=true\/X.env.scope.names.lookup x=some .local:=by first|exact .inl rfl|exact .inr rfl|assumption):PGD K X (.Name x pos) (aZa i) :=
 .of (aQg hN hi hx hf) λv σ H Q j=>j.el λF S Γ d QD r g z q c=>c _ S _ H (Ext.refl _ _) r (g.set z i) q
def fZe:GsD:=λds Γ S Q=>ds=[]/\Q Γ S
def eJk(t:GD)(u:GsD):GsD:=λds Γ S Q=>match ds with
 |[]=>False
 |d::r=>t d Γ S fun Γ' S'=>u r Γ' S' Q
def eJl(n:Nat)(t:GsD):GD:=λd Γ S Q=>match d with
 |.tup ds=>ds.length=n/\t ds Γ S Q
 |_=>False
theorem bJa:PGsD K X [] fZe:=.of dXi λv σ H Q d=>by
 obtain⟨F,S,Γ,ds,QD,r,g,l,⟨e,q⟩,c⟩:=d;subst e;unfold RepL at l;exact⟨l,c _ S _ H (Ext.refl _ _) r g q⟩
theorem aX1{e:Expr}{es:List Expr}{t:GD}{u:GsD}(h1:PGD K X e t)(h2:PGsD K X es u)(ha:(eC (e::es) X.env).map (·.2)=iV e X.env::(eC es X.env).map (·.2):=by rfl):PGsD K X (e::es) (eJk t u) :=
 .of (dQ0 h1.o h2.o ha) λj σ H Q z=>z.el λF S Γ ds QD r g l q c=>by
  cases ds with
  |nil=>exact q.elim
  |cons d ds =>
   unfold RepL at l;obtain⟨v,j,rfl,D,l⟩:=l;exact⟨v,j,rfl,F,S,Γ,d,_,r,g,D,q,fun Γ1 O σ1 H1 i J g1 L=>⟨F,O,Γ1,ds,_,J,g1,l.ext i,L,fun Γ2 N σ2 H2 B=>c Γ2 N σ2 H2 (i.trans B)⟩⟩
theorem cXu{es:List Expr}{kk:Nat}{t:GsD}{n:Nat}(hc:X.calm=true)(h:PGsD K X es t)(hK:X.K=K:=by rfl)
  (hn:(eC es X.env).length=n:=by rfl) (hst:(eC es X.env).findIdx? (·.1)=none:=by rfl):PGD K X (.Tuple es kk pos) (eJl n t) :=
 .of (eZn hc h.o hn hst) λv σ H Q i=>i.el λF S Γ d QD r g j q c=>by
  cases d with
  |tup ds =>
   obtain⟨p,us,rfl,sq,l⟩:=tup.st j;exact⟨p,us,rfl,by rw[hK];exact sq,by rw[l.length];exact q.1,F,S,Γ,ds,_,r,g,l,q.2,c⟩
  |_=>exact q.elim
def setD(o i v:D)(S:Sto)(Q:Sto->Prop):Prop:=match o,i with
 |.ref p,.int k=>∃xs j,S p=some (.lst xs)/\ixN xs.length k=some j/\Q (supd S p (.lst (xs.set j v)))
 |_,_=>False
def gdSub(to ti:ED):GD:=λv Γ S Q=>to Γ S λo S1=>ti Γ S1 λi S2=>setD o i v S2 λS3=>Q Γ S3
theorem bQn{o i:Expr}{to ti:ED}(ho:PD K X o to)(hi:PD K X i ti)
  (ha:∀ v,iV (.Subscript o i pos) X.env v=(do
   let ov <- fv [v] (eval o X.env)
   let iv <- fv [v,ov] (eval i X.env)
   fH pos
   fv [v,ov,iv] (setItem ov iv v)
   release [v,ov,iv] []):=by intro _;rfl):PGD K X (.Subscript o i pos) (gdSub to ti) :=
 .of (eZo ho.o hi.o dQ8 ha) λv σ H Q z0=>z0.el λF S Γ d QD r g rv q c =>
  ⟨F,S,Γ,_,r,g,q,λov od H1 S1 L r1 v1 q1=>⟨F,S1,Γ,_,r1,g.ext L,q1,λiv id H2 U J Y v2 O=>by
   have N:=v1.ext J;cases od with
   |ref p =>
    cases id with
    |int kk =>
     obtain⟨xs,j,Z,hj,q3⟩:=O;obtain⟨us,hH,l⟩:=Y.obj p _ Z;rw[rref N,rint v2];have B:U p≠none:=by rw[Z];exact λz=>by cases z
     have D:Ext U H2 (supd U p (.lst (xs.set j d))) (upd H2 p (.lst (us.set j v))):=Ext.write B;refine⟨p,us,kk,j,rfl,rfl,hH,by rw[l.length];exact hj,?_⟩
     refine c Γ _ σ _ (L.trans (J.trans D)) (Y.write B ⟨_,aQ7,?_⟩) (g.ext (L.trans (J.trans D))) q3;exact RepL.set (rv.ext (L.trans (J.trans D))) j (l.ext D)
    |_=>exact O.elim
   |_=>exact O.elim⟩⟩
def fZf:SD:=λE Γ S=>E.nx Γ S
def dSeq(t u:SD):SD:=λE Γ S=>t {E with nx:=u E} Γ S
def dAsg(te:ED)(g:GD):SD:=λE Γ S=>te Γ S λd S1=>g d Γ S1 E.nx
def fZg(te:ED):SD:=λE Γ S=>te Γ S λ_ S1=>E.nx Γ S1
def dRet(te:ED):SD:=λE Γ S=>te Γ S E.rt
def dIfS(c:TD)(t u:SD):SD:=λE Γ S=>c Γ S λb S1=>if b=true then t E Γ S1 else u E Γ S1
section
variable{st:Stmt}{rest:List Stmt}{t u:SD}
theorem aQq:PSsD K X [] fZf:=.of dXf λi σ H d=>d.el λF S Γ E r g q c=>c.nx Γ S σ H (Ext.refl _ _) r g q
theorem aQ2(h1:PSD K X st t)(h2:PSsD K X rest u):PSsD K X (st::rest) (dSeq t u):=.of (bJs h1.o h2.o) λB σ H d=>d.el λF S Γ E r g q c =>
 ⟨F,S,Γ,{E with nx:=u E},r,g,q,fun Γ1 z σ1 H1 i j g1 v=>⟨F,z,Γ1,E,j,g1,v,c.ext i⟩,c.rt,c.bk,c.ct⟩
theorem aQ5(h1:PSD K X st t):PSsD K X [st] t:=⟨dXg h1.o⟩
theorem aXg{tg e:Expr}{te:ED}{g:GD}(he:PD K X e te)(hg:PGD K X tg g)(hs:swapsWithSole [tg] e pos.line X.env=pure false:=by rfl)(hw:swappedStores [tg] e X.env=pure none:=by rfl)
  (h1:(eC [tg] X.env).map (·.2)=[iV tg X.env]:=by rfl):PSD K X (.Assign [tg] e pos) (dAsg te g):=.of (eZp he.o hg.o hs hw h1) λN σ H j=>j.el λF S Γ E r g q c =>
 ⟨F,S,Γ,_,r,g,q,λv d H1 L i B v1 D=>⟨F,L,Γ,d,_,B,g.ext i,v1,D,fun Γ2 J σ2 H2 z=>c.nx Γ2 J σ2 H2 (i.trans z)⟩⟩
theorem eJm{te:ED}{i:Nat}:∀D' σ H,upS K (dAsg te (aZa i)) D' σ H->tAsg (upE K te) (cZj i) D' σ H:=λD' σ H z=>z.el λF S Γ E r g q c =>
 ⟨F,S,Γ,_,r,g,q,λv d H1 J j B v1 D=>c.nx _ J _ H1 j B ((g.ext j).set v1 i) D⟩
theorem aQe{i:Nat}{x:Str}{e:Expr}{te:ED}{pos':Pos}(hN:X.N.Nodup)(hi:X.N[i]?=some x)(hx:Loc X.env.scope x)(he:PD K X e te)(hs:iD e (some (.Name x pos')) pos.line X.env=pure false:=by rfl)(hf:X.fn x=true\/X.env.scope.names.lookup x=some .local:=by first|exact .inl rfl|exact .inr rfl|assumption) :
  PSD K X (.Assign [.Name x pos'] e pos) (dAsg te (aZa i)):=.of (eZq hN hi hx he.o hs hf) eJm
theorem bZ7{e:Expr}{te:ED}(he:PD K X e te)(hs:iD e none pos.line X.env=pure false:=by rfl):PSD K X (.Expr e pos) (fZg te):=.of (dXh he.o hs) λJ σ H j=>j.el λF S Γ E r g q c =>
 ⟨F,S,Γ,_,r,g,q,λv d H1 D i z v1 B=>c.nx Γ D σ H1 i z (g.ext i) B⟩
theorem aQf{e:Expr}{te:ED}(he:PD K X e te):PSD K X (.Return (some e) pos) (dRet te):=.of (eZm he.o) λJ σ H i=>i.el λF S Γ E r g q c =>
 ⟨F,S,Γ,_,r,g,q,λv d H1 D j z v1 B=>c.rt v d H1 D j z v1 B⟩
theorem aZu{c:Expr}{sa sb:List Stmt}{tc:TD}(hc:PTD K X c tc)(ha:PSsD K X sa t)(hb:PSsD K X sb u):PSD K X (.If c sa sb pos) (dIfS tc t u):=.of (fQl hc.o ha.o hb.o) λD σ H B=>B.el λF S Γ E r g q c =>
 ⟨F,S,Γ,_,r,g,q,λz H1 v d i j=>by
  cases z with
  |true=>exact⟨F,v,Γ,E,i,g.ext d,j,c.ext d⟩
  |false=>exact⟨F,v,Γ,E,i,g.ext d,j,c.ext d⟩⟩
def eJn(c:TD)(tb:SD):SD:=λE Γ S=>∃W:Nat->Gm->Sto->Prop,(∃m,W m Γ S)/\∀m Γ S,W m Γ S ->
 c Γ S λb S1=>if b=true then tb {E with nx:=fun Γ' S'=>∃m',m'<m/\W m' Γ' S',ct:=fun Γ' S'=>∃m',m'<m/\W m' Γ' S',bk:=E.nx} Γ S1 else E.nx Γ S1
theorem dQw{c:Expr}{body:List Stmt}{tc:TD}{tb:SD}(hp:PassesOwn (aE X.prog X.w) X.A X.env X.xe)(hc:PTD K X c tc)(hb:PSsD K X body tb):PSD K X (.While c body [] pos) (eJn tc tb):=.of (dQ1 hp hc.o hb.o) λD' σ H ⟨F,S,Γ,E,r,g,⟨W,⟨m0,Z⟩,turn⟩,c⟩ =>
 ⟨λm σ' H'=>∃ S' Γ',Ext S H S' H'/\Rp K F S' H'/\RepG K (mt S' F) H' Γ' σ'/\W m Γ' S',⟨m0,S,Γ,Ext.refl _ _,r,g,Z⟩,λm σ1 H1 ⟨U,Γ1,D,r1,g1,Y⟩ =>
  ⟨F,U,Γ1,_,r1,g1,turn m Γ1 U Y,λz H2 O B L N=>by
   cases z with
   |false=>exact c.nx Γ1 O σ1 H2 (D.trans B) L (g1.ext B) N
   |true =>
    refine⟨fun σ' H'=>∃i,i<m/\∃S' Γ',Ext S H S' H'/\Rp K F S' H'/\RepG K (mt S' F) H' Γ' σ'/\W i Γ' S',fun σ' H' ⟨i,h1,h2⟩=>⟨i,h1,h2⟩,F,O,Γ1,_,L,g1.ext B,N,?_,λv d H' S' j=>c.rt v d H' S' (D.trans (B.trans j)),fun Γ' S' σ' H' j=>c.nx Γ' S' σ' H' (D.trans (B.trans j)),?_⟩
    ·exact fun Γ' S' σ' H' j J g3 ⟨i,h1,h2⟩=>⟨i,h1,S',Γ',D.trans (B.trans j),J,g3,h2⟩
    ·exact fun Γ' S' σ' H' j J g3 ⟨i,h1,h2⟩=>⟨i,h1,S',Γ',D.trans (B.trans j),J,g3,h2⟩⟩⟩
end
def FE(F:Am)(H:Hp)(F2:Am):Prop:=∀a,F2 a->F a\/H a=none
theorem FE.refl(F:Am)(H:Hp):FE F H F:=λ_ h=>.inl h
structure ExtW(F:Am)(S:Sto)(H:Hp)(S':Sto)(H':Hp):Prop where
 keep:∀a o,¬ mt S F a->H a=some o->H' a=some o
 new:∀a,S' a≠none->S a≠none\/H a=none
theorem Ext.w{F:Am}{S S':Sto}{H H':Hp}(x:Ext S H S' H'):ExtW F S H S' H':=⟨λa o h e=>x.keep a o (ba λn=>h (.inl n)) e,x.new⟩
theorem ExtW.kpF{F F2:Am}{S S':Sto}{H H':Hp}(x:ExtW F S H S' H')(f:FE F H F2):Keep (mt S F) H (mt S' F2) H':=⟨x.keep,λa h e=>λz=>by
 rcases z with z|z
 ·rcases x.new a z with y|y
  ·exact h (.inl y)
  ·exact e y
 ·rcases f a z with y|y
  ·exact h (.inr y)
  ·exact e y⟩
structure ItOk(K:Fg)(F:Am)(S:Sto)(H:Hp)(J:It)(xs:List D)(G:Sto->Prop):Prop where
 go:∀F2,FE F H F2->∀S2 H2,ExtW F S H S2 H2->Rp K F2 S2 H2->G S2->∀i d,xs[i]?=some d->J.go i H2/\∀x H3,J.yld i H2 x H3->Ext S2 H2 S2 H3/\Rp K F2 S2 H3/\RepV K (mt S2 F2) H3 d x
 stop:∀F2,FE F H F2->∀S2 H2,ExtW F S H S2 H2->Rp K F2 S2 H2->G S2->J.stop xs.length H2
abbrev IDk:=List D->(Sto->Prop)->Sto->Prop
abbrev ID:=Gm->Sto->IDk->Prop
def upI(K:Fg)(t:ID):TI:=fun σ H R=>∃F S Γ QD,Rp K F S H/\RepG K (mt S F) H Γ σ/\t Γ S QD/\∀J xs G H' S',Ext S H S' H'->Rp K F S' H'->ItOk K F S' H' J xs G->QD xs G S'->R J H'
theorem upI.el{K:Fg}{t:ID}{σ:St}{H:Hp}{R:It->Hp->Prop}{p:Prop}(h:upI K t σ H R)(k:∀F S Γ QD,Rp K F S H->RepG K (mt S F) H Γ σ->t Γ S QD->(∀J xs G H' S',Ext S H S' H'->Rp K F S' H'->ItOk K F S' H' J xs G->QD xs G S'->R J H')->p):p:=by
 obtain⟨F,S,Γ,QD,h0,h1,h2,d⟩:=h;exact k F S Γ QD h0 h1 h2 d
structure PID(K:Fg)(X:Cx)(tg e:Expr)(t:ID):Prop where
 o:PI X tg e (upI K t)
theorem PID.of{tg e:Expr}{te:TI}{t:ID}(h:PI X tg e te)(i:∀σ H Q,upI K t σ H Q->te σ H Q):PID K X tg e t:=⟨λpins s σ H Q I q=>h pins s σ H Q I (i σ H Q q)⟩
def iSq(K:Fg)(tl:TE):TI:=fun σ H R=>tl σ H λx H1=>(∃a,x=.ref a/\(∃xs,SqL K H1 a xs)/\R (Itl K a) H1)\/∃a,x=.ref a/\(∃xs,SqT K H1 a xs)/\R (Itt K a) H1
theorem fZh{tg l:Expr}{tl:TE}(hl:PE X l tl)(hK:X.K=K:=by rfl):PI X tg l (iSq K tl):=by
 subst hK;intro pins s σ H R I h;refine thn (hl pins s σ H _ I h) λv s1 ⟨x,H1,d,r1,B⟩=>?_;have j:∀b∈[s1.heap.objs.size],FpOk X pins H1 b:=λb J=>by
  have e:b=s1.heap.objs.size:=by simpa using J
  subst e;exact d.fpOk (Nat.le_refl _) (d.hok.fresh (Nat.le_refl _))
 rcases B with⟨a,e,⟨xs,i⟩,q⟩|⟨a,e,⟨xs,i⟩,q⟩
 ·subst e;cases r1;obtain⟨its,z,p,D⟩:=d.list i;exact f8 p.isList ⟨s1.heap.objs.size,[s1.heap.objs.size],_,_,H1,rfl,d.kept (t':=s1.toks) λb o e=>af _ e,cZk a _,⟨_,az _ rfl,rfl,rfl⟩,j,q⟩
 ·subst e;cases r1;obtain⟨its,z,p,D⟩:=d.tuple i;exact ig (show s1.heap.IsTuple a its.toArray from p) ⟨s1.heap.objs.size,[s1.heap.objs.size],_,_,H1,rfl,d.kept (t':=s1.toks) λb o e=>af _ e,cQt a _,⟨_,az _ rfl,rfl,rfl⟩,j,q⟩
def guard(d:D)(xs:List D):Sto->Prop:=match d with
 |.ref a=>λS=>S a=some (.lst xs)
 |_=>λ_=>True
def dSq(te:ED):ID:=fun Γ S Q=>te Γ S λd S1=>∃xs,sqIs S1 d xs/\Q xs (guard d xs) S1
theorem dJy{F:Am}{S:Sto}{H:Hp}{p:Addr}{xs:List D}{us:List V}{G:Sto->Prop}(t:TupAt K (mt S F) H p us)(l:RepL K (mt S F) H xs us):ItOk K F S H (Itt K p) xs G where
 go:=λU f O H2 x z _ i d hd=>by
  have j:=(t.keep (x.kpF f)).sq;obtain⟨v,B,L⟩:=l.get hd;refine⟨⟨us,v,j,B⟩,λy Y ⟨N,J⟩=>?_⟩;subst N
  have:=J us j
  rw[B] at this;cases this;exact⟨Ext.refl _ _,z,L.keep (x.kpF f)⟩
 stop:=λU f O H2 x z _=>⟨us,(t.keep (x.kpF f)).sq,by rw[l.length];exact Nat.le_refl _⟩
theorem dJz{F:Am}{S:Sto}{H:Hp}{p:Addr}{xs:List D}{us:List V}{G:Sto->Prop}(t:LstAt K (mt S F) H p us)(l:RepL K (mt S F) H xs us):ItOk K F S H (Itl K p) xs G where
 go:=λU f O H2 x z _ i d hd=>by
  obtain⟨v,B,L⟩:=l.get hd;have j:SqL K H2 p us:=(t.keep (x.kpF f)).sq;refine⟨⟨us,v,j,B⟩,λy Y ⟨N,J⟩=>?_⟩;subst N
  have:=J us j
  rw[B] at this;cases this;exact⟨Ext.refl _ _,z,L.keep (x.kpF f)⟩
 stop:=λU f O H2 x z _=>⟨us,(t.keep (x.kpF f)).sq,by rw[l.length];exact Nat.le_refl _⟩
theorem eQ0{F:Am}{S:Sto}{H:Hp}{p:Addr}{xs:List D}:ItOk K F S H (Itl K p) xs (guard (.ref p) xs) where
 go:=λY f U H2 x j B i d hd=>by
  obtain⟨us,z,l⟩:=j.obj p _ B;obtain⟨v,J,N⟩:=l.get hd;refine⟨⟨us,v,SqL.of z,J⟩,λy Z ⟨O,L⟩=>?_⟩;subst O
  have:=L us (SqL.of z)
  rw[J] at this;cases this;exact⟨Ext.refl _ _,j,N⟩
 stop:=λY f U H2 x j B=>by
  obtain⟨us,z,l⟩:=j.obj p _ B;exact⟨us,SqL.of z,by rw[l.length];exact Nat.le_refl _⟩
theorem aZm{tg l:Expr}{tl:ED}(hl:PD K X l tl)(hK:X.K=K:=by rfl):PID K X tg l (dSq tl):=.of (fZh hl.o hK) fun σ H Q D=>D.el λF S Γ QD r g q c =>
 ⟨F,S,Γ,_,r,g,q,λv d H1 L j i v1 B=>by
  obtain⟨xs,hs,z⟩:=B;cases d with
  |tup ys =>
   cases hs;unfold RepV at v1;obtain⟨p,us,rfl,t,l⟩:=v1;exact .inr ⟨p,rfl,⟨us,t.sq⟩,c _ _ _ _ _ j i (dJy t l) z⟩
  |lst ys =>
   cases hs;unfold RepV at v1;obtain⟨p,us,rfl,t,l⟩:=v1;exact .inl ⟨p,rfl,⟨us,t.sq⟩,c _ _ _ _ _ j i (dJz t l) z⟩
  |ref p =>
   rw[rref v1];obtain⟨us,J,l⟩:=i.obj p _ hs;exact .inl ⟨p,rfl,⟨us,SqL.of J⟩,c _ _ _ _ _ j i eQ0 z⟩
  |_=>exact hs.elim⟩
def rngD(lo:Int):Nat->List D
 |0=>[]
 |n+1=>.int lo::rngD (lo+1) n
theorem aZn:∀(n:Nat) (lo:Int),(rngD lo n).length=n
 |0,_=>rfl
 |n+1,lo=>by simp[rngD,aZn n]
theorem aX2:∀(n:Nat) (lo:Int) (i:Nat) (d:D),(rngD lo n)[i]?=some d->i<n/\d=.int (lo+i)
 |0,lo,i,d,h=>by simp[rngD] at h
 |n+1,lo,0,d,h=>by simp[rngD] at h;exact⟨by lia,by rw[<- h];simp⟩
 |n+1,lo,i+1,d,h=>by
  have h':(rngD (lo+1) n)[i]?=some d:=by simpa [rngD] using h
  obtain⟨h1,h2⟩:=aX2 n (lo+1) i d h';refine⟨by lia,?_⟩
  rw[h2]
  congr 1
  rw[Int.natCast_add];lia
theorem cXv{F:Am}{S:Sto}{H:Hp}{lo:Int}{n:Nat}{G:Sto->Prop}:ItOk K F S H (Itr lo n) (rngD lo n) G where
 go:=λD f B H2 x j _ i d hd=>by
  obtain⟨h1,rfl⟩:=aX2 n lo i d hd;exact⟨h1,λy J ⟨z,v⟩=>by subst z;subst v;exact⟨Ext.refl _ _,j,by unfold RepV;rfl⟩⟩
 stop:=λD f B H2 x j _=>by rw[aZn];exact Nat.le_refl n
def fZi(ta:AD):ID:=fun Γ S Q=>ta Γ S λds S1=>match ds with
 |[.int j]=>(-(2^62)<=j/\j<2^62)/\Q (rngD 0 j.toNat) (λ_=>True) S1
 |_=>False
def fZj(ta:AD):ID:=fun Γ S Q=>ta Γ S λds S1=>match ds with
 |[.int i,.int j]=>(-(2^62)<=i/\i<2^62/\-(2^62)<=j/\j<2^62)/\Q (rngD i (j-i).toNat) (λ_=>True) S1
 |_=>False
theorem aXh{tg:Expr}{p:Pos}{ta:AD}(hg:Gl X "range")(hm:X.mg "range"=none)(ha:PAD K X [a] ta)(hs:aC [a] X.env=[(false,eval a X.env)]:=by rfl):PID K X tg (.Call (.Name "range" p) [a] [] pos) (fZi ta):=.of (cZl hg hm ha.o hs) fun σ H Q i=>i.el λF S Γ QD r g q c =>
 ⟨F,S,Γ,_,r,g,q,λJ ds H1 L z D v1 d=>by
  match ds,d with
  |[.int j],d =>
   obtain⟨v,rfl,B⟩:=v1.one;rw[rint B];exact⟨j,rfl,d.1.1,d.1.2,c _ _ _ _ _ z D cXv d.2⟩⟩
theorem bXc{tg:Expr}{p:Pos}{ta:AD}(hg:Gl X "range")(hm:X.mg "range"=none)(ha:PAD K X [a,b] ta)(hs:aC [a,b] X.env=[(false,eval a X.env),(false,eval b X.env)]:=by rfl)(hs2:aC [b] X.env=[(false,eval b X.env)]:=by rfl):PID K X tg (.Call (.Name "range" p) [a,b] [] pos) (fZj ta):=.of (cZm hg hm ha.o hs hs2) fun σ H Q B=>B.el λF S Γ QD r g q c =>
 ⟨F,S,Γ,_,r,g,q,λN ds H1 O D L v1 d=>by
  match ds,d with
  |[.int i,.int j],d =>
   obtain⟨v,w,rfl,J,z⟩:=v1.two;rw[rint J,rint z];exact⟨i,j,rfl,d.1,c _ _ _ _ _ D L cXv d.2⟩⟩
def dQx(x:Str):List D:=x.cps.toList.map λc=>.str ⟨#[c]⟩
def forD(g:GD)(tb:SD)(G:Sto->Prop)(E:EndsD):List D->Gm->Sto->Prop
 |[],Γ,S=>G S/\E.nx Γ S
 |x::xs,Γ,S=>G S/\g x Γ S fun Γ2 S2=>tb {E with nx:=forD g tb G E xs,ct:=forD g tb G E xs,bk:=E.nx} Γ2 S2
def dFor(wi:ID)(g:GD)(tb:SD):SD:=λE Γ S=>wi Γ S λxs G S1=>forD g tb G E xs Γ S1
theorem aZv{α:Type}{xs:List α}{i:Nat}(h:i<xs.length):xs.drop i=xs[i]::xs.drop (i+1):=cJ h
theorem cQd{tg iter:Expr}{body:List Stmt}{wi:ID}{g:GD}{tb:SD}(hp:PassesOwn (aE X.prog X.w) X.A X.env X.xe)(hc:X.calm=true)(hi:PID K X tg iter wi)(hg:PGD K X tg g)(hb:PSsD K X body tb)(hs:∀x,bZ iter X.env x=pure x:=by intro _;rfl):PSD K X (.For tg iter body [] pos) (dFor wi g tb):=.of (eZs hp hc hi.o hg.o hb.o hs) λD' σ H z0=>z0.el λF S Γ E r gm q c =>
 ⟨F,S,Γ,_,r,gm,q,λJ xs G H1 S1 Z r1 it q1=>by
  refine⟨λi m σ' H'=>m=xs.length-i/\i<=xs.length/\∃S' Γ',Ext S1 H1 S' H'/\Rp K F S' H'/\RepG K (mt S' F) H' Γ' σ'/\forD g tb G E (xs.drop i) Γ' S',⟨xs.length,by simp,Nat.zero_le _,S1,Γ,Ext.refl _ _,r1,gm.ext Z,by simpa using q1⟩,?_⟩
  rintro i m σ' H' ⟨rfl,hi.o,S',Γ',Y,r2,g2,f2⟩
  by_cases N:i<xs.length
  ·rw[aZv N] at f2;obtain⟨hG,f2⟩:=f2;obtain⟨hgo,hy⟩:=it.go F (FE.refl F H1) S' H' Y.w r2 hG i xs[i] (ag N);refine .inr ⟨hgo,fun σ'' D=>∃B Γ'',Ext S1 H1 B D/\Rp K F B D/\RepG K (mt B F) D Γ'' σ''/\forD g tb G E (xs.drop (i+1)) Γ'' B,fun σ'' D z=>⟨xs.length-(i+1),by lia,rfl,N,z⟩,λx H3 y3=>?_⟩
   obtain⟨x3,r3,v3⟩:=hy x H3 y3;refine⟨F,S',Γ',xs[i],_,r3,g2.ext x3,v3,f2,fun Γ4 S4 σ4 H4 x4 r4 g4 q4=>⟨F,S4,Γ4,_,r4,g4,q4,?_⟩⟩;have j:=Y.trans (x3.trans x4);exact⟨fun Γ5 O σ5 U L r5 g5 q5=>⟨O,Γ5,j.trans L,r5,g5,q5⟩,λv d U O L=>c.rt v d U O (Z.trans (j.trans L)),fun Γ5 O σ5 U L=>c.nx Γ5 O σ5 U (Z.trans (j.trans L)),fun Γ5 O σ5 U L r5 g5 q5=>⟨O,Γ5,j.trans L,r5,g5,q5⟩⟩
  ·have e:i=xs.length:=by lia
   subst e;rw[eO] at f2;exact .inl ⟨it.stop F (FE.refl F H1) S' H' Y.w r2 f2.1,c.nx Γ' S' σ' H' (Z.trans Y) r2 g2 f2.2⟩⟩
end
end L2
set_option maxHeartbeats 1000000
namespace L2
open PySem PySem.Spec PyProof.Rows
section
variable{X:Cx}{K:Fg}{pos:Pos}{k:Nat}
structure ExtX(D':Addr)(S:Sto)(H:Hp)(S':Sto)(H':Hp):Prop where
 keep:∀a o,a≠D'->S a=none->H a=some o->H' a=some o
 live:∀a,H a≠none->H' a≠none
 new:∀a,S' a≠none->S a≠none\/H a=none
theorem Ext.x{D':Addr}{S S':Sto}{H H':Hp}(x:Ext S H S' H'):ExtX D' S H S' H':=⟨λa o _=>x.keep a o,x.live,x.new⟩
theorem ExtX.trans{D':Addr}{S S1 S2:Sto}{H H1 H2:Hp}(x:ExtX D' S H S1 H1)(y:ExtX D' S1 H1 S2 H2):ExtX D' S H S2 H2 :=
  ⟨λa o n h h' => y.keep a o n (by
      cases e:S1 a with
      |none =>rfl
      | some z => rcases x.new a (by rw [e]; exact λz => by cases z) with z | z
                  · exact absurd h z
                  · rw [h'] at z; cases z) (x.keep a o n h h'),λa h =>y.live a (x.live a h),λa h =>by
    rcases y.new a h with z|z
    · exact x.new a z
    · exact .inr (ba λn =>x.live a n z)⟩
theorem ExtX.kp{D':Addr}{F:Am}{S S':Sto}{H H':Hp}(x:ExtX D' S H S' H')(hF:F D'):Keep (mt S F) H (mt S' F) H':=⟨λa o h e=>x.keep a o (by rintro rfl;exact h (.inr hF)) (ba λn=>h (.inl n)) e,λa h e=>λz=>by
 rcases z with z|z
 ·rcases x.new a z with y|y
  ·exact h (.inl y)
  ·exact e y
 ·exact h (.inr z)⟩
theorem ExtX.w{D':Addr}{F:Am}{S S':Sto}{H H':Hp}(x:ExtX D' S H S' H')(hF:F D'):ExtW F S H S' H':=⟨λa o h e=>x.keep a o (by rintro rfl;exact h (.inr hF)) (ba λn=>h (.inl n)) e,x.new⟩
def Free(L:List Nat)(σ:St):Prop:=∀i∈L,σ[i]?=some none
abbrev BD:=Gm->Sto->List D->(List D->Sto->Prop)->Prop
def bXd(K:Fg)(L:List Nat)(tv:Addr->TB)(td:BD):Prop:=∀D' F S H Γ σ acc zs N QD,Free L σ->F D'->Rp K F S H->RepG K (mt S F) H Γ σ->H D'=some (.lst zs)->RepL K (mt S F) H acc zs->td Γ S acc QD ->
 (∀acc' S' H' zs',ExtX D' S H S' H'->Rp K F S' H'->H' D'=some (.lst zs')->RepL K (mt S' F) H' acc' zs'->QD acc' S'->N H')->tv D' σ H N
def aJ8(te:ED):BD:=fun Γ S acc Q=>te Γ S λy S1=>acc.length<sizeLine/\Q (acc++[y]) S1
theorem aQk{L:List Nat}{te:ED}:bXd K L (λD'=>eXd D' (upE K te)) (aJ8 te):=by
 intro D' F S H Γ σ acc zs N QD _ i r g Z l q c;refine⟨F,S,Γ,_,r,g,q,λv d H1 j B D v1 ⟨U,O⟩=>?_⟩;have Y:S D'=none:=(r.frm D' i).2;have J:j D'=none:=(D.frm D' i).2;have h1:H1 D'=some (.lst zs):=B.keep _ _ Y Z;have y:ExtX D' j H1 j (upd H1 D' (.lst (zs++[v]))):=⟨λa o n _ e=>by rw[upd_ne n];exact e,λa h=>by
  by_cases e:a=D'
  ·subst e;rw[aQ7];exact λz=>by cases z
  ·rw[upd_ne e];exact h,λa h=>.inl h⟩
 refine⟨zs,h1,by rw[l.length];exact U,c _ j _ (zs++[v]) (B.x.trans y) ?_ aQ7 ?_ O⟩
 ·exact⟨λa o e=>(D.obj a o e).keep (y.kp i) (upd_ne (by rintro rfl;rw[J] at e;cases e)),λa h=>by
   obtain⟨⟨ys,e,ct⟩,h2⟩:=D.frm a h
   by_cases z:a=D'
   ·subst z;exact⟨⟨_,aQ7,trivial⟩,h2⟩
   ·exact⟨⟨ys,by rw[upd_ne z];exact e,ct⟩,h2⟩⟩
 ·exact RepL.app ((l.ext B).keep (y.kp i)) (RepL.cons (v1.keep (y.kp i)) RepL.nil)
def CG(K:Fg)(L L':List Nat)(g:TG)(gd:GD):Prop:=∀F S H Γ σ d v Q QD,Free L σ->Rp K F S H->RepG K (mt S F) H Γ σ->RepV K (mt S F) H d v->gd d Γ S QD->(∀Γ' S' σ' H',Ext S H S' H'->Rp K F S' H'->RepG K (mt S' F) H' Γ' σ'->Wk σ σ'->Free L' σ'->QD Γ' S'->Q σ' H')->g v σ H Q
theorem Free.set{L:List Nat}{σ:St}{i:Nat}{v:V}(h:Free (i::L) σ)(hi:i∉L):Free L (σ.set i (some v)):=λj d=>by
 rw[fh (by rintro rfl;exact hi d)]
 exact h j (au _ d)
theorem cg_name{L:List Nat}{i:Nat}(hi:i∉L:=by decide):CG K (i::L) L (cZj i) (aZa i):=λF S H Γ σ d v Q QD f r g j q c=>c _ S _ H (Ext.refl _ _) r (g.set j i) (fQy (f i aq)) (f.set hi) q
def aZ5(g:GD)(tt:TD)(tb:BD)(G:Sto->Prop)(Γ0:Gm):List D->List D->Sto->(List D->Sto->Prop)->Prop
 |[],acc,S,Q=>G S/\Q acc S
 |x::xs,acc,S,Q=>G S/\g x Γ0 S fun Γ2 S2=>tt Γ2 S2 λb S3=>if b=true then tb Γ2 S3 acc λacc' S4=>aZ5 g tt tb G Γ0 xs acc' S4 Q else aZ5 g tt tb G Γ0 xs acc S3 Q
theorem eQ1{L L':List Nat}{g:TG}{gd:GD}{tt:TD}{tv:Addr->TB}{tb:BD}(hg:CG K L L' g gd)(hb:bXd K L' tv tb){D':Addr}{F:Am}{S:Sto}{H:Hp}{Γ:Gm}{σ:St}{acc:List D}{zs:List V}{N:Hp->Prop}{QD:List D->Sto->Prop}{J:It}{xs:List D}{G:Sto->Prop}
  (f:Free L σ) (hF:F D') (r:Rp K F S H) (gm:RepG K (mt S F) H Γ σ) (hH:H D'=some (.lst zs)) (l:RepL K (mt S F) H acc zs) (it:∀S2 H2,ExtX D' S H S2 H2->Rp K F S2 H2->G S2->(∀i d,xs[i]?=some d->J.go i H2/\∀x H3,J.yld i H2 x H3->Ext S2 H2 S2 H3/\Rp K F S2 H3/\RepV K (mt S2 F) H3 d x)/\J.stop xs.length H2)
  (q:aZ5 gd tt tb G Γ xs acc S QD) (c:∀acc' S' H' zs',ExtX D' S H S' H'->Rp K F S' H'->H' D'=some (.lst zs')->RepL K (mt S' F) H' acc' zs'->QD acc' S'->N H'):bXr J σ g (upT K tt) (tv D') N H:=by
 refine⟨λi m H'=>m=xs.length-i/\i<=xs.length/\∃S' acc' zs',ExtX D' S H S' H'/\Rp K F S' H'/\H' D'=some (.lst zs')/\RepL K (mt S' F) H' acc' zs'/\aZ5 gd tt tb G Γ (xs.drop i) acc' S' QD,⟨xs.length,by simp,Nat.zero_le _,S,acc,zs,(Ext.refl _ _).x,r,hH,l,by simpa using q⟩,?_⟩
 rintro i m H' ⟨rfl,hi,S',acc',zs',Z,r2,h2,l2,f2⟩;have g2:=gm.keep (Z.kp hF)
 by_cases Y:i<xs.length
 ·rw[aZv Y] at f2;obtain⟨hG,f2⟩:=f2;obtain⟨hgo,hy⟩:=(it S' H' Z r2 hG).1 i xs[i] (ag Y);refine .inr ⟨hgo,λv=>∃B j O,ExtX D' S H B v/\Rp K F B v/\v D'=some (.lst O)/\RepL K (mt B F) v j O/\aZ5 gd tt tb G Γ (xs.drop (i+1)) j B QD,λv z=>⟨xs.length-(i+1),by omega,rfl,Y,z⟩,λx H3 y3=>?_⟩
  obtain⟨x3,r3,v3⟩:=hy x H3 y3;refine hg F S' H3 Γ σ xs[i] x _ _ f r3 (g2.ext x3) v3 f2 fun Γ4 S4 σ4 H4 x4 r4 g4 wk fr4 q4=>⟨wk,F,S4,Γ4,_,r4,g4,q4,λz H5 S5 x5 r5 q5=>?_⟩;have U:=x3.trans (x4.trans x5);have h5:H5 D'=some (.lst zs'):=U.keep _ _ (r2.frm D' hF).2 h2;have l5:=l2.ext U;have x05:ExtX D' S H S5 H5:=Z.trans U.x;cases z with
  |false=>exact⟨S5,acc',zs',x05,r5,h5,l5,q5⟩
  |true=>exact hb D' F S5 H5 Γ4 σ4 acc' zs' _ _ fr4 hF r5 (g4.ext x5) h5 l5 q5 λacc6 S6 H6 zs6 x6 r6 h6 l6 q6=>⟨S6,acc6,zs6,x05.trans x6,r6,h6,l6,q6⟩
 ·have e:i=xs.length:=by omega
  subst e;rw[eO] at f2;exact .inl ⟨(it S' H' Z r2 f2.1).2,c acc' S' H' zs' Z r2 h2 l2 f2.2⟩
def eJo(wi:ID)(g:GD)(tt:TD)(tb:BD):BD:=fun Γ S acc Q=>wi Γ S λxs G S1=>aZ5 g tt tb G Γ xs acc S1 Q
def cXw(is:List (Option Nat))(Γ:Gm):Gm:=is.map λo=>o.bind λi=>(Γ[i]?).join
theorem RepG.at{M:Am}{H:Hp}:∀{g:Gm}{σ:St}{i:Nat}{d:D},RepG K M H g σ->g[i]?=some (some d)->∃v,σ[i]?=some (some v)/\RepV K M H d v
 |[],_,_,_,_,e=>by simp at e
 |none::g,_,0,_,_,e=>by simp at e
 |some d::g,_,0,e,⟨v,τ,rfl,q,r⟩,h=>by simp at h;subst h;exact⟨v,rfl,q⟩
 |none::g,_,i+1,d,⟨v,τ,rfl,r⟩,h=>by
  obtain⟨u,j,h1⟩:=RepG.at (i:=i) r (by simpa using h)
  exact⟨u,by simpa using j,h1⟩
 |some _::g,_,i+1,d,⟨v,τ,rfl,q,r⟩,h=>by
  obtain⟨u,j,h1⟩:=RepG.at (i:=i) r (by simpa using h)
  exact⟨u,by simpa using j,h1⟩
theorem RepG.capt{M:Am}{H:Hp}{g:Gm}{σ:St}(h:RepG K M H g σ):∀is:List (Option Nat),RepG K M H (cXw is g) (capt is σ)
 |[]=>rfl
 |o::is=>by
  have j:=RepG.capt h is;cases o with
  |none=>exact⟨_,_,rfl,j⟩
  |some i =>
   show RepG K M H ((g[i]?).join::cXw is g) ((σ[i]?).join::L2.capt is σ);cases e:g[i]? with
   |none=>exact⟨_,_,rfl,j⟩
   |some z =>
    cases z with
    |none=>exact⟨_,_,rfl,j⟩
    |some d =>
     obtain⟨v,B,r⟩:=h.at e;rw[B];exact⟨v,_,rfl,r,j⟩
def eQ2(b:Bool)(is:List (Option Nat))(wi:ID)(g:GD)(tt:TD)(tb:BD):ED:=fun Γ S Q=>wi Γ S λxs G S1=>aZ5 g tt tb G (cXw is Γ) xs [] S1 λacc S2=>newL b acc S2 Q
theorem cXx{b:Bool}{L L':List Nat}{is:List (Option Nat)}{wi:ID}{g:TG}{gd:GD}{tt:TD}{tv:Addr->TB}{tb:BD}(hL:∀σ,Free L (capt is σ))(hg:CG K L L' g gd)(hb:bXd K L' tv tb):∀σ H Q,upE K (eQ2 b is wi gd tt tb) σ H Q->bJw is (upI K wi) g (upT K tt) tv σ H Q:=fun σ H Q z0=>z0.el λF S Γ QD r gm q c =>
 ⟨F,S,Γ,_,r,gm,q,λJ xs G H1 j x1 Z it q1 D' i=>by
  have D:j D'=none:=Z.sn i;have fe:FE F H1 (λa=>F a\/a=D'):=λa h=>h.elim .inl λe=>.inr (by rw[e];exact i)
  have nF:¬ F D':=λh=>by
   obtain⟨⟨ys,e,_⟩,_⟩:=Z.frm D' h;rw[i] at e;cases e
  have xe:Ext j H1 j (upd H1 D' (.lst [])):=Ext.same (aZc i);have kp:Keep (mt j F) H1 (mt j λa=>F a\/a=D') (upd H1 D' (.lst [])):=xe.w.kpF fe;have Y:Rp K (λa=>F a\/a=D') j (upd H1 D' (.lst [])):=⟨λa o e=>(Z.obj a o e).keep kp (upd_ne (by rintro rfl;rw[D] at e;cases e)),λa h=>by
   rcases h with h|h
   ·obtain⟨⟨ys,e,ct⟩,h2⟩:=Z.frm a h;exact⟨⟨ys,by rw[upd_ne (by rintro rfl;rw[i] at e;cases e)];exact e,ct⟩,h2⟩
   ·subst h;exact⟨⟨_,aQ7,trivial⟩,D⟩⟩
  have old:∀ {v H2},ExtX D' j (upd H1 D' (.lst [])) v H2->Ext j H1 v H2:=λ{v H2} y=>⟨λa o h e=>y.keep a o (by rintro rfl;rw[i] at e;cases e) h (by rw[upd_ne (by rintro rfl;rw[i] at e;cases e)];exact e),λa h=>y.live a (xe.live a h),λa h=>by
   rcases y.new a h with z|z
   ·exact .inl z
   ·by_cases e:a=D'
    ·subst e;exact .inr i
    ·rw[upd_ne e] at z;exact .inr z⟩
  refine eQ1 hg hb (hL σ) (F:=λa=>F a\/a=D') (.inr rfl) Y ((gm.ext x1).keep kp |>.capt is) aQ7 RepL.nil (λv H2 y Y hG=>⟨it.go _ fe v H2 (old y).w Y hG,it.stop _ fe v H2 (old y).w Y hG⟩) q1 λd S' H' B y U h3 l3 q3=>?_
  have less:Keep (mt S' λa=>F a\/a=D') H' (mt S' F) H':=⟨λ_ _ _ e=>e,λa h _=>λz=>h (z.elim .inl λw=>.inr (.inl w))⟩;have O:=old y;have N:S' D'=none:=(U.frm D' (.inr rfl)).2;have r4:Rp K F S' H':=⟨λa o e=>(U.obj a o e).keep less rfl,λa h=>U.frm a (.inl h)⟩;have nm:¬ mt S' F D':=λz=>z.elim (λw=>w N) nF;cases b with
  |false =>
   refine c (.ref D') (.lst d) H' S' (x1.trans O) r4 ?_ q3;unfold RepV;exact⟨D',B,rfl,.inl ⟨nm,.inl h3⟩,l3.keep less⟩
  |true =>
   have x5:Ext j H1 (supd S' D' (.lst d)) H':=⟨O.keep,O.live,λa h=>by
    by_cases e:a=D'
    ·subst e;exact .inr i
    ·rw[aQb e] at h;exact O.new a h⟩
   have k6:Keep (mt S' λa=>F a\/a=D') H' (mt (supd S' D' (.lst d)) F) H':=⟨λ_ _ _ e=>e,λa h _=>λz=>by
    rcases z with z|z
    ·by_cases e:a=D'
     ·exact h (.inr (.inr e))
     ·rw[aQb e] at z;exact h (.inl z)
    ·exact h (.inr (.inl z))⟩
   refine c (.ref D') (.ref D') H' (supd S' D' (.lst d)) (x1.trans x5) ⟨λa o e=>?_,λa h=>⟨(r4.frm a h).1,?_⟩⟩ (by unfold RepV;rfl) (q3 D' N)
   ·by_cases e1:a=D'
    ·subst e1;rw[aQ9] at e;cases e;exact⟨B,h3,l3.keep k6⟩
    ·rw[aQb e1] at e;exact(U.obj a o e).keep k6 rfl
   ·rw[aQb (by rintro rfl;exact nF h)];exact(r4.frm a h).2⟩
def dYes:TD:=λ_ S Q=>Q true S
theorem aQo:PTs X [] (upT K dYes):=λpins s σ H Q I d=>d.el λF S Γ QD r g q c=>dXu pins s σ H Q I (c true H S (Ext.refl _ _) r q)
theorem aQh{L:List Nat}{is:List (Option Nat)}(h:(L.all λi=>decide (is[i]?=some none))=true):∀σ,Free L (capt is σ):=fun σ i hi=>by
 have:=of_decide_eq_true (bY.mp h i hi)
 unfold capt;rw[aT,this]
 rfl
theorem bZ8{c:Expr}{t:TD}(h:PTD K X c t):PTs X [c] (upT K t):=dXv h.o
end
end L2
set_option maxHeartbeats 4000000
namespace L2
open PySem PySem.Spec PyProof.Rows
section
variable{prog:aF}{w:aR}{s:ah}
def Col(prog:aF)(w:aR)(s:ah)(v:ad)(Pv:List ad->Prop):Prop:=∀(A:a8) (E:ad->ah->Prop) (R:List ad->ah->Prop),A.handled=none ->
 (∀vals h' d tk,Pv vals->(∀b o,s.heap.get? b=some o->h'.get? b=some o)->R vals {s with heap:=h',drawn:=d,toks:=tk})->aH (aE prog w) A (collect v) R E s
theorem cXy{a:Addr}{T:String}{o:Obj}{its:List ad}{n:Nat}(hT:T="list"\/T="tuple")(ho:s.heap.get? a=some o)(hc:o.cls=.type T)(hd:o.data=.seq its.toArray n)(hz:its.length<=sizeLine):Col prog w s (.ref a) (·=its):=λA E R _ h =>
 wpAny_collect_seq a hT ho hc hd (λh' k=>by
  have:=h its h' s.drawn s.toks rfl k
  simpa using this) (by simpa using hz)
theorem dQy{a:Addr}{vs:List (Key×ad)}(lo:(a==sysModules)=false)(hd:s.heap.DictOf (aJj prog w) a vs)(hz:vs.length<=sizeLine):Col prog w s (.ref a) (λvals=>vals.length=vs.length/\∀(j:Nat) (v:ad),vals[j]?=some v->∃(k:Key) (x:ad),vs[j]?=some (k,x)/\cJy k v=true):=λA E R hh h=>by
 obtain⟨ep,i⟩:=hd.dictAt;refine PySem.W.kdu_collect (PySem.W.kdl_dict (knd:=aJj prog w) (kvs:=vs) (ep:=ep) lo) hh i hz λh' z acc B d=>?_;exact h acc.toList h' s.drawn z ⟨by rw[aP];exact d.1,λj v e=>d.2 j v (by rw[<- aN];exact e)⟩ B
theorem aXt{A:a8}{E:ad->ah->Prop}{v:ad}{Pv:List ad->Prop}{Q:ad->ah->Prop}(hh:A.handled=none)(col:Col prog w s v Pv)(hz:∀vals,Pv vals->vals.length<=sizeLine)
  (srt:∀(vals:List ad) (h1:bj) (d:Drawn) (tk:Nat),Pv vals->(∀b o,s.heap.get? b=some o->h1.get? b=some o)->aH (aE prog w) A.in1.in1 (cx.«list.sort» ⟨[.ref h1.objs.size],[]⟩) (λfin s'=>fin=.done (.ret .none)/\Q (.ref h1.objs.size) s') E {s with heap:=h1.push (bO "list" vals.toArray 0),drawn:=d,toks:=tk}) :
  aH (aE prog w) A (call (.builtin "sorted") [v]) Q E s:=by
 refine fC kind_sorted plain_sorted entry_sorted (args_sorted1 _) ?_;unfold cx.«sorted»;refine aa (m:=checkCount "sorted" 1 1 _) (ae ?_);refine aa (col A.in1 _ _ (by simp[hh]) λvals h1 d tk pv kp=>?_)
 refine aa (iy ?_ (hz vals pv));have i:(h1.push (bO "list" vals.toArray 0)).get? h1.objs.size=some (bO "list" vals.toArray 0):=az _ rfl;refine aa (bu (dE slot_list_sort ⟨_,i,rfl⟩ entry_list_sort ?body (args_list_sort _)))
 case body =>
  refine cK (srt vals h1 d tk pv kp) (λfin s' ⟨e,q⟩=>?_) λ_ _ e=>e;subst e;exact⟨_,rfl,ae ⟨_,rfl,q⟩⟩
theorem aJz{h:bj}{a:Addr}{vs:List ad}{n:Nat}{out:Array ad}(ho:h.get? a=some (bO "list" vs.toArray n)):(∃c,(gu h a vs out).get? a=some (bO "list" out c))/\∀b o,b≠a->h.get? b=some o->(gu h a vs out).get? b=some o:=by
 unfold gu;obtain⟨v,d⟩:∃v,(h.update a (bI λ_=>(#[]:Array ad))).get? a=some (bO "list" #[] v):=⟨_,ef ho λ_=>#[]⟩;have z:=cv h a (bI λ_=>(#[]:Array ad));have i:∀b o,(h.update a (bI λ_=>(#[]:Array ad))).get? b=some o->(((h.update a (bI λ_=>(#[]:Array ad))).push (bO "tuple" vs.toArray 0)).push (bO "list" #[] 0)).get? b=some o:=λb o e=>af _ (af _ e);refine⟨⟨_,ef (i _ _ d) λ_=>out⟩,λb o j e=>?_⟩;have s2:=cv (((h.update a (bI λ_=>(#[]:Array ad))).push (bO "tuple" vs.toArray 0)).push (bO "list" #[] 0)) a (bI λ_=>out);exact(s2.2 b j).trans (i b o ((z.2 b j).trans e))
theorem cXz{A:a8}{E:ad->ah->Prop}{a:Addr}{vs:List ad}{ss:List Str}{n:Nat}{P:gR->ah->Prop}(ho:s.heap.get? a=some (bO "list" vs.toArray n))(hS:jb vs ss)(h64:vs.length<=sizeLine)
  (h:∀(out:List ad) (ss':List Str) (h':bj) (c:Nat),jb out ss'->ss'.Perm ss->sortedS ss'=true->h'.get? a=some (bO "list" out.toArray c)->(∀b o,b≠a->s.heap.get? b=some o->h'.get? b=some o)->P (.done (.ret .none)) {s with heap:=h'}) :
  aH (aE prog w) A (cx.«list.sort» ⟨[.ref a],[]⟩) P E s:=by
 refine SF.treeK strKind_oneLt ho hS.keysOf (λj i rest e=>keyKind_strs (by rw[<- e];exact hS)) h64 λd z v=>?_
 obtain⟨ss',h1,h2,J⟩:=sorted_out_str hS z v;obtain⟨⟨c,D⟩,B⟩:=aJz (out:=(aO d).map (·.2)) ho;exact h _ ss' _ c h1 h2 J (by rw[D]) B
theorem cJ0{A:a8}{E:ad->ah->Prop}{a:Addr}{vs:List ad}{ns:List Int}{n:Nat}{P:gR->ah->Prop}(ho:s.heap.get? a=some (bO "list" vs.toArray n))(hI:gK vs ns)(h64:vs.length<=sizeLine)
  (h:∀(out:List ad) (ns':List Int) (h':bj) (c:Nat),gK out ns'->ns'.Perm ns->ns'.Pairwise (·<=·)->h'.get? a=some (bO "list" out.toArray c)->(∀b o,b≠a->s.heap.get? b=some o->h'.get? b=some o)->P (.done (.ret .none)) {s with heap:=h'}) :
  aH (aE prog w) A (cx.«list.sort» ⟨[.ref a],[]⟩) P E s:=by
 refine SF.treeI ho hI h64 λout ns' h1 h2 j=>?_;obtain⟨⟨c,i⟩,d⟩:=aJz (out:=out) ho;exact h _ ns' _ c h1 h2 j (by rw[i]) d
end
section
variable{X:Cx}{K:Fg}
def Src(K:Fg)(H:Hp)(x:V)(us:List V):Prop:=∃a,x=.ref a/\(SqL K H a us\/SqT K H a us\/∃kvs:List (Key×V),H a=some (.dK kvs)/\us=kvs.map λp=>kV p.1)
theorem bXe:∀{kvs:List (Key×V)}{vs:List (Key×ad)}{vals:List ad},KV kvs vs->vals.length=vs.length->(∀(j:Nat) (v:ad),vals[j]?=some v->∃(k:Key) (x:ad),vs[j]?=some (k,x)/\cJy k v=true)->Vals (kvs.map λp=>kV p.1) vals
 |[],_,vals,.nil,d,_=>by cases vals with
  |nil=>exact .nil
  |cons _ _=>simp at d
 |p::kvs,_,vals,.cons (b:=q) D B,d,h=>by
  cases vals with
  |nil=>simp at d
  |cons v vals =>
   refine .cons ?_ (bXe B (by simpa using d) λj v e=>by simpa using h (j+1) v (by simpa using e))
   obtain⟨k,x,e,J⟩:=h 0 v rfl;have L:q=(k,x):=by simpa using e
   have z:p.1=k:=by rw[D.1,L]
   show RelV (kV p.1) v;rw[z];rcases aQi J with⟨i,t,rfl,rfl⟩|⟨y,t,rfl,rfl⟩
   ·exact⟨t,rfl⟩
   ·exact⟨t,rfl⟩
theorem Inv.toks{pins:List (Addr×Obj)}{σ:St}{H:Hp}{s:ah}(I:Inv X pins σ H s){h':bj}(k:∀b o,s.heap.get? b=some o->h'.get? b=some o)(d:Drawn)(tk:Nat):Inv X pins σ H {s with heap:=h',drawn:=d,toks:=tk}:=(I.kept (t':=tk) k).drawn d
theorem Inv.src{pins:List (Addr×Obj)}{σ:St}{H:Hp}{s:ah}(I:Inv X pins σ H s)(hK:X.K=K){x:V}{u:ad}{us:List V}(h:Src K H x us)(r:RelV x u):Col X.prog X.w s u (λvals=>Vals us vals)/\us.length<=sizeLine:=by
 subst hK;obtain⟨a,rfl,h⟩:=h;cases r;rcases h with h|h|⟨z,h,rfl⟩
 ·obtain⟨its,j,⟨o,n,B,D,_,hd⟩,v⟩:=I.list h;have L:=j.length;exact⟨λA E R hh q=>cXy (.inl rfl) B D hd (by lia) A E R hh λvals h' d i e k=>q vals h' d i (by rw[e];exact j) k,v⟩
 ·obtain⟨its,j,⟨o,B,D,n,hd⟩,v⟩:=I.tuple h;have L:=j.length;exact⟨λA E R hh q=>cXy (.inr rfl) B D hd (by lia) A E R hh λvals h' d i e k=>q vals h' d i (by rw[e];exact j) k,v⟩
 ·obtain⟨v,lo,vs,J,hd⟩:=I.hok a _ h;have L:z.length=vs.length:=cq J;exact⟨λA E R hh q=>dQy lo hd (by lia) A E R hh λvals h' d i e k=>q vals h' d i (bXe J e.1 e.2) k,by rw[am];exact v⟩
def eJp(K:Fg):List V->Hp->VK->Prop:=λxs H Q=>∃(x:V) (ss:List Str),xs=[x]/\Src K H x (ss.map V.str)/\∀(p:Addr) (out:List Str),H p=none->out.Perm ss->out.Pairwise (λa b=>HT.ltS b a=false)->Q (.ref p) (upd H p (.lst (out.map V.str)))
theorem bQo:∀{l:List Str},sortedS l=true->l.Pairwise λa b=>HT.ltS b a=false
 |[],_=>.nil
 |[x],_=>a4 _ _
 |x::y::l,h=>by
  have h':(!ltCps y.cps.toList x.cps.toList&&risingS y l)=true:=h;rw[bb] at h';have B:=bQo (l:=y::l) h'.2;have j:HT.ltS y x=false:=by
   have:=h'.1
   rw[dl,ltCps_eq] at this;exact this
  refine aY.mpr ⟨λz v=>?_,B⟩;rcases aK.mp v with rfl|v
  ·exact j
  ·have d:=(aY.mp B).1 z v;cases e:HT.ltS z x with
   |false=>rfl
   |true =>
    by_cases i:y=x
    ·subst i;rw[d] at e;cases e
    ·have:=HT.ltS_tot j i
     have:=HT.ltS_tr e this
     rw[d] at this;cases this
theorem cJ1(hK:X.K=K:=by rfl)(hc:X.calm=true:=by rfl):CallR X (.builtin "sorted") (eJp K):=by
 intro pins s σ H xs us Q I r h;obtain⟨x,ss,rfl,J,q⟩:=h;obtain⟨u,rfl,D⟩:=aXc r;obtain⟨col,j⟩:=I.src hK J D;have len:∀{vals:List ad},Vals (ss.map V.str) vals->vals.length=ss.length:=λv=>by have:=v.length;simpa using this.symm
 refine aXt (I.ok.hd hc) col (λvals v=>by rw[len v];simpa using j) λvals h1 d i pv kp=>?_
 have B:H h1.objs.size=none:=(I.toks kp d i).hok.fresh (Nat.le_refl _);refine cXz (s:={ s with heap:=h1.push (bO "list" vals.toArray 0),drawn:=d,toks:=i }) (az _ rfl) (cXl (H:=H) (ds:=ss) (xs:=ss.map V.str) (by
  clear j q J col D pv len
  induction ss with
  |nil=>exact .nil
  |cons a ss L=>exact .cons rfl L) pv) (by rw[len pv];simpa using j) λout z h' c a1 a2 U O N=>⟨rfl,?_⟩
 have Y:=I.toks kp d i;obtain⟨v1,v2⟩:=bZ5 (H:=H) a1;refine⟨.ref h1.objs.size,_,Y.laid (a:=h1.objs.size) (o:=.lst (z.map V.str)) (t':=i) (λb o e=>N b o (Nat.ne_of_lt (aD e)) (af _ e)) (Nat.le_refl _) ⟨?_,out,c,v1,O⟩,rfl,q _ _ B a2 (bQo U)⟩
 have:=a2.length_eq
 rw[am,this];simpa using j
def eJq(K:Fg):List V->Hp->VK->Prop:=λxs H Q=>∃(x:V) (ns:List Int),xs=[x]/\Src K H x (ns.map V.int)/\∀(p:Addr) (out:List Int),H p=none->out.Perm ns->out.Pairwise (·<=·)->Q (.ref p) (upd H p (.lst (out.map V.int)))
theorem cJ2(hK:X.K=K:=by rfl)(hc:X.calm=true:=by rfl):CallR X (.builtin "sorted") (eJq K):=by
 intro pins s σ H xs us Q I r h;obtain⟨x,ss,rfl,J,q⟩:=h;obtain⟨u,rfl,D⟩:=aXc r;obtain⟨col,z⟩:=I.src hK J D;have len:∀{vals:List ad},Vals (ss.map V.int) vals->vals.length=ss.length:=λv=>by have:=v.length;simpa using this.symm
 refine aXt (I.ok.hd hc) col (λvals v=>by rw[len v];simpa using z) λvals h1 d i pv kp=>?_
 have B:H h1.objs.size=none:=(I.toks kp d i).hok.fresh (Nat.le_refl _);refine cJ0 (s:={s with heap:=h1.push (bO "list" vals.toArray 0),drawn:=d,toks:=i}) (az _ rfl) (cQy pv) (by rw[len pv];simpa using z) λout j h' c a1 a2 O N L=>⟨rfl,?_⟩
 have U:=I.toks kp d i;refine⟨.ref h1.objs.size,_,U.laid (a:=h1.objs.size) (o:=.lst (j.map V.int)) (t':=i) (λb o e=>L b o (Nat.ne_of_lt (aD e)) (af _ e)) (Nat.le_refl _) ⟨?_,out,c,aJn a1,N⟩,rfl,q _ _ B a2 O⟩
 have:=a2.length_eq
 rw[am,this];simpa using z
def eJr(K:Fg):List V->Hp->VK->Prop:=λxs H Q=>∃(x:V) (us:List V) (ds:List (List Str)),xs=[x]/\Src K H x us/\bi (dT K dS H) us ds/\∀(p:Addr) (idx:List Nat),H p=none->idx.Perm (a6 us.length)->(idx.map λi=>ds.getD i []).Pairwise (λa b=>HT.lexS b a=false)->(idx.map λi=>ds.getD i []).Perm ds->Q (.ref p) (upd H p (.lst (idx.map λi=>us.getD i V.non)))
theorem tsOf{pins:List (Addr×Obj)}{σ:St}{H:Hp}{s:ah}(I:Inv X pins σ H s)(hK:X.K=K){h':bj}(k:∀b o,s.heap.get? b=some o->h'.get? b=some o):∀{us:List V}{vs:List ad}{ds:List (List Str)},Vals us vs->bi (dT K dS H) us ds->bi (KS.TS h') vs ds
 |_,_,_,.nil,.nil=>.nil
 |_,_,_,.cons r q,.cons d p=>by
  refine .cons ?_ (tsOf I hK k q p);obtain⟨b,xs,e,i,pp⟩:=d;rw[e] at r;cases r;rw[<- hK] at i;obtain⟨its,j,⟨o,v,z⟩,_⟩:=I.tuple i;exact⟨b,its.toArray,rfl,⟨o,k b o v,z⟩,aJw pp j⟩
theorem cQe{us:List V}{vs:List ad}(p:Vals us vs):∀(idx:List Nat),(∀i∈idx,i<us.length)->Vals (idx.map λi=>us.getD i V.non) (idx.map λi=>vs.getD i cB)
 |[],_=>.nil
 |i::idx,h=>by
  refine .cons ?_ (cQe p idx λj d=>h j (au _ d));have hi:=h i aq;obtain⟨u,e,r⟩:=p.get (ag hi);show RelV (us.getD i V.non) (vs.getD i cB);rw[ak,ak,e,ag hi];exact r
theorem cJ3(hu:X.A.units+8<cE)(hK:X.K=K:=by rfl)(hc:X.calm=true:=by rfl):CallR X (.builtin "sorted") (eJr K):=by
 intro pins s σ H xs us Q I r h;obtain⟨x,ys,ds,rfl,hs,N,q⟩:=h;obtain⟨u,rfl,O⟩:=aXc r;obtain⟨col,hz⟩:=I.src hK hs O;have hl:ys.length=ds.length:=cq N;refine aXt (I.ok.hd hc) col (λvals v=>by rw[<- v.length];exact hz) λvals h1 d j pv kp=>?_
 have B:=pv.length;have L:=I.toks kp d j;have J:H h1.objs.size=none:=L.hok.fresh (Nat.le_refl _);refine KS.sort_tupsL (s:={s with heap:=h1.push (bO "list" vals.toArray 0),drawn:=d,toks:=j}) (ds:=ds) (by show X.A.units+1+1<_;lia) (az _ rfl) (tsOf L hK (λb o e=>af _ e) pv N) (by lia) λidx h' c z Z Y g U=>⟨rfl,?_⟩
 have D:∀i∈idx,i<ys.length:=λi hi=>by have:=aX.mp (z.mem_iff.mp hi);lia
 have il:idx.length=vals.length:=by have:=z.length_eq;simpa using this
 refine⟨.ref h1.objs.size,_,L.laid (a:=h1.objs.size) (o:=.lst (idx.map λi=>ys.getD i V.non)) (t':=j) (λb o e=>U b o (Nat.ne_of_lt (aD e)) (af _ e)) (Nat.le_refl _) ⟨?_,_,c,cQe pv idx D,g⟩,rfl,q _ idx J (by rw[B];exact z) Z Y⟩
 rw[am];lia
end
section
variable{X:Cx}{K:Fg}{pos:Pos}{k:Nat}
section
variable{elt target iter:Expr}{ifs:List Expr}{gs:List eD}{scope:Scope}{N':List Str}{is:List (Option Nat)}{wi:ID}{g:TG}{gd:GD}{tt:TD}{tv:Addr->TB}{tb:BD}{oc:Option Str}{m:ad->Env->Sem Unit}{b:Bool}
theorem aQy(L L':List Nat)(hcalm:X.calm=true)(hN:X.N.Nodup)
  (hturn:∀it acc env,eJ (.ListComp elt (⟨target,iter,ifs,0⟩::gs) scope pos) 0 it acc env=aZ1 target ifs iter.pos (m acc env) (.compLoop (.ListComp elt (⟨target,iter,ifs,0⟩::gs) scope pos) 0 it acc env) it env)
  (cp:Cap X.N scope N' is) (hL:∀σ,Free L (capt is σ)) (hi:PID K X target iter wi) (hgd:CG K L L' g gd)
  (hg:∀cl C fp s H,PG (aQa X N' scope cl C fp s H oc) target g) (ht:∀cl C fp s H,PTs (aQa X N' scope cl C fp s H oc) ifs (upT K tt)) (hbd:bXd K L' tv tb) (hb:∀cl C fp s H D,PB (aQa X N' scope cl C fp s H oc) (m (.ref D) (gC scope cl C X.env)) (tv D))
  (hcf:∀n acc,eH n scope.names acc=ocl oc n acc:=by intro _ _;rfl) (hpc:∀h,fQ h scope.names=ohp oc h:=by intro _;rfl)
  (hkind:scope.kind=.function:=by rfl) (hcell:∀y∈scope.names,y.2=.cell->oc=some y.1:=by decide +kernel)
  (hu:∀y∈scope.names,scope.names.lookup y.1=some y.2:=by decide +kernel) (hoc:∀x,oc=some x->scope.names.lookup x=some .cell:=by intro x h;cases h <;> rfl)
  (hVb:okV scope.names X.env.scope.names=true:=by first|rfl|kernel_rfl)
  (hs:∀x,bZ iter X.env x=pure x:=by intro _;rfl) :
  PD K X (.ListComp elt (⟨target,iter,ifs,0⟩::gs) scope pos) (eQ2 b is wi gd tt tb):=.of (dQd hcalm hN hturn cp hi.o hg ht hb hcf hpc hkind hcell hu hoc hVb hs) (cXx hL hgd hbd)
theorem bJb{x:Str}{i:Nat}{pos' spos:Pos}(hix:X.N[i]?=some x)(hx:Loc X.env.scope x)(L L':List Nat)(hcalm:X.calm=true)(hN:X.N.Nodup)
  (hturn:∀it acc env,eJ (.ListComp elt (⟨target,iter,ifs,0⟩::gs) scope pos) 0 it acc env=aZ1 target ifs iter.pos (m acc env) (.compLoop (.ListComp elt (⟨target,iter,ifs,0⟩::gs) scope pos) 0 it acc env) it env)
  (cp:Cap X.N scope N' is) (hL:∀σ,Free L (capt is σ)) (hi:PID K X target iter wi) (hgd:CG K L L' g gd)
  (hg:∀cl C fp s H,PG (aQa X N' scope cl C fp s H oc) target g) (ht:∀cl C fp s H,PTs (aQa X N' scope cl C fp s H oc) ifs (upT K tt)) (hbd:bXd K L' tv tb) (hb:∀cl C fp s H D,PB (aQa X N' scope cl C fp s H oc) (m (.ref D) (gC scope cl C X.env)) (tv D))
  (hcf:∀n acc,eH n scope.names acc=ocl oc n acc:=by intro _ _;rfl) (hpc:∀h,fQ h scope.names=ohp oc h:=by intro _;rfl)
  (hkind:scope.kind=.function:=by rfl) (hcell:∀y∈scope.names,y.2=.cell->oc=some y.1:=by decide +kernel)
  (hu:∀y∈scope.names,scope.names.lookup y.1=some y.2:=by decide +kernel) (hoc:∀x,oc=some x->scope.names.lookup x=some .cell:=by intro x h;cases h <;> rfl)
  (hVb:okV scope.names X.env.scope.names=true:=by first|rfl|kernel_rfl)
  (hs:∀x,bZ iter X.env x=pure x:=by intro _;rfl)
  (hsw:iD (.ListComp elt (⟨target,iter,ifs,0⟩::gs) scope pos) (some (.Name x pos')) spos.line X.env=pure true:=by first|rfl|kernel_rfl) (hf:X.fn x=true\/X.env.scope.names.lookup x=some .local:=by first|exact .inl rfl|exact .inr rfl|assumption) :
  PSD K X (.Assign [.Name x pos'] (.ListComp elt (⟨target,iter,ifs,0⟩::gs) scope pos) spos) (dAsg (eQ2 b is wi gd tt tb) (aZa i)):=.of (dXx hix hx hcalm hN hturn cp hi.o hg ht hb hcf hpc hkind hcell hu hoc hVb hs hsw hf) λY σ H B=>B.el λF S Γ E r z q c=>by
 refine cXx (tt:=tt) (b:=b) hL hgd hbd σ H _ ⟨F,S,Γ,_,r,z,q,λv d H1 U j J v1 O=>?_⟩;exact c.nx _ U _ H1 j J ((z.ext j).set v1 i) O
end
def dCut(t u:SD):SD:=λE Γ S=>∃M:Gm->Sto->Prop,t {E with nx:=M} Γ S/\∀Γ' S',M Γ' S'->u E Γ' S'
theorem bJc{st:Stmt}{rest:List Stmt}{t u:SD}(h1:PSD K X st t)(h2:PSsD K X rest u):PSsD K X (st::rest) (dCut t u):=.of (bJs h1.o h2.o) λB σ H ⟨F,S,Γ,E,r,g,⟨M,q,z⟩,c⟩ =>
 ⟨F,S,Γ,{E with nx:=M},r,g,q,fun Γ1 d σ1 H1 i j g1 v=>⟨F,d,Γ1,E,j,g1,z Γ1 d v,c.ext i⟩,c.rt,c.bk,c.ct⟩
abbrev SpD:=List D->Sto->DK->Prop
def spU(K:Fg)(sp:SpD):Sp:=λvs H Q _=>∃F S ds QD,Rp K F S H/\RepL K (mt S F) H ds vs/\sp ds S QD/\Cn K F S H QD Q
theorem aQ6{x:Str}{ps:List Str}{sp:SpD}{p:Pos}{e:Expr}{es:List Expr}{t:AD}(Df':Df X.prog X.w X.K X.mg X.base k x ps (spU K sp))(hr:Room k X.A)(hg:Gl X x)(ha:PAD K X (e::es) t)
  (hdb:(x==("__debug__":Str))=false:=by decide) (he:aC (e::es) X.env=(false,eval e X.env)::aC es X.env:=by rfl) (hpl:(cD pos (aC es X.env)).any (·.1)=false:=by rfl) :
  PD K X (.Call (.Name x p) (e::es) [] pos) (dCB sp t):=.of (dQb Df' hr hg ha.o hdb he hpl) fun σ H Q d=>d.el λF S Γ QD r g q c =>
 ⟨F,S,Γ,_,r,g,q,λj ds H1 B i v v1 z=>by
  show spU K sp (j++[]) H1 Q E0;rw[a7];exact⟨F,B,ds,QD,v,v1,z,Cn.shift c i⟩⟩
inductive Frz(S S':Sto):D->D->Prop where
 |same (d:D):Frz S S' d d
 |ref {a:Addr}{xs ys:List D}(h:S a=some (.lst xs)) (h':S' a=none) (l:Frz S S' (.tup xs) (.tup ys)):Frz S S' (.ref a) (.lst ys)
 |nil:Frz S S' (.tup []) (.tup [])
 |cons {d e:D}{ds es:List D}(h:Frz S S' d e) (l:Frz S S' (.tup ds) (.tup es)):Frz S S' (.tup (d::ds)) (.tup (e::es))
theorem cJ4{F:Am}{S S':Sto}{H:Hp}(r:Rp K F S H)(hs:∀a o,S' a=some o->S a=some o):∀{d e:D},Frz S S' d e->(∀v,RepV K (mt S F) H d v->RepV K (mt S' F) H e v)/\(∀ds es,d=.tup ds->e=.tup es->∀vs,RepL K (mt S F) H ds vs->RepL K (mt S' F) H es vs):=by
 intro d e h;have kp:Keep (mt S F) H (mt S' F) H:=(Ext.less (H:=H) hs).kp
 induction h with
 |same d=>exact⟨λv h=>h.keep kp,λds es e1 e2 vs l=>by cases e1;cases e2;exact l.keep kp⟩
 |@ref a xs ys h h' l O =>
  refine⟨λv i=>?_,λds es e1=>by cases e1⟩
  rw[rref i];obtain⟨us,U,L⟩:=r.obj a _ h;unfold RepV;refine⟨a,us,rfl,.inl ⟨λz=>?_,.inl U⟩,O.2 xs ys rfl rfl us L⟩;rcases z with z|z
  ·exact z h'
  ·rw[(r.frm a z).2] at h;cases h
 |nil=>exact⟨λv h=>h.keep kp,λds es e1 e2 vs l=>by cases e1;cases e2;exact l.keep kp⟩
 |@cons d e ds es h l B j =>
  have ls:∀vs,RepL K (mt S F) H (d::ds) vs->RepL K (mt S' F) H (e::es) vs:=λvs l=>by
   unfold RepL at l ⊢;obtain⟨v,vs,rfl,J,N⟩:=l;exact⟨v,vs,rfl,B.1 v J,j.2 ds es rfl rfl vs N⟩
  refine⟨λv i=>?_,λZ Y e1 e2 vs l=>by cases e1;cases e2;exact ls vs l⟩
  unfold RepV at i ⊢;obtain⟨a,us,rfl,t,l⟩:=i;exact⟨a,us,rfl,t.keep kp,ls us l⟩
def rtD(Q:DK):DK:=λd S=>∃d' S',(∀a o,S' a=some o->S a=some o)/\Frz S S' d d'/\Q d' S'
theorem aQl{Q:DK}{d:D}{S:Sto}(h:Q d S):rtD Q d S:=⟨d,S,λ_ _ e=>e,.same d,h⟩
theorem aXu{Q:DK}{d:D}{S S':Sto}(hs:∀a o,S' a=some o->S a=some o)(h:Q d S'):rtD Q d S:=⟨d,S',hs,.same d,h⟩
def cZ8(Q:DK):EndsD:={nx:=λ_ S=>rtD Q .non S,rt:=rtD Q}
def aJ1(N:List Str)(ds:List D):Gm:=ds.map some++gW (N.length-ds.length) none
theorem bZ9{M:Am}{H:Hp}{N:List Str}{ds:List D}{vs:List V}(l:RepL K M H ds vs):RepG K M H (aJ1 N ds) (start N vs):=by
 have i:∀n,RepG K M H (gW n none) (gW n none):=λn=>by
  induction n with
  |zero=>exact rfl
  |succ n j=>exact⟨none,_,rfl,j⟩
 have gen:∀{ds:List D}{vs:List V}{g:Gm}{σ:St},RepL K M H ds vs->RepG K M H g σ->RepG K M H (ds.map some++g) (vs.map some++σ):=by
  intro ds
  induction ds with
  |nil=>intro vs g σ l h;unfold RepL at l;subst l;exact h
  |cons d ds j =>
   intro vs g σ l h;unfold RepL at l;obtain⟨v,vs,rfl,r,l⟩:=l;exact⟨v,_,rfl,r,j l h⟩
 unfold aJ1 start;rw[l.length];exact gen l (i _)
theorem aZw{P:aF}{w:aR}{mg:Str->Option ad}{base:bj}{x:Str}{st:Stmt}{N ps:List Str}{sp:SpD}(T:Tx K mg x st)(S:FnScope N ps (aQ3 st))
  (b:∀{f:Addr}{fd:cT},Fun K x x st f fd->Binds K fd ps []) (len:∀ds S Q,sp ds S Q->ds.length=ps.length)
  (h:∀ (f:Addr) (cdv:ad) (A:a8) (outer:List Env) (s:ah) (H:Hp) (E:XK),Room k (A.deeper (gX x (aQ3 st) s.heap.objs.size f cdv)) ->
   ∃t,PSsD K (cxOf CX0 P w K mg base N x (aQ3 st) f cdv A outer s H E).nox (aZ3 st) t/\∀ds S Q,sp ds S Q->t (cZ8 Q) (aJ1 N ds) S):Df P w K mg base (k+1) x ps (spU K sp):=by
 refine T.df b λ{f fd} Fn=>Fn.ok S (λL H Q E z=>by obtain⟨F,S,ds,QD,r,l,i,c⟩:=z;rw[l.length];exact len ds S QD i) (λcdv A outer s H L Q E' O z=>?_)
 obtain⟨F,S,ds,QD,r,l,i,c⟩:=z;obtain⟨t,h1,h2⟩:=h f cdv A outer s H E' O;have fin:∀v d H' S',Ext S H S' H'->Rp K F S' H'->RepV K (mt S' F) H' d v->rtD QD d S'->Q v H':=λv d H' S' B j v1 J=>by
  obtain⟨Y,Z,D,U,q⟩:=J;exact c v Y H' Z (B.trans (Ext.less D)) (j.less D) ((cJ4 j D U).1 v v1) q
 exact⟨_,h1.o,F,S,aJ1 N ds,cZ8 QD,r,bZ9 l,h2 ds S QD i,fun Γ' S' σ' H' B j g1 q=>fin .non .non H' S' B j (by unfold RepV;rfl) q,fin,λ_ _ _ _ _ _ _ q=>q.elim,λ_ _ _ _ _ _ _ q=>q.elim⟩
theorem eJs{M:Am}{H:Hp}:∀{as:List Int},RepL K M H (as.map D.int) (as.map V.int)
 |[]=>RepL.nil
 |a::as=>RepL.cons (by unfold RepV;rfl) eJs
def dMt(rd:D->List D->Sto->DK->Prop)(ck:D->Sto->Prop)(to:ED)(t:AD):ED:=fun Γ S Q=>to Γ S λo S1=>ck o S1/\t Γ S1 λds S2=>rd o ds S2 Q
def MtD(K:Fg)(T:String)(r:V->List V->Hp->VK->Prop)(rd:D->List D->Sto->DK->Prop)(ck:D->Sto->Prop):Prop :=
 (∀F S H d x,Rp K F S H->RepV K (mt S F) H d x->ck d S->tyV K T x H)/\∀F S H d ds x vs Q QD,Rp K F S H->RepV K (mt S F) H d x->RepL K (mt S F) H ds vs->rd d ds S QD->Cn K F S H QD Q->r x vs H Q
theorem e_bm{T id:String}{name:Str}{r:V->List V->Hp->VK->Prop}{rd:D->List D->Sto->DK->Prop}{ck:D->Sto->Prop}{o e:Expr}{es:List Expr}{to:ED}{t:AD}{apos cpos:Pos}(M:MtD K T r rd ck)
  (pa:PlainAttrs T) (slot:Slot T name id) (hty:typeOf (.builtin id)=pure (.type "method_descriptor")) (hm:MtR X id r) (ho:PD K X o to) (ha:PAD K X (e::es) t) (hK:X.K=K:=by rfl)
  (hbase:ir o name X.env (eval o X.env)=eval o X.env:=by rfl)
  (hfew:((cD cpos (aC (e::es) X.env)).all (λx=>!x.1) && (jj cpos (gA [] X.env)).all (λx=>x.1.isSome)
   && decide ((e::es).length+([]:List i6).length+(if ([]:List i6).isEmpty then 0 else 1)<30))=true:=by rfl)
  (hline:(apos.endLine==cpos.line)=true:=by rfl) (hs:aC (e::es) X.env=(false,eval e X.env)::aC es X.env:=by rfl) (hplain:(cD cpos (aC es X.env)).any (·.1)=false:=by rfl) :
  PD K X (.Call (.Attribute o name apos) (e::es) [] cpos) (dMt rd ck to t):=by
 subst hK;exact .of (fQw pa slot hty hm ho.o ha.o hbase hfew hline hs hplain) fun σ H Q J=>J.el λF S Γ QD r g q c =>
  ⟨F,S,Γ,_,r,g,q,λv d H1 B j z v1 ⟨Y,U⟩=>⟨M.1 F B H1 d v z v1 Y,F,B,Γ,_,z,g.ext j,U,λL ds H2 Z i N v2 O=>M.2 F Z H2 d ds v L Q QD N (v1.ext i) v2 O (Cn.shift c (j.trans i))⟩⟩
def ckL(d:D)(S:Sto):Prop:=match d with
 |.ref a=>∃xs,S a=some (.lst xs)
 |_=>False
theorem ty_L{F:Am}{S:Sto}{H:Hp}{d:D}{x:V}(r:Rp K F S H)(h:RepV K (mt S F) H d x)(c:ckL d S):tyV K "list" x H:=by
 cases d with
 |ref a =>
  obtain⟨xs,i⟩:=c;rw[rref h];obtain⟨us,j,_⟩:=r.obj a _ i;exact .inl ⟨rfl,us,SqL.of j⟩
 |_=>exact c.elim
theorem Cn.write{F:Am}{S:Sto}{H:Hp}{QD:DK}{Q:VK}(c:Cn K F S H QD Q)(r:Rp K F S H){a:Addr}{xs ys:List D}{us ws:List V}(hS:S a=some (.lst xs))(l:RepL K (mt S F) H ys ws){d:D}{v:V}(hv:RepV K (mt S F) H d v)(q:QD d (supd S a (.lst ys))):Q v (upd H a (.lst ws)):=by
 have i:S a≠none:=by rw[hS];exact λz=>by cases z
 have x:Ext S H (supd S a (.lst ys)) (upd H a (.lst ws)):=Ext.write i;exact c v d _ _ x (r.write i ⟨ws,aQ7,l.ext x⟩) (hv.ext x) q
def appD:D->List D->Sto->DK->Prop:=λo ds S Q=>match o,ds with
 |.ref a,[y]=>∃xs,S a=some (.lst xs)/\xs.length<sizeLine/\Q .non (supd S a (.lst (xs++[y])))
 |_,_=>False
theorem eJt:MtD K "list" cZt appD ckL:=⟨λF S H d x r h c=>ty_L r h c,λF S H d ds x J Q QD r h l q c=>by
 match d,ds,q with
 |.ref a,[y],⟨xs,j,B,q⟩ =>
  obtain⟨v,rfl,z⟩:=l.one;obtain⟨us,D,i⟩:=r.obj a _ j;rw[rref h];exact⟨a,us,v,rfl,rfl,D,by rw[i.length];exact B,c.write r (us:=us) j (i.app (RepL.cons z RepL.nil)) (by unfold RepV;rfl) q⟩⟩
def cJ5:D->List D->Sto->DK->Prop:=λo ds S Q=>match o,ds with
 |.ref a,[.int i]=>∃xs j y,S a=some (.lst xs)/\i=(j:Nat)/\(j:Nat)<2^63/\xs[(j:Nat)]?=some y/\Q y (supd S a (.lst (xs.eraseIdx j)))
 |_,_=>False
theorem dQz:MtD K "list" dZl cJ5 ckL:=⟨λF S H d x r h c=>ty_L r h c,λF S H d ds x vs Q QD r h l q c=>by
 match d,ds,q with
 |.ref a,[.int i],⟨xs,j,y,D,hi,Y,N,q⟩ =>
  obtain⟨v,rfl,L⟩:=l.one;obtain⟨us,O,B⟩:=r.obj a _ D;obtain⟨z,e1,J⟩:=B.get N;rw[rref h,rint L];have U:j<us.length:=by
   rcases Nat.lt_or_ge j us.length with z|z
   ·exact z
   ·rw[bV z] at e1;cases e1
  have Z:seqIndex? i us.length=some j:=by
   subst hi
   have:ixN us.length (j:Int)=some j:=by unfold ixN;rw[if_pos (by lia),if_pos (by lia),cy]
   exact(bXp this).1
  exact⟨a,us,i,j,z,rfl,rfl,O,by lia,by subst hi;exact_mod_cast Y,Z,e1,c.write r (us:=us) D (B.erase j) J q⟩⟩
theorem aJe{o e:Expr}{to:ED}{t:AD}{apos cpos:Pos}(ho:PD K X o to)(ha:PAD K X [e] t)(hK:X.K=K:=by rfl)
  (hbase:ir o "append" X.env (eval o X.env)=eval o X.env:=by rfl)
  (hfew:((cD cpos (aC [e] X.env)).all (λx=>!x.1) && (jj cpos (gA [] X.env)).all (λx=>x.1.isSome)
   && decide (([e]:List Expr).length+([]:List i6).length+(if ([]:List i6).isEmpty then 0 else 1)<30))=true:=by rfl)
  (hline:(apos.endLine==cpos.line)=true:=by rfl) (hs:aC [e] X.env=(false,eval e X.env)::aC [] X.env:=by rfl) (hplain:(cD cpos (aC [] X.env)).any (·.1)=false:=by rfl) :
  PD K X (.Call (.Attribute o "append" apos) [e] [] cpos) (dMt appD ckL to t):=e_bm eJt iS PySem.F.slot_list_append PySem.F.type_list_append bZx ho ha hK hbase hfew hline hs hplain
theorem eQ3{o e:Expr}{to:ED}{t:AD}{apos cpos:Pos}(ho:PD K X o to)(ha:PAD K X [e] t)(hK:X.K=K:=by rfl)
  (hbase:ir o "pop" X.env (eval o X.env)=eval o X.env:=by rfl)
  (hfew:((cD cpos (aC [e] X.env)).all (λx=>!x.1) && (jj cpos (gA [] X.env)).all (λx=>x.1.isSome)
   && decide (([e]:List Expr).length+([]:List i6).length+(if ([]:List i6).isEmpty then 0 else 1)<30))=true:=by rfl)
  (hline:(apos.endLine==cpos.line)=true:=by rfl) (hs:aC [e] X.env=(false,eval e X.env)::aC [] X.env:=by rfl) (hplain:(cD cpos (aC [] X.env)).any (·.1)=false:=by rfl) :
  PD K X (.Call (.Attribute o "pop" apos) [e] [] cpos) (dMt cJ5 ckL to t):=e_bm dQz iS PySem.F.slot_list_pop PySem.F.type_list_pop dQ9 ho ha hK hbase hfew hline hs hplain
end
end L2
set_option maxHeartbeats 1000000
namespace L2
open PySem PySem.Spec PyProof.Rows
def leS(a b:Str):Bool:=!HT.ltS b a
def leT(a b:List Str):Bool:=!HT.lexS b a
theorem bZa:∀a:List Str,HT.lexS a a=false
 |[]=>rfl
 |x::xs=>by rw[HT.lexS_cons,if_pos rfl,bZa xs]
theorem eJu(a b c:Str)(h:leS a b=true)(h':leS b c=true):leS a c=true:=by
 unfold leS at *
 rw[dl] at *
 cases e:HT.ltS c a with
 |false=>rfl
 |true =>
  by_cases d:b=a
  ·subst d;rw[h'] at e;cases e
  ·have:=HT.ltS_tr e (HT.ltS_tot h d)
   rw[h'] at this;cases this
theorem eQ4(a b:Str):(leS a b||leS b a)=true:=by
 unfold leS;cases e:HT.ltS b a with
 |false=>rfl
 |true=>rw[HT.ltS_as e];rfl
theorem dZ0{a b:Str}(h:leS a b=true)(h':leS b a=true):a=b:=by
 unfold leS at *
 rw[dl] at *
 exact ba λn=>by
  have:=HT.ltS_tot h (λz=>n z.symm)
  rw[h'] at this;cases this
theorem eJv(a b c:List Str)(h:leT a b=true)(h':leT b c=true):leT a c=true:=by
 unfold leT at *
 rw[dl] at *
 cases e:HT.lexS c a with
 |false=>rfl
 |true =>
  by_cases d:b=a
  ·subst d;rw[h'] at e;cases e
  ·have:=HT.lexS_tr e (HT.lexS_tot h d)
   rw[h'] at this;cases this
theorem eQ5(a b:List Str):(leT a b||leT b a)=true:=by
 unfold leT;cases e:HT.lexS b a with
 |false=>rfl
 |true=>rw[HT.lexS_as e];rfl
theorem dZ1{a b:List Str}(h:leT a b=true)(h':leT b a=true):a=b:=by
 unfold leT at *
 rw[dl] at *
 exact ba λn=>by
  have:=HT.lexS_tot h (λz=>n z.symm)
  rw[h'] at this;cases this
def srS(l:List Str):List Str:=l.mergeSort leS
def srT(l:List (List Str)):List (List Str):=l.mergeSort leT
def srI(l:List Int):List Int:=l.mergeSort λa b=>decide (a<=b)
theorem aZo(l:List Str):(srS l).Perm l:=gI _ _
theorem aX3(l:List (List Str)):(srT l).Perm l:=gI _ _
theorem dZ2(l:List Int):(srI l).Perm l:=gI _ _
theorem bXf(l:List Str):(srS l).Pairwise λa b=>leS a b=true:=fT eJu eQ4 l
theorem dX6(l:List (List Str)):(srT l).Pairwise λa b=>leT a b=true:=fT eJv eQ5 l
theorem eJw(l:List Int):(srI l).Pairwise λa b=>decide (a<=b)=true:=fT (le:=λa b=>decide (a<=b)) (λa b c h h'=>decide_eq_true (Int.le_trans (of_decide_eq_true h) (of_decide_eq_true h'))) (λa b=>by
 rcases Int.le_total a b with h|h
 ·rw[decide_eq_true h];rfl
 ·rw[decide_eq_true h,Bool.or_true]) l
theorem eJx{l out:List Str}(p:out.Perm l)(h:out.Pairwise λa b=>HT.ltS b a=false):out=srS l :=
 (p.trans (aZo l).symm).eq_of_pairwise (λ_ _ _ _ h h'=>dZ0 h h') (h.imp λh=>by unfold leS;rw[h];rfl) (bXf l)
theorem eQ6{l out:List (List Str)}(p:out.Perm l)(h:out.Pairwise λa b=>HT.lexS b a=false):out=srT l :=
 (p.trans (aX3 l).symm).eq_of_pairwise (λ_ _ _ _ h h'=>dZ1 h h') (h.imp λh=>by unfold leT;rw[h];rfl) (dX6 l)
theorem eJy{l out:List Int}(p:out.Perm l)(h:out.Pairwise (·<=·)):out=srI l :=
 (p.trans (dZ2 l).symm).eq_of_pairwise (λ_ _ _ _ h h'=>Int.le_antisymm (of_decide_eq_true h) (of_decide_eq_true h')) (h.imp λh=>decide_eq_true h) (eJw l)
section
variable{X:Cx}{K:Fg}{pos:Pos}{k:Nat}{e:Expr}{t:AD}{p:Pos}
theorem cJ6{M:Am}{H:Hp}:∀{as:List Int}{xs:List V},RepL K M H (as.map D.int) xs->xs=as.map V.int
 |[],xs,h=>by rw[eU] at h;unfold RepL at h;exact h
 |a::as,xs,h=>by
  rw[bz] at h;unfold RepL at h;obtain⟨v,d,rfl,r,l⟩:=h;unfold RepV at r;rw[r,cJ6 l];rfl
theorem cJ7{M:Am}{H:Hp}:∀{as:List Int},RepL K M H (as.map D.int) (as.map V.int)
 |[]=>RepL.nil
 |a::as=>RepL.cons (by unfold RepV;rfl) cJ7
theorem cJ8{M:Am}{H:Hp}:∀{as:List Str}{xs:List V},RepL K M H (as.map D.str) xs->xs=as.map V.str
 |[],xs,h=>by rw[eU] at h;unfold RepL at h;exact h
 |a::as,xs,h=>by
  rw[bz] at h;unfold RepL at h;obtain⟨v,d,rfl,r,l⟩:=h;unfold RepV at r;rw[r,cJ8 l];rfl
theorem cJ9{M:Am}{H:Hp}:∀{as:List Str},RepL K M H (as.map D.str) (as.map V.str)
 |[]=>RepL.nil
 |a::as=>RepL.cons (by unfold RepV;rfl) cJ9
def keyD:Key->D
 |.inl i=>.int i
 |.inr x=>.str x
def srcIs(S:Sto)(d:D)(xs:List D):Prop:=match d with
 |.tup ys=>xs=ys
 |.lst ys=>xs=ys
 |.ref a=>S a=some (.lst xs)\/∃kvs,S a=some (.dk kvs)/\xs=kvs.map λp=>keyD p.1
 |_=>False
theorem cJa{M:Am}{H:Hp}:∀{ks:List (Key×V)}{kvs:List (Key×D)},bi (λ(p:Key×V) (q:Key×D)=>p.1=q.1/\RepV K M H q.2 p.2) ks kvs->RepL K M H (kvs.map λp=>keyD p.1) (ks.map λp=>kV p.1)
 |_,_,.nil=>RepL.nil
 |_,_,.cons (a:=a) (b:=b) h l=>by
  refine RepL.cons ?_ (cJa l);show RepV K M H (keyD b.1) (kV a.1);rw[h.1];cases b.1 <;> (unfold keyD kV RepV;rfl)
theorem srcIs.src{F:Am}{S:Sto}{H:Hp}(r:Rp K F S H){d:D}{v:V}{xs:List D}(h:RepV K (mt S F) H d v)(l:srcIs S d xs):∃us,Src K H v us/\RepL K (mt S F) H xs us:=by
 cases d with
 |tup ys=>cases l;obtain⟨a,us,rfl,sq,l⟩:=tup.st h;exact⟨us,⟨a,rfl,.inr (.inl sq)⟩,l⟩
 |lst ys=>cases l;obtain⟨a,us,rfl,sq,l⟩:=lsIs.sl r h (show lsIs S (.lst xs) xs from rfl);exact⟨us,⟨a,rfl,.inl sq⟩,l⟩
 |ref a =>
  rw[rref h];rcases l with l|⟨z,l,rfl⟩
  ·obtain⟨us,j,i⟩:=r.obj a _ l;exact⟨us,⟨a,rfl,.inl (SqL.of j)⟩,i⟩
  ·obtain⟨B,j,i⟩:=r.obj a _ l;exact⟨_,⟨a,rfl,.inr (.inr ⟨B,j,rfl⟩)⟩,cJa i⟩
 |_=>exact l.elim
def tupS(t:List Str):D:=.tup (t.map D.str)
def srtD(b:Bool):RCD:=λds S Q=>match ds with
 |[d]=>(∃ss:List Str,srcIs S d (ss.map D.str)/\newL b ((srS ss).map D.str) S Q)\/(∃ns:List Int,srcIs S d (ns.map D.int)/\newL b ((srI ns).map D.int) S Q) \/
  ∃ts:List (List Str),srcIs S d (ts.map tupS)/\newL b ((srT ts).map tupS) S Q
 |_=>False
def fZk(K:Fg):List V->Hp->VK->Prop:=λxs H Q=>eJp K xs H Q\/eJq K xs H Q\/eJr K xs H Q
theorem bJd{S:Sto}{F:Am}{H:Hp}:∀{ts:List (List Str)}{us:List V},RepL K (mt S F) H (ts.map tupS) us->bi (dT K dS H) us ts
 |[],us,h=>by rw[eU] at h;unfold RepL at h;subst h;exact .nil
 |a::as,xs,h=>by
  rw[bz] at h;unfold RepL at h;obtain⟨v,d,rfl,r,l⟩:=h;exact .cons (bJ5 r) (bJd l)
theorem dX7{M:Am}{H:Hp}{ds:List D}{us:List V}(l:RepL K M H ds us):∀(idx:List Nat),(∀i∈idx,i<us.length)->RepL K M H (idx.map λi=>ds.getD i .non) (idx.map λi=>us.getD i .non)
 |[],_=>RepL.nil
 |i::idx,h=>by
  have hi:=h i aq;refine RepL.cons ?_ (dX7 l idx λj v=>h j (au _ v));obtain⟨d,z,rd⟩:=l.get' (ag hi);show RepV K M H (ds.getD i .non) (us.getD i .non);rw[ak,ak,z,ag hi];exact rd
theorem eJz{b:Bool}:bQa K (fZk K) (srtD b):=by
 intro F S H ds vs Q QD r l h c
 match ds,h with
 |[d],h =>
  obtain⟨v,rfl,J⟩:=l.one;rcases h with⟨ss,h1,q⟩|⟨ss,h1,q⟩|⟨ts,h1,q⟩
  ·obtain⟨us,z,j⟩:=h1.src r J;rw[cJ8 j] at z;exact .inl ⟨v,ss,rfl,z,λp out B N L=>by
    rw[eJx N L];exact c.new r B cJ9 q⟩
  ·obtain⟨us,z,j⟩:=h1.src r J;rw[cJ6 j] at z;exact .inr (.inl ⟨v,ss,rfl,z,λp out B N L=>by
    rw[eJy N L];exact c.new r B cJ7 q⟩)
  ·obtain⟨us,z,j⟩:=h1.src r J;refine .inr (.inr ⟨v,us,ts,rfl,z,bJd j,λp idx B Z Y U=>c.new r B ?_ q⟩);have hl:=j.length;rw[am] at hl;have D:∀i∈idx,i<us.length:=λi hi=>aX.mp (Z.mem_iff.mp hi)
   have:=dX7 j idx D
   rw[<- eQ6 U Y,bS];have e:(idx.map λi=>(ts.map tupS).getD i .non)=idx.map (tupS∘λi=>ts.getD i []):=du λi hi=>by
    have O:i<ts.length:=by have:=D i hi;omega
    show(ts.map tupS).getD i .non=tupS (ts.getD i []);rw[ak,ak,aT,ag O]
    rfl
   rw[<- e];exact this
theorem aQz{b:Bool}(hr:Room k X.A)(hg:Gl X "sorted")(hm:X.mg "sorted"=none)(ha:PAD K X [e] t)(hK:X.K=K:=by rfl)(hc:X.calm=true:=by rfl)(he:aC [e] X.env=(false,eval e X.env)::aC [] X.env:=by rfl)(hpl:(cD pos (aC [] X.env)).any (·.1)=false:=by rfl):PD K X (.Call (.Name "sorted" p) [e] [] pos) (dCB (srtD b) t):=aXa ((cJ1 hK hc).or ((cJ2 hK hc).or (cJ3 (lt10 hr) hK hc))) eJz hg hm aJp ha (by decide) (by decide) he hpl
end
end L2
set_option maxHeartbeats 4000000
namespace L2
open PySem PySem.Spec PyProof.Rows
theorem md{a b:Int}(h:0<b):0<=a%b/\a%b<b:=⟨Int.emod_nonneg _ (by lia),Int.emod_lt_of_pos _ h⟩
theorem aX4{g:GD}{tt:TD}{tb:BD}{G:Sto->Prop}{Γ0:Gm}{xs acc:List D}{S:Sto}{Q:List D->Sto->Prop}(I:Nat->List D->Sto->Prop)(h0:I 0 acc S)
  (hs:∀i x acc S (N:List D->Sto->Prop),xs[i]?=some x->I i acc S->(∀acc' S',I (i+1) acc' S'->N acc' S')->G S/\g x Γ0 S fun Γ2 S2=>tt Γ2 S2 λb S3=>if b=true then tb Γ2 S3 acc N else N acc S3)
  (hd:∀acc S,I xs.length acc S->G S/\Q acc S):aZ5 g tt tb G Γ0 xs acc S Q:=by
 have gen:∀n i acc S,i+n=xs.length->I i acc S->aZ5 g tt tb G Γ0 (xs.drop i) acc S Q:=by
  intro n
  induction n with
  |zero =>
   intro i acc S hi h;have e:i=xs.length:=by lia
   subst e;rw[eO];exact hd acc S h
  |succ n j =>
   intro i acc S hi h;have d:i<xs.length:=by lia
   rw[aZv d];exact hs i xs[i] acc S (λacc' v=>aZ5 g tt tb G Γ0 (xs.drop (i+1)) acc' v Q) (ag d) h λacc' S' h'=>j (i+1) acc' S' (by lia) h'
 simpa using gen xs.length 0 acc S (by lia) h0
theorem bZb{g:GD}{tb:SD}{G:Sto->Prop}{E:EndsD}{xs:List D}{Γ:Gm}{S:Sto}(I:Nat->Gm->Sto->Prop)(h0:I 0 Γ S)
  (hs:∀i x Γ S (N:Gm->Sto->Prop),xs[i]?=some x->I i Γ S->(∀Γ' S',I (i+1) Γ' S'->N Γ' S')->G S/\g x Γ S fun Γ2 S2=>tb {E with nx:=N,ct:=N,bk:=E.nx} Γ2 S2)
  (hd:∀Γ S,I xs.length Γ S->G S/\E.nx Γ S):forD g tb G E xs Γ S:=by
 have gen:∀n i Γ S,i+n=xs.length->I i Γ S->forD g tb G E (xs.drop i) Γ S:=by
  intro n
  induction n with
  |zero =>
   intro i Γ S hi h;have e:i=xs.length:=by lia
   subst e;rw[eO];exact hd Γ S h
  |succ n j =>
   intro i Γ S hi h;have d:i<xs.length:=by lia
   rw[aZv d];exact hs i xs[i] Γ S (forD g tb G E (xs.drop (i+1))) (ag d) h fun Γ' S' h'=>j (i+1) Γ' S' (by lia) h'
 simpa using gen xs.length 0 Γ S (by lia) h0
theorem aQs{α:Type}{i:Nat}{te:ED}{Γ0:Gm}{S:Sto}{Q:List D->Sto->Prop}{enc:α->D}{f:α->D}{xs:List α}{acc:List D}(h:∀x∈xs,∀Q:DK,Q (f x) S->te (Γ0.set i (some (enc x))) S Q)(hn:acc.length+xs.length<=sizeLine)
  (q:Q (acc++xs.map f) S):aZ5 (aZa i) dYes (aJ8 te) (λ_=>True) Γ0 (xs.map enc) acc S Q:=by
 induction xs generalizing acc with
 |nil=>exact⟨trivial,by simpa using q⟩
 |cons x xs j =>
  refine⟨trivial,?_⟩;show aJ8 te (Γ0.set i (some (enc x))) S acc (λd z=>aZ5 (aZa i) dYes (aJ8 te) (λ_=>True) Γ0 (xs.map enc) d z Q);refine h x aq _ ⟨by simp at hn;lia,j (λy v=>h y (au _ v)) (by simp at hn ⊢;lia) (by simpa using q)⟩
theorem aXi{α:Type}{i:Nat}{tt:TD}{te:ED}{Γ0:Gm}{S:Sto}{Q:List D->Sto->Prop}{enc:α->D}{p:α->Bool}{f:α->D}{xs:List α}{acc:List D}(ht:∀x∈xs,∀Q:Bool->Sto->Prop,Q (p x) S->tt (Γ0.set i (some (enc x))) S Q)(h:∀x∈xs,p x=true->∀Q:DK,Q (f x) S->te (Γ0.set i (some (enc x))) S Q)(hn:acc.length+xs.length<=sizeLine)
  (q:Q (acc++(xs.filter p).map f) S):aZ5 (aZa i) tt (aJ8 te) (λ_=>True) Γ0 (xs.map enc) acc S Q:=by
 induction xs generalizing acc with
 |nil=>exact⟨trivial,by simpa using q⟩
 |cons x xs j =>
  refine⟨trivial,?_⟩;show tt (Γ0.set i (some (enc x))) S _;refine ht x aq _ ?_;cases hp:p x with
  |true =>
   rw[if_pos rfl];refine h x aq hp _ ⟨by simp at hn;lia,j (λy d=>ht y (au _ d)) (λy d=>h y (au _ d)) (by simp at hn ⊢;lia) ?_⟩
   rw[fA,hp] at q;simpa using q
  |false =>
   rw[if_neg (by simp)]
   refine j (λy d=>ht y (au _ d)) (λy d=>h y (au _ d)) (by simp at hn ⊢;lia) ?_
   rw[fA,hp] at q;simpa using q
def sg(c:Nat):Str:=⟨#[c]⟩
theorem aJf{α:Type}(f:α->D)(xs:List α)(lo hi:Option Int):cutD (xs.map f) lo hi=((xs.drop (HT.sIx xs.length 0 lo)).take (HT.sIx xs.length xs.length hi-HT.sIx xs.length 0 lo)).map f:=by
 unfold cutD;rw[am,List.map_take,List.map_drop]
theorem eQ7(n:Nat):rngD 0 n=(a6 n).map λi=>.int (i:Nat):=by
 apply fb;intro i
 by_cases h:i<n
 ·have h1:i<(rngD 0 n).length:=by rw[aZn];exact h
  obtain⟨_,e⟩:=aX2 n 0 i _ (ag h1);rw[ag h1,e,aT,List.getElem?_range h];simp
 ·rw[bV (by rw[aZn];lia),bV (by simp;lia)]
theorem cJb{n i:Nat}{x:D}(h:(rngD 0 n)[i]?=some x):i<n/\x=.int (i:Nat):=by
 obtain⟨h1,h2⟩:=aX2 n 0 i x h;exact⟨h1,by rw[h2,Int.zero_add]⟩
def Off(a:Addr)(S S':Sto):Prop:=∀b,b≠a->S' b=S b
theorem Off.trans{a:Addr}{S S1 S2:Sto}(h:Off a S S1)(h':Off a S1 S2):Off a S S2:=λb d=>(h' b d).trans (h b d)
end L2
set_option maxHeartbeats 1000000
namespace L2
open PySem PySem.Spec PyProof.Rows
end L2
set_option maxHeartbeats 4000000
namespace L2
open PySem PySem.Spec PyProof.Rows
section
variable{X:Cx}{K:Fg}{pos:Pos}{k:Nat}
theorem eQ8{pins:List (Addr×Obj)}{σ:St}{H:Hp}{s:ah}{Q:VK}{xs:List V}{acc:Array ad}{h':bj}{c tk:Nat}(I:Inv X pins σ H s)(hz:xs.length<=sizeLine)(r:Vals xs acc.toList)(hk:∀b o,s.heap.get? b=some o->h'.get? b=some o)
  (hp:h'.get? s.heap.objs.size=some {cls:=.type "list",dict:=none,data:=.seq acc c,slots:=#[]}) (q:∀l,H l=none->Q (.ref l) (upd H l (.lst xs))):EP X pins σ Q (.ref s.heap.objs.size) {s with heap:=h',toks:=tk}:=by
 refine⟨.ref s.heap.objs.size,_,I.laid (t':=tk) (o:=.lst xs) hk (Nat.le_refl _) ?_,rfl,q _ (I.hok.fresh (Nat.le_refl _))⟩;exact⟨hz,acc.toList,c,r,by rw[Array.toArray_toList];exact hp⟩
theorem cJc:∀{xs:List V}{us:List ad},xs.length=us.length->(∀(i:Nat) (x:V) (u:ad),xs[i]?=some x->us[i]?=some u->RelV x u)->Vals xs us
 |[],[],_,_=>.nil
 |[],_::_,h,_=>by simp at h
 |_::_,[],h,_=>by simp at h
 |x::xs,u::us,h,d=>.cons (d 0 x u rfl rfl) (cJc (by simpa using h) λi y v h1 h2=>d (i+1) y v (by simpa using h1) (by simpa using h2))
theorem cZ9(hc:X.calm=true:=by rfl):CallR X (.type "list") (λxs H Q=>∃x:Str,xs=[.str x]/\x.length<=1000/\∀l,H l=none->Q (.ref l) (upd H l (.lst (x.cps.toList.map λc=>.str ⟨#[c]⟩)))):=by
 intro pins s σ H xs us Q I r h;obtain⟨x,rfl,z,q⟩:=h;obtain⟨u,rfl,v⟩:=aXc r;obtain⟨t,rfl⟩:=v;have L:x.cps.size<=1000:=z;refine call_list_str (I.ok.hd hc) x t (λh' J acc c D B it=>eQ8 I (by rw[am,aP,bh];lia) ?_ D B q) (by rw[bh];lia)
 refine cJc (by rw[am,aP,aP,it.1]) λi y u h1 h2=>?_
 obtain⟨N,j,d,rfl⟩:=it.2 i u (by rw[<- aN];exact h2)
 rw[aT,aN,d] at h1;cases h1;exact⟨j,rfl⟩
def lsSD(b:Bool):RCD:=λds S Q=>match ds with
 |[.str x]=>x.length<=1000/\newL b (x.cps.toList.map λc=>.str ⟨#[c]⟩) S Q
 |_=>False
theorem cQf{M:Am}{H:Hp}:∀cs:List Nat,RepL K M H (cs.map λc=>D.str ⟨#[c]⟩) (cs.map λc=>V.str ⟨#[c]⟩)
 |[]=>RepL.nil
 |c::cs=>RepL.cons (by unfold RepV;rfl) (cQf cs)
theorem eQ9{b:Bool}{e:Expr}{t:AD}{p:Pos}(hg:Gl X "list")(hm:X.mg "list"=none)(ha:PAD K X [e] t)(hc:X.calm=true:=by rfl)(he:aC [e] X.env=(false,eval e X.env)::aC [] X.env:=by rfl)(hpl:(cD pos (aC [] X.env)).any (·.1)=false:=by rfl):PD K X (.Call (.Name "list" p) [e] [] pos) (dCB (lsSD b) t):=bZ6 (cZ9 hc) (by
 intro F S H ds z Q QD r l h c
 match ds,h with
 |[.str x],⟨i,q⟩ =>
  obtain⟨v,rfl,d⟩:=l.one;rw[rstr d];exact⟨x,rfl,i,λp j=>c.new r j (cQf _) q⟩) hg hm cZw ha (by decide) (by decide) he hpl
end
end L2
set_option maxHeartbeats 1000000
namespace L2
open PySem PySem.Spec PyProof.Rows
def Its(x:Str):It:=⟨λi _=>i<x.cps.size,λi H v H'=>H'=H/\∃c,x.cps[i]?=some c/\v=.str ⟨#[c]⟩,λi _=>i=x.cps.size⟩
theorem cQg{P:aF}{w:aR}{K:Fg}{tg:Expr}(x:Str)(t:Tok)(ty:String)(it:Addr)(hty:["enumerate", "zip", "dict_itemiterator", "dict_reverseitemiterator", "odict_iterator", "itertools.zip_longest", "itertools.pairwise"].contains ty=false)
  (W:∀A:a8,A.handled=none->Walks P w A it [it] [it] x.cps.size (SignAt x) (λi h=>h.IsStrIter it ty x t i)) (hs:∀(A:a8) (i:Nat) (s:ah) (Q:ad->ah->Prop) (E:ad->ah->Prop),s.heap.IsStrIter it ty x t i->Q (.ref it) s->aH (aE P w) A (iW (.ref it)) Q E s) :
  Turn P w K tg (Its x) [it] it (λi h=>h.IsStrIter it ty x t i) where
 mem:=by simp
 obj:=λi h st b j=>by
  have e:b=it:=by simpa using j
  subst e;obtain⟨o,g,c,d⟩:=st;exact⟨o,g,λv z=>by rw[d] at z;cases z⟩
 keep:=λi h h' st k=>by
  obtain⟨o,g,r⟩:=st;exact⟨o,k it (by simp) o g,r⟩
 item:=by
  intro X U hw Y O i pins s σ H E I hf st L;subst U hw Y;obtain⟨f0,f1,f2,Z,f4,f5⟩:=hf it (by simp)
  refine(W X.A (I.ok.hd O)).item i s _ E L st λv h' B hv D J=>?_;obtain⟨c,u,N,rfl⟩:=hv;have I1:Inv X pins σ H {s with heap:=h',toks:=B}:=I.turned (t':=B) (λb o j e=>J b o (by simpa using j) e) f0 f1 Z f4 f5
  obtain⟨o,e,cl,d⟩:=id D;exact⟨_,rfl,dQ2 (s:={s with heap:=h',toks:=B}) e cl d hty ⟨.str ⟨#[c]⟩,H,I1,⟨u,rfl⟩,⟨rfl,c,N,rfl⟩,D,λb j=>(hf b j).1⟩⟩
 done:=by
  intro X U hw Y O i pins s σ H E I hf st L;subst U hw Y;obtain⟨f0,f1,f2,Z,f4,f5⟩:=hf it (by simp)
  have e:i=x.cps.size:=L;subst e;exact(W X.A (I.ok.hd O)).done s _ E st λh' B J=>⟨rfl,I.turned (t':=B) (λb o j e=>J b o (by simpa using j) e) f0 f1 Z f4 f5⟩
 self:=λA i s Q E st h=>hs A i s Q E st h
section
variable{X:Cx}{tg:Expr}
def iStr(tl:TE):TI:=fun σ H R=>tl σ H λv H1=>∃x,v=.str x/\R (Its x) H1
theorem fQ0{l:Expr}{tl:TE}(hl:PE X l tl):PI X tg l (iStr tl):=by
 intro pins s σ H R I h;refine thn (hl pins s σ H _ I h) λv s1 ⟨y,H1,d,j,x,e,q⟩=>?_;subst e;obtain⟨t,rfl⟩:=j;refine wpAny_pyIter_strU ?_;have B:∀b∈[s1.heap.objs.size],FpOk X pins H1 b:=λb z=>by
  have e:b=s1.heap.objs.size:=by simpa using z
  subst e;exact d.fpOk (Nat.le_refl _) (d.hok.fresh (Nat.le_refl _))
 refine⟨s1.heap.objs.size,[s1.heap.objs.size],(λi h=>h.IsStrIter s1.heap.objs.size (strIterType x) x t i),_,H1,rfl,d.kept (t':=s1.toks) λb o e=>af _ e,?_,⟨_,az _ rfl,rfl,rfl⟩,B,q⟩;unfold strIterType
 split
 ·exact cQg x t _ _ (by decide) (λA hh=>Walks.strAscii hh _ x t) λA i s Q E st h=>wpAny_pyIter_striter_ascii st h
 ·exact cQg x t _ _ (by decide) (λA hh=>Walks.strWide hh _ x t) λA i s Q E st h=>wpAny_pyIter_striter_wide st h
end
section
variable{X:Cx}{K:Fg}{pos:Pos}
theorem eQa{F:Am}{S:Sto}{H:Hp}{x:Str}{G:Sto->Prop}:ItOk K F S H (Its x) (dQx x) G where
 go:=λJ f D H2 y j _ i d hd=>by
  unfold dQx at hd;rw[aT,b8] at hd;obtain⟨c,hc,rfl⟩:=hd;rw[aN] at hc;have hi:i<x.cps.size:=by
   rcases Nat.lt_or_ge i x.cps.size with z|z
   ·exact z
   ·rw[Array.getElem?_eq_none z] at hc;cases hc
  refine⟨hi,λz N ⟨B,L,hc',v⟩=>?_⟩;subst v;subst B;rw[hc] at hc';cases hc';exact⟨Ext.refl _ _,j,by unfold RepV;rfl⟩
 stop:=λJ f D H2 y j _=>by unfold dQx;rw[am];exact aP
def fZl(te:ED):ID:=fun Γ S Q=>te Γ S λd S1=>match d with
 |.str x=>Q (dQx x) (λ_=>True) S1
 |_=>False
theorem dX8{tg l:Expr}{tl:ED}(hl:PD K X l tl):PID K X tg l (fZl tl):=.of (fQ0 hl.o) fun σ H Q j=>j.el λF S Γ QD r g q c =>
 ⟨F,S,Γ,_,r,g,q,λv d H1 D z B v1 i=>by
  match d,i with
  |.str x,i=>exact⟨x,rstr v1,c _ _ _ _ _ z B eQa i⟩⟩
end
end L2
set_option maxHeartbeats 4000000
namespace L2
open PySem PySem.Spec PyProof.Rows
section
variable{X:Cx}
def dZ3(w:aR)(K:Fg):List V->Hp->VK->Prop:=λxs H Q=>∃x ms,xs=[x]/\dSt w K H x ms/\ms.Nodup/\ms.length<300/\∀l ys out,H l=none->out.Perm ms->out.Pairwise (λa b=>HT.lexS a b=true)->bi (dT K dS H) ys out->Q (.ref l) (upd H l (.lst ys))
theorem bQb{K:Fg}{w:aR}(hu:X.A.units+8<cE)(hK:X.K=K:=by rfl)(hw:X.w=w:=by rfl)(hc:X.calm=true:=by rfl):CallR X (.builtin "sorted") (dZ3 w K):=by
 subst hw;intro pins s σ H xs us Q I r h;obtain⟨x,ms,rfl,⟨p,es,ep,t,ps,rfl,hH,hf,D,L,pp,rfl⟩,nd,O,q⟩:=h;obtain⟨u,rfl,rx⟩:=aXc r;cases rx;obtain⟨hg,_⟩:=I.hok p _ hH;have hl:es.size=ps.length:=by have:=cq pp;simpa using this
 have hpl':ps.length<300:=by simpa using O
 have hh:=I.ok.hd hc;refine fC kind_sorted plain_sorted entry_sorted (args_sorted1 _) ?_;unfold cx.«sorted»;refine aa (m:=checkCount "sorted" 1 1 _) (ae ?_);refine aa (ST.collectT (by simp[hh]) hg hf D L (by lia) λvals h1 d z kp=>?_)
 obtain⟨ps',j,v⟩:=ST.paired_perm z pp;have hvl:vals.length=ps'.length:=cq v;have hpl2:ps'.length=ps.length:=j.length_eq;have U:Inv X pins σ H {s with heap:=h1,drawn:=d}:=(I.kept (t':=s.toks) kp).drawn d
 refine aa (iy ?_ (by rw[bh];lia))
 have B:(h1.push (bO "list" vals.toArray 0)).get? h1.objs.size=some (bO "list" vals.toArray 0):=az _ rfl;refine aa (bu (dE slot_list_sort ⟨_,B,rfl⟩ entry_list_sort ?body (args_list_sort _)))
 case body =>
  refine KS.sort_tups (s:={s with heap:=h1.push (bO "list" vals.toArray 0),drawn:=d}) (ds:=ps'.map (·.2)) (by show X.A.units+1+1<_;lia) B (eXz U hK (λb o e=>af _ e) v) ((j.map (·.2)).nodup_iff.mpr nd) (by rw[bh];lia) λidx h' c i1 Z Y g kk=>⟨_,rfl,ae ⟨_,rfl,?_⟩⟩
  have N:∀i∈idx,i<vals.length:=λi hi=>aX.mp (i1.mem_iff.mp hi);have zv:=KS.paired_idx v cB (V.non,[]) idx N;obtain⟨z1,z2⟩:=bZ4 zv;have eo:(idx.map λi=>(ps'.map (·.2)).getD i [])=(idx.map λi=>ps'.getD i (V.non,[])).map (·.2):=by
   rw[bS];exact du λi _=>cQ9 ps' i
  rw[eo] at Z Y;have J:H h1.objs.size=none:=U.hok.fresh (Nat.le_refl _);have sm:Same H (upd H h1.objs.size (.lst ((idx.map λi=>ps'.getD i (V.non,[])).map (·.1)))):=aZc J;have il:idx.length=vals.length:=by have:=i1.length_eq;simpa using this
  have I2:Inv X pins σ (upd H h1.objs.size (.lst ((idx.map λi=>ps'.getD i (V.non,[])).map (·.1)))) {s with heap:=h',drawn:=d}:=U.laid (t':=s.toks) (λb o e=>kk b o (Nat.ne_of_lt (aD e)) (af _ e)) (Nat.le_refl _)
   ⟨by simp only[am];rw[bh];lia,_,c,z1,g⟩
  exact⟨.ref h1.objs.size,_,I2,rfl,q _ _ _ J (Y.trans (j.map (·.2))) Z z2⟩
end
section
variable{X:Cx}{K:Fg}{pos:Pos}{k:Nat}{F:Am}{S:Sto}{H:Hp}
theorem Rp.ntup(r:Rp K F S H){a:Addr}{xs:List V}(h:Rd H a (.tup xs)):¬ mt S F a:=λz=>by
 have no:∀u,H a=some u->(∀ys,u≠.tup ys)->(∀o ys,u≠.frz o (.tup ys))->False:=λu e B v=>by
  rcases h with h|⟨o,h⟩
  ·rw[e] at h;exact B _ (aS h)
  ·rw[e] at h;exact v _ _ (aS h)
 rcases z with z|z
 ·cases e:S a with
  |none=>exact z e
  |some o =>
   have q:=r.obj a o e;cases o with
   |lst ds=>obtain⟨us,d,_⟩:=q;exact no _ d (λ_ z=>by cases z) λ_ _ z=>by cases z
   |dk i=>obtain⟨us,d,_⟩:=q;exact no _ d (λ_ z=>by cases z) λ_ _ z=>by cases z
   |dt i=>obtain⟨us,d,_⟩:=q;exact no _ d (λ_ z=>by cases z) λ_ _ z=>by cases z
   |tb ps J=>obtain⟨us,d,_⟩:=q;exact no _ d (λ_ z=>by cases z) λ_ _ z=>by cases z
   |ex f L D=>obtain⟨us,d,j⟩:=D _ _ _ q;exact no _ d (λ_ z=>by subst z;exact j) λ_ _ z=>by subst z;exact j
 ·obtain⟨⟨zs,e,ct⟩,_⟩:=r.frm a z;exact no _ e (λ_ z=>by subst z;exact ct) λ_ _ z=>by subst z;exact ct
theorem cQh(r:Rp K F S H):∀{xs:List V}{ts:List (List Str)},bi (dT K dS H) xs ts->RepL K (mt S F) H (ts.map tupS) xs
 |_,_,.nil=>RepL.nil
 |_,_,.cons ⟨a,us,e,sq,p⟩ q=>by
  refine RepL.cons ?_ (cQh r q);subst e;unfold tupS RepV;refine⟨a,us,rfl,?_,cXp p⟩;rcases sq with h|h
  ·exact .inl ⟨r.ntup h,h⟩
  ·exact .inr (.inr h)
def eQb(b:Bool)(te:ED):ED:=fun Γ S Q=>te Γ S λd S1=>∃ts:List (List Str),lsIs S1 d (ts.map tupS)/\ts.length<300/\∀out:List (List Str),out.Nodup->(∀t,t∈out↔t∈ts)->out.Pairwise (λa b=>HT.lexS a b=true)->newL b (out.map tupS) S1 Q
theorem bJe{b:Bool}{e:Expr}{te:ED}{p p' pos':Pos}(hr:Room k X.A)(hg:Gl X "sorted")(hm:X.mg "sorted"=none)(hg':Gl X "set")(hm':X.mg "set"=none)(he:PD K X e te)(hK:X.K=K:=by rfl)(hc:X.calm=true:=by rfl)
  (h1:aC [e] X.env=(false,eval e X.env)::aC [] X.env:=by rfl) (h2:aC [Expr.Call (.Name "set" p') [e] [] pos'] X.env=(false,eval (Expr.Call (.Name "set" p') [e] [] pos') X.env)::aC [] X.env:=by rfl) (h3:(cD pos (aC [] X.env)).any (·.1)=false:=by rfl) (h4:(cD pos' (aC [] X.env)).any (·.1)=false:=by rfl) :
  PD K X (.Call (.Name "sorted" p) [.Call (.Name "set" p') [e] [] pos'] [] pos) (eQb b te) :=
 .of (bQs (bQb (lt64 hr) hK rfl hc) hg hm aJp (bQr (bZv (cZ7 (lt64 hr) hK rfl hc) hg' hm' eXc (bQr he.o bJu h1) (by decide) (by decide) h1 h4) bJu h2) (by decide) (by decide) h2 h3) fun σ H Q L=>L.el λF S Γ QD r g q c =>
 ⟨F,S,Γ,_,r,g,q,λv d H1 z O D v1 J=>by
  obtain⟨ts,hl,j,U⟩:=J;obtain⟨a,us,rfl,sq,Z⟩:=lsIs.sl D v1 hl;refine⟨_,ts,rfl,⟨a,us,rfl,sq,bJd Z⟩,by lia,λp ms H2 s2 nd mem st=>⟨_,ms,rfl,st,nd,?_,λl ys out i pm Y pp=>?_⟩⟩
  ·exact Nat.lt_of_le_of_lt (dJ4 nd mem).1 j
  ·have B:Rp K F z H2:=D.same s2;have N:Ext z H1 z H2:=Ext.same s2;exact Cn.new (Cn.shift c (O.trans N)) B i (cQh B pp) (U out (pm.nodup_iff.mpr nd) (λt=>(pm.mem_iff).trans (mem t)) Y)⟩
end
end L2
set_option maxHeartbeats 1000000
namespace L2
open PySem PySem.Spec PyProof.Rows
section
variable{X:Cx}
def dSs(w:aR):Dn (List Str):=λH v ms=>∃p es ep t,v=.ref p/\H p=some (stO p es ep t)/\t.fits es.size=true/\t.led=ST.ledOf w/\(t.plain=true->es.size<=1)/\jb (es.toList.map (·.2)) ms
theorem bXg{l l':List ad}(p:l'.Perm l):∀{m:List Str},jb l m->∃m',m'.Perm m/\jb l' m':=by
 induction p with
 |nil=>intro m h;exact⟨m,.refl _,h⟩
 |cons x p J =>
  intro m h;cases h with
  |cons y t r =>
   obtain⟨m',B,h'⟩:=J r;exact⟨_::m',B.cons _,.cons _ _ h'⟩
 |swap x y l =>
  intro m h;cases h with
  |cons y t r =>
   cases r with
   |cons z u r=>exact⟨_,.swap _ _ _,.cons _ _ (.cons _ _ r)⟩
 |trans p q i d =>
  intro m h;obtain⟨L,v,h1⟩:=d h;obtain⟨D,j,h2⟩:=i h1;exact⟨D,j.trans v,h2⟩
def cJd(w:aR):List V->Hp->VK->Prop:=λxs H Q=>∃x ms,xs=[x]/\dSs w H x ms/\ms.Nodup/\ms.length<300/\∀(l:Addr) (out:List Str),H l=none->out.Perm ms->out.Pairwise (λa b=>HT.ltS a b=true)->Q (.ref l) (upd H l (.lst (out.map V.str)))
theorem bZc{w:aR}(hw:X.w=w:=by rfl)(hc:X.calm=true:=by rfl):CallR X (.builtin "sorted") (cJd w):=by
 subst hw;intro pins s σ H xs us Q I r h;obtain⟨x,ms,rfl,⟨p,es,ep,t,rfl,hH,hf,D,L,pp⟩,nd,h64,q⟩:=h;obtain⟨u,rfl,rx⟩:=aXc r;cases rx;obtain⟨hg,_⟩:=I.hok p _ hH;have hl:es.size=ms.length:=by have:=pp.length;simpa using this
 have hh:=I.ok.hd hc;refine fC kind_sorted plain_sorted entry_sorted (args_sorted1 _) ?_;unfold cx.«sorted»;refine aa (m:=checkCount "sorted" 1 1 _) (ae ?_);refine aa (ST.collectT (by simp[hh]) hg hf D L (by omega) λvals h1 d B kp=>?_)
 obtain⟨ms',i,j⟩:=bXg B pp;have hvl:vals.length=ms'.length:=j.length;have hml:ms'.length=ms.length:=i.length_eq;have Y:Inv X pins σ H {s with heap:=h1,drawn:=d}:=(I.kept (t':=s.toks) kp).drawn d
 refine aa (iy ?_ (by rw[bh];omega))
 have v:(h1.push (bO "list" vals.toArray 0)).get? h1.objs.size=some (bO "list" vals.toArray 0):=az _ rfl;refine aa (bu (dE slot_list_sort ⟨_,v,rfl⟩ entry_list_sort (SF.treeK strKind_oneLt (s:={s with heap:=h1.push (bO "list" vals.toArray 0),drawn:=d}) v j.keysOf (λU O rest e=>keyKind_strs (by rw[<- e];exact j)) (by rw[bh];omega) λz a1 a2=>⟨_,rfl,?_⟩) (args_list_sort _)))
 refine ae ⟨_,rfl,?_⟩;obtain⟨out,o1,J,Z⟩:=sorted_out_str j a1 a2;obtain⟨v1,_⟩:=bZ5 (H:=H) o1;have N:H h1.objs.size=none:=Y.hok.fresh (Nat.le_refl _);obtain⟨e,he⟩:=sortedHeap_at (out:=(aO z).map (·.2)) v;have hol:=J.length_eq;have I2:Inv X pins σ (upd H h1.objs.size (.lst (out.map V.str))) {s with heap:=gu (h1.push (bO "list" vals.toArray 0)) h1.objs.size vals ((aO z).map (·.2)),drawn:=d}:=Y.laid (t':=s.toks) (λb o g=>(sortedHeap_old (Nat.ne_of_lt (aD g)) (Nat.lt_trans (aD g) (aD v))).trans (af _ g)) (Nat.le_refl _)
  ⟨by rw[am,bh];omega,((aO z).map (·.2)).toList,e,v1,by rw[Array.toArray_toList];exact he⟩
 exact⟨.ref h1.objs.size,_,I2,rfl,q _ _ N (J.trans i) (dZx Z ((J.trans i).nodup_iff.mpr nd))⟩
end
section
variable{X:Cx}{K:Fg}{pos:Pos}{k:Nat}
theorem fQ1{M:Am}{H:Hp}:∀ss:List Str,RepL K M H (ss.map D.str) (ss.map V.str)
 |[]=>RepL.nil
 |s::ss=>RepL.cons (by unfold RepV;rfl) (fQ1 ss)
end
end L2
set_option maxHeartbeats 4000000
namespace L2
open PySem PySem.Spec PyProof.Rows
end L2
set_option maxHeartbeats 1000000
namespace L2
open PySem PySem.Spec PyProof.Rows
section
variable{X:Cx}{K:Fg}{pos:Pos}
theorem fQ2:cb "abs"=some (.builtin "abs"):=by decide +kernel
def absD:RCD:=λds S Q=>match ds with
 |[.int i]=>Q (.int (if i<0 then -i else i)) S
 |_=>False
theorem eQc{e:Expr}{t:AD}{p:Pos}(hg:Gl X "abs")(hm:X.mg "abs"=none)(ha:PAD K X [e] t)(he:aC [e] X.env=(false,eval e X.env)::aC [] X.env:=by rfl)(hpl:(cD pos (aC [] X.env)).any (·.1)=false:=by rfl):PD K X (.Call (.Name "abs" p) [e] [] pos) (dCB absD t):=aXa dQ4 (by
 intro F S H ds j Q QD r l h c
 match ds,h with
 |[.int i],q =>
  obtain⟨v,rfl,d⟩:=l.one;rw[rint d];exact⟨i,rfl,c _ _ _ S (Ext.refl _ _) r (by unfold RepV;rfl) q⟩) hg hm fQ2 ha (by decide) (by decide) he hpl
end
def emitOfS(elt:Expr)(acc:ad)(env:Env):Sem Unit:=eval elt env>>=λx=>fH elt.pos>>=λ_=>call (.builtin "set.add") [acc,x]>>=λ_=>pure ()
theorem cZa(elt target iter t2 i2:Expr)(ifs ifs2:List Expr)(scope:Scope)(pos:Pos)(it acc:ad)(env:Env) :
  eJ (.SetComp elt [⟨target,iter,ifs,0⟩,⟨t2,i2,ifs2,0⟩] scope pos) 0 it acc env=aZ1 target ifs iter.pos (innerOf (.SetComp elt [⟨target,iter,ifs,0⟩,⟨t2,i2,ifs2,0⟩] scope pos) i2 acc env) (.compLoop (.SetComp elt [⟨target,iter,ifs,0⟩,⟨t2,i2,ifs2,0⟩] scope pos) 0 it acc env) it env:=by
 unfold aZ1 bQv innerOf;show(fH iter.pos>>=λ_=>fi it>>=λr=>_)=_;refine bind_congr λ_=>bind_congr λr=>?_;cases r with
 |none=>rfl
 |some v =>
  show(eW target it v>>=λ_=>iV target env v>>=λ_=>(forIn ifs true _>>=λok=>_))=_;refine bind_congr λ_=>bind_congr λ_=>bind_congr λok=>?_;cases ok with
  |false=>rfl
  |true =>
   simp only[bind_assoc,iG]
   rfl
theorem cZb(elt target iter t2 i2:Expr)(ifs ifs2:List Expr)(scope:Scope)(pos:Pos)(it acc:ad)(env:Env) :
  eJ (.SetComp elt [⟨target,iter,ifs,0⟩,⟨t2,i2,ifs2,0⟩] scope pos) 1 it acc env=aZ1 t2 ifs2 i2.pos (emitOfS elt acc env) (.compLoop (.SetComp elt [⟨target,iter,ifs,0⟩,⟨t2,i2,ifs2,0⟩] scope pos) 1 it acc env) it env:=by
 unfold aZ1 bQv emitOfS;show(fH i2.pos>>=λ_=>fi it>>=λr=>_)=_;refine bind_congr λ_=>bind_congr λr=>?_;cases r with
 |none=>rfl
 |some v =>
  show(eW t2 it v>>=λ_=>iV t2 env v>>=λ_=>(forIn ifs2 true _>>=λok=>_))=_;refine bind_congr λ_=>bind_congr λ_=>bind_congr λok=>?_;cases ok <;> rfl
def TKp(H H':Hp):Prop:=∀a xs,Rd H a (.tup xs)->Rd H' a (.tup xs)
abbrev PVk{κ:Type}(rp:Hp->V->κ->Prop)(H:Hp):ad->V×κ->Prop:=λv p=>RelV p.1 v/\rp H p.1 p.2
structure SKn(P:aF)(w:aR)(K:Fg)(κ:Type) where
 kd:Hp->ST.SetKd P w κ
 rp:Hp->V->κ->Prop
 pI:Array (Int×ad)->aV->List κ->Prop
 toI:∀{X:Cx}{pins σ H s p es ep t} {ps:List (V×κ)},X.prog=P->X.w=w->X.K=K->Inv X pins σ H s->s.heap.get? p=some (ST.setOb es ep t)->pI es t (ps.map (·.2))->bi (PVk rp H) (es.toList.map (·.2)) ps ->
  (kd H).I s.heap p es ep t/\bi (λ(e:Int×ad) k=>(kd H).is s.heap k e.2) es.toList (ps.map (·.2))
 toIs:∀{X:Cx}{pins σ H s} {x:V}{v:ad}{k:κ},X.prog=P->X.w=w->X.K=K->Inv X pins σ H s->RelV x v->rp H x k->(kd H).is s.heap k v
 ofI:∀{H:Hp}{h:bj}{p es ep t} {ks:List κ},(kd H).I h p es ep t->ks.Nodup->bi (λ(e:Int×ad) k=>(kd H).is h k e.2) es.toList ks->∃ps:List (V×κ),bi (PVk rp H) (es.toList.map (·.2)) ps/\ps.map (·.2)=ks/\pI es t ks
 fr:∀led,pI #[] (.fresh 0 0 led) []
 mo:∀{H H':Hp}{v:V}{k:κ},TKp H H'->rp H v k->rp H' v k
def StV{P:aF}{w:aR}{K:Fg}{κ:Type}(kn:SKn P w K κ)(H:Hp)(p:Addr)(acc:List κ):Prop:=∃es ep t,∃ps:List (V×κ),H p=some (stO p es ep t)/\t.led=ST.ledOf w/\kn.pI es t (ps.map (·.2))/\bi (PVk kn.rp H) (es.toList.map (·.2)) ps/\(ps.map (·.2)).Nodup/\∀k,k∈ps.map (·.2)↔k∈acc
theorem StV.keep{P:aF}{w:aR}{K:Fg}{κ:Type}{kn:SKn P w K κ}{H H':Hp}{p:Addr}{acc:List κ}(h:StV kn H p acc)(e:H' p=H p)(t:TKp H H'):StV kn H' p acc:=by
 obtain⟨es,B,tb,ps,h1,h2,v,j,i,d⟩:=h;exact⟨es,B,tb,ps,e.trans h1,h2,v,Paired.imp (λ_ _ z=>⟨z.1,kn.mo t z.2⟩) j,i,d⟩
theorem StV.at{P:aF}{w:aR}{K:Fg}{κ:Type}{kn:SKn P w K κ}{H:Hp}{p:Addr}{acc:List κ}(h:StV kn H p acc):∃φ,H p=some (.ext φ):=by
 obtain⟨es,d,tb,ps,h1,_⟩:=h;exact⟨_,h1⟩
theorem eQd{H:Hp}{p:Addr}{φ:bj->Prop}{o:HO}(h:H p=some (.ext φ)):TKp H (upd H p o):=λa xs r=>by
 have:a≠p:=by
  rintro rfl;rcases r with r|⟨o,r⟩ <;> rw[h] at r <;> cases r
 rcases r with r|⟨o',r⟩
 ·exact .inl (by rw[upd_ne this];exact r)
 ·exact .inr ⟨o',by rw[upd_ne this];exact r⟩
section
variable{X:Cx}{K:Fg}{κ:Type}[DecidableEq κ]
def cJe{P:aF}{w:aR}(kn:SKn P w K κ)(p:Addr)(te:TE):TB:=fun σ H N=>te σ H λy H4=>∃acc k,StV kn H4 p acc/\kn.rp H4 y k/\acc.length+1<=300/\∀φ,StV kn (upd H4 p (.ext φ)) p (acc++[k])->N (upd H4 p (.ext φ))
theorem dZ4{P:aF}{w:aR}{kn:SKn P w K κ}{elt:Expr}{te:TE}{p:Addr}(hxe:X.xe=λ_ _=>False)(hu:X.A.units+1<cE)(hP:X.prog=P)(hw:X.w=w)(hK:X.K=K)(he:PE X elt te):PB X (emitOfS elt (.ref p) X.env) (cJe kn p te):=by
 intro pins s σ H N I h;unfold emitOfS;have h1:=he pins s σ H _ I h;rw[hxe] at h1;refine aa (thn h1 λy s1 ⟨v,H1,I1,r1,acc,k,st,rk,hn,n⟩=>aa (eZ (aa ?_)));obtain⟨es,ep,t,ps,hp,Y,hpi,hpp,hnd,U⟩:=id st;subst hP hw;obtain⟨ho,_⟩:=I1.hok p _ hp;obtain⟨i1,i2⟩:=kn.toI rfl rfl hK I1 ho hpi hpp;have isk:=kn.toIs rfl rfl hK I1 r1 rk;have M:ST.Mem (kn.kd H1) s1.heap p acc (ST.ledOf X.w) (ps.map (·.2)):=⟨⟨es,ep,t,i1,Y,i2⟩,hnd,U⟩;refine dE F.slot_set_add ⟨_,ho,rfl⟩ F.entry_set_add ?_ (F.args_set_add_2 _ _);unfold cx.«set.add» cx.Frozenset.oneOther;simp only[iM,bind_assoc];unfold iw;refine aa (ae ?_)
 try dsimp only
 refine aa (ae ?_)
 try dsimp only
 refine aa ?_;refine ST.addM (kn.kd H1) (show X.A.units+1<cE by omega) M isk (by have:=M.size;omega) λh' tk ks' Z sb kp tk'=>?_
 show aH _ _ (ret cB) _ _ _;refine ae ⟨_,rfl,ae ?_⟩;obtain⟨B,D,t',J,i,i2'⟩:=Z.ex;obtain⟨ps',L,j,O⟩:=kn.ofI J Z.nd i2';have d:=(kn.kd H1).obj J;have I2:Inv X pins σ (upd H1 p (stO p B D t')) {s1 with heap:=h',toks:=tk}:=I1.write (x:=p) (e:=p) (by rw[hp];exact trivial) (.inl rfl) (λb u hb hu=>(sb.2 b hb).trans hu) ⟨_,d⟩ ⟨d,⟨_,d⟩,λg1 g2 g k=>k _ g⟩
 have tk1:TKp H1 (upd H1 p (stO p B D t')):=eQd hp;refine⟨σ,_,I2,Wk.refl σ,n _ ⟨B,D,t',ps',aQ7,i,by rw[j];exact O,Paired.imp (λ_ _ z=>⟨z.1,kn.mo tk1 z.2⟩) L,by rw[j];exact Z.nd,by rw[j];exact Z.mem⟩⟩
end
end L2
namespace ST
open PySem PySem.SetTable PySem.Spec PyProof.Rows
end ST
namespace L2
open PySem PySem.Spec PyProof.Rows
def cZc(P:aF)(w:aR)(K:Fg):SKn P w K Str where
 kd:=λ_=>ST.strKd P w
 rp:=λ_ v k=>v=.str k
 pI:=λes t _=>t.fits es.size=true/\ElemsOf (dW P w) es.toList/\(t.plain=true->es=#[])
 toI:=λ{X pins σ H s p es ep t ps} _ _ _ _ ho hpi hp=>⟨⟨ho,hpi⟩,by
  generalize es.toList=l at hp
  induction l generalizing ps with
  |nil=>cases hp;exact .nil
  |cons e l ih =>
   cases hp with
   |cons h1 h2 =>
    refine .cons ?_ (ih h2);obtain⟨r,e1⟩:=h1;rw[e1] at r;obtain⟨t',e2⟩:=r;have e2:e.2=_:=e2;show eB _ e.2=true;rw[e2];simp[eB]⟩
 toIs:=λ{X pins σ H s x v k} _ _ _ _ r e=>by
  rw[e] at r;obtain⟨t',e2⟩:=r;rw[e2];have z:eB k (iA k t')=true:=by simp[eB]
  exact z
 ofI:=λ{H h p es ep t ks} hI nd hp=>by
  clear nd;refine(λ⟨ps,a,b⟩=>⟨ps,a,b,hI.2⟩) (?_:∃ps:List (V×Str),bi (PVk (λ_ v k=>v=.str k) H) (es.toList.map (·.2)) ps/\ps.map (·.2)=ks);generalize es.toList=l at hp
  induction l generalizing ks with
  |nil=>cases hp;exact⟨[],.nil,rfl⟩
  |cons e l ih =>
   cases hp with
   |cons h1 h2 =>
    obtain⟨ps,a,b⟩:=ih h2;obtain⟨tk,e1⟩:=eE (show eB _ e.2=true from h1)
    exact⟨(.str _,_)::ps,.cons ⟨⟨tk,e1⟩,rfl⟩ a,by rw[bz,b]⟩
 fr:=λled=>⟨rfl,ST.empty_el,λ_=>rfl⟩
 mo:=λ_ h=>h
theorem bZd{prog:aF}{w:aR}{A:a8}{R:Result->ah->Prop}{s:ah}{elt target iter:Expr}{ifs:List Expr}{rest:List eD}{scope:Scope}{pos:Pos}{it acc:ad}{env:Env}
  (h0:eF (aE prog w) A (.compLoop (.SetComp elt (⟨target,iter,ifs,0⟩::rest) scope pos) 0 it acc env) R s)
  (h:aH (aE prog w) A (iW it) (λit' s'=>eF (aE prog w) A (.compLoop (.SetComp elt (⟨target,iter,ifs,0⟩::rest) scope pos) 0 it' acc env) R s')
   (notedBy (aE prog w) A env λx s'=>R (.error x) s') s) :
  eF (aE prog w) A (.compStart (.SetComp elt (⟨target,iter,ifs,0⟩::rest) scope pos) 0 it acc env) R s:=by
 refine gF ?_;show aH _ _ ((compStart (.SetComp elt (⟨target,iter,ifs,0⟩::rest) scope pos) 0 it acc env).onRaise (λx=>do noteFrame x env;fH theWindowsPlace)) _ _ s
 refine wpAny_notedAt ?_;unfold compStart;show aH _ _ (ask>>=_) _ _ s;refine aa (cU (wpAny_ite ?_))
 split
 ·first
   |exact aa (ae (ae (iH rfl h0)))
   |exact ae (iH rfl h0)
 ·refine aa (cS ?_);show aH _ _ (fH iter.pos>>=_) _ _ s;exact aa (eZ (aa (cK h (λit' s' h'=>ae (iH rfl h')) λ_ _ x=>x)))
section
variable{X:Cx}{K:Fg}{κ:Type}{pins:List (Addr×Obj)}{σ:St}{H:Hp}{s:ah}
def bZe{P:aF}{w:aR}(kn:SKn P w K κ)(is:List (Option Nat))(wi:TI)(g:TG)(tt:TT)(tb:Addr->TB):TE:=fun σ H Q=>wi σ H λJ H1=>∀p,H1 p=none->∀φ,StV kn (upd H1 p (.ext φ)) p []->bXr J (capt is σ) g tt (tb p) (Q (.ref p)) (upd H1 p (.ext φ))
theorem comp_genS{P:aF}{w:aR}{kn:SKn P w K κ}(hw:X.w=w){elt target iter:Expr}{ifs:List Expr}{gs:List eD}{scope:Scope}{pos:Pos}{N':List Str}{is:List (Option Nat)}{wi:TI}{g:TG}{tt:TT}{tb:Addr->TB}{oc:Option Str}{m:ad->Env->Sem Unit}(hcalm:X.calm=true)(hN:X.N.Nodup)
  (hturn:∀it acc env,eJ (.SetComp elt (⟨target,iter,ifs,0⟩::gs) scope pos) 0 it acc env=aZ1 target ifs iter.pos (m acc env) (.compLoop (.SetComp elt (⟨target,iter,ifs,0⟩::gs) scope pos) 0 it acc env) it env)
  (cp:Cap X.N scope N' is) (hi:PI X target iter wi)
  (hg:∀cl C fp s H,PG (aQa X N' scope cl C fp s H oc) target g) (ht:∀cl C fp s H,PTs (aQa X N' scope cl C fp s H oc) ifs tt) (hb:∀cl C fp s H D,PB (aQa X N' scope cl C fp s H oc) (m (.ref D) (gC scope cl C X.env)) (tb D))
  (hcf:∀n acc,eH n scope.names acc=ocl oc n acc) (hpc:∀h,fQ h scope.names=ohp oc h)
  (hkind:scope.kind=.function) (hcell:∀y∈scope.names,y.2=.cell->oc=some y.1)
  (hu:∀y∈scope.names,scope.names.lookup y.1=some y.2) (hoc:∀x,oc=some x->scope.names.lookup x=some .cell)
  (hVb:okV scope.names X.env.scope.names=true)
  (hs:∀x,bZ iter X.env x=pure x)
  {use:Option (ad->Sem Unit)}{Q:VK}{Qv:ad->ah->Prop}(I:Inv X pins σ H s) (h:bZe kn is wi g tt tb σ H Q)
  (fin:∀D C H5 s6,Inv X pins σ H5 s6->(∃m,s6.heap.Ns C m)->FrC X pins C H5->Q (.ref D) H5->compPost (aE X.prog X.w) X.A X.xe use Qv (.ref D) C (.ok .next) s6) :
  aH (aE X.prog X.w) X.A (comprehension (.SetComp elt (⟨target,iter,ifs,0⟩::gs) scope pos) scope X.env (firstIterPos (⟨target,iter,ifs,0⟩::gs) pos) (newSet (.type "set")) (firstAsync (⟨target,iter,ifs,0⟩::gs)) (firstIter (⟨target,iter,ifs,0⟩::gs) X.env) use) Qv X.xe s:=by
 have hV:=dZn hVb;have hV':∀x,(x,aW)∈scope.names->Vis X.env.scope x/\X.env.scope.names.lookup x≠some .local:=λx i=>hV (x,.free) i rfl;have hu':∀x,(x,aW)∈scope.names->scope.names.lookup x=some .free:=λx i=>hu (x,.free) i;have j:∀x∈scope.names,x.2=.local->scope.names.lookup x.1=some .local:=λx i hl=>by rw[hu x i,hl]
 obtain⟨cl,L,c1,c2,c3⟩:=aX5 (env:=X.env) (scope:=scope) λx i=>I.ok.has x (by
  obtain⟨v,n⟩:=hV' x i;rcases v with v|v|v
  ·exact absurd v n
  ·exact .inl v
  ·exact .inr v)
 have hun:∀x,oc=some x->cl.lookup x=none:=λx i=>by
  cases e:cl.lookup x with
  |none=>rfl
  |some c =>
   have:=hu' x (c3 x c e)
   rw[hoc x i] at this;cases this
 refine wpAny_comprehension_free (use:=use) rfl hs L hkind j (thn (hi pins s σ H _ I h) λv s1 h1=>thn h1 λitv s2 h2=>?_);obtain⟨it,fp,tn,J,H2,rfl,I2,T,st2,f2,q2⟩:=h2;unfold newSet i9;refine aa (aa (cU (ae ?_)));dsimp only;refine bC ?_;have hD:H2 s2.heap.objs.size=none:=I2.hok.fresh (Nat.le_refl _);have fpl:∀b∈fp,b<s2.heap.objs.size:=λb hb=>by obtain⟨o,e,_⟩:=T.obj _ _ st2 b hb;exact aD e
 have led:(!(X.w.params.followText "set-order"))=ST.ledOf X.w:=rfl;have O:Inv X pins σ (upd H2 s2.heap.objs.size (stO s2.heap.objs.size #[] 0 (.fresh 0 0 (ST.ledOf X.w)))) {s2 with heap:=s2.heap.push (ST.setOb #[] 0 (.fresh 0 0 (ST.ledOf X.w)))} :=
  I2.laid (t':=s2.toks) (λb u e=>af _ e) (Nat.le_refl _) ⟨az _ rfl,⟨_,az _ rfl⟩,λg1 g2 g k=>k _ g⟩
 have st3:tn 0 (s2.heap.push (ST.setOb #[] 0 (.fresh 0 0 (ST.ledOf X.w)))):=T.keep _ _ _ st2 λb hb o e=>af _ e;have U:∀b∈fp,FpOk X pins (upd H2 s2.heap.objs.size (stO s2.heap.objs.size #[] 0 (.fresh 0 0 (ST.ledOf X.w)))) b:=λb hb=>⟨by rw[upd_ne (Nat.ne_of_lt (fpl b hb))];exact(f2 b hb).1,(f2 b hb).2⟩
 have B:∀b∈fp,b<(s2.heap.push (ST.setOb #[] 0 (.fresh 0 0 (ST.ledOf X.w)))).objs.size:=λb hb=>by rw[c8];exact Nat.lt_succ_of_lt (fpl b hb)
 have q3:=q2 _ hD _ (⟨#[],0,_,[],aQ7,by rw[<- hw];rfl,kn.fr _,.nil,eM,λ_=>Iff.rfl⟩:StV kn (upd H2 s2.heap.objs.size (stO s2.heap.objs.size #[] 0 (.fresh 0 0 (ST.ledOf X.w)))) _ [])
 show aH (aE X.prog X.w) X.A _ _ X.xe {s2 with heap:=s2.heap.push (ST.setOb #[] 0 (.fresh 0 0 (ST.ledOf X.w)))}
 change bXr _ _ _ _ _ _ (upd H2 s2.heap.objs.size (stO s2.heap.objs.size #[] 0 (.fresh 0 0 (ST.ledOf X.w)))) at q3;generalize hob:ST.setOb #[] 0 (.fresh 0 0 (ST.ledOf X.w))=ob at *
 generalize hso:stO s2.heap.objs.size #[] 0 (.fresh 0 0 (ST.ledOf X.w))=so at *
 generalize hDe:s2.heap.objs.size=D at *
 generalize hs3:({s2 with heap:=s2.heap.push ob}:ah)=s3 at *
 have hsh:s3.heap=s2.heap.push ob:=by rw[<- hs3]
 rw[<- hsh] at st3 B;have ok:=bQd (N':=N') (cl:=cl) (oc:=oc) O U B hkind c1 c2 hcell hun;have I4:=aJr O ok hN c1 c2 hu' cp hV' hun;refine cZy ?_;rw[hcf,hpc];have kp:∀b o,s3.heap.get? b=some o->(ohp oc (s3.heap.push {cls:=.type "dict",data:=.dict #[]})).get? b=some o:=λb o e=>aJc (af _ e);have Z:tn 0 (ohp oc (s3.heap.push {cls:=.type "dict",data:=.dict #[]})):=T.keep _ _ _ st3 λb _ o e=>kp b o e;have f4:∀b∈fp,FpOk (aQa X N' scope (ocl oc (s3.heap.objs.size+1) cl) s3.heap.objs.size fp s3 (upd H2 D so) oc) [] (upd H2 D so) b:=λb hb =>
  ⟨(U b hb).1,(ok.exf b hb).1,ok.exfs b hb,.inl hb,(ok.exf b hb).2,λp hp=>absurd (show p∈([]:List (Addr×Obj)) from hp) (by simp)⟩
 have loop:=bQw (X:=aQa X N' scope (ocl oc (s3.heap.objs.size+1) cl) s3.heap.objs.size fp s3 (upd H2 D so) oc) (e:=.SetComp elt (⟨target,iter,ifs,0⟩::gs) scope pos) (d:=0) (acc:=.ref D)
  (R:=compPost (aE X.prog X.w) X.A X.xe use Qv (.ref D) s3.heap.objs.size) hcalm rfl (hturn _ _ _) rfl rfl T (hg _ _ _ _ _) (ht _ _ _ _ _) (hb _ _ _ _ _ D) I4 Z f4 q3 (by
   intro H5 s6 Y _ qn;obtain⟨m6,n6,_⟩:=id Y.loc;have un:Un (frs X.stack) fp (upd H2 D so) H5 s3.heap s6.heap:=Y.base;have hok':HOk X.prog X.w H5 s6.heap:=Y.hok;refine fin D s3.heap.objs.size H5 s6 (O.call' (s':=s6) (ch:=fp) Y.os un hok' Y.bare λb hb=>⟨(U b hb).2.2.2.1,(U b hb).2.1,(U b hb).2.2.2.2.1,(U b hb).2.2.2.2.2⟩) ⟨m6,n6⟩ ⟨Y.free,Nat.ne_of_gt O.lt,O.sz,λx c e z=>?_,λp hp z=>?_⟩ qn
   ·obtain⟨v,q⟩:=O.cell x c e;exact absurd q.lt (by rw[z];exact Nat.lt_irrefl _)
   ·exact absurd (aD (O.pin p hp).1) (by rw[z];exact Nat.lt_irrefl _))
 exact bZd loop (T.self _ 0 _ _ _ Z loop)
theorem cJf{P:aF}{w:aR}{kn:SKn P w K κ}{elt target iter:Expr}{ifs:List Expr}{gs:List eD}{scope:Scope}{pos:Pos}{N':List Str}{is:List (Option Nat)}{wi:TI}{g:TG}{tt:TT}{tb:Addr->TB}{oc:Option Str}{m:ad->Env->Sem Unit}(hw:X.w=w)(hcalm:X.calm=true)(hN:X.N.Nodup)
  (hturn:∀it acc env,eJ (.SetComp elt (⟨target,iter,ifs,0⟩::gs) scope pos) 0 it acc env=aZ1 target ifs iter.pos (m acc env) (.compLoop (.SetComp elt (⟨target,iter,ifs,0⟩::gs) scope pos) 0 it acc env) it env)
  (cp:Cap X.N scope N' is) (hi:PI X target iter wi)
  (hg:∀cl C fp s H,PG (aQa X N' scope cl C fp s H oc) target g) (ht:∀cl C fp s H,PTs (aQa X N' scope cl C fp s H oc) ifs tt) (hb:∀cl C fp s H D,PB (aQa X N' scope cl C fp s H oc) (m (.ref D) (gC scope cl C X.env)) (tb D))
  (hcf:∀n acc,eH n scope.names acc=ocl oc n acc:=by intro _ _;rfl) (hpc:∀h,fQ h scope.names=ohp oc h:=by intro _;rfl)
  (hkind:scope.kind=.function:=by rfl) (hcell:∀y∈scope.names,y.2=.cell->oc=some y.1:=by decide +kernel)
  (hu:∀y∈scope.names,scope.names.lookup y.1=some y.2:=by decide +kernel) (hoc:∀x,oc=some x->scope.names.lookup x=some .cell:=by intro x h;cases h <;> rfl)
  (hVb:okV scope.names X.env.scope.names=true:=by first|rfl|kernel_rfl)
  (hs:∀x,bZ iter X.env x=pure x:=by intro _;rfl) :
  PE X (.SetComp elt (⟨target,iter,ifs,0⟩::gs) scope pos) (bZe kn is wi g tt tb):=by
 intro pins s σ H Q I h;rw[arm_eval_SetComp];refine comp_genS hw hcalm hN hturn cp hi hg ht hb hcf hpc hkind hcell hu hoc hVb hs I h λD C z B v ⟨m,n⟩ j i=>?_;exact⟨m,n,λh' d=>⟨.ref D,z,j.gone v d,rfl,i⟩⟩
end
section
variable{X:Cx}{K:Fg}{pos:Pos}{k:Nat}{κ:Type}
theorem eQe{F:Am}{S S':Sto}{H H':Hp}(r:Rp K F S H)(x:Ext S H S' H'):TKp H H':=λa xs h=>by
 have d:S a=none:=ba λn=>r.ntup h (.inl n);rcases h with h|⟨o,h⟩
 ·exact .inl (x.keep _ _ d h)
 ·exact .inr ⟨o,x.keep _ _ d h⟩
def aXb{P:aF}{w:aR}(kn:SKn P w K κ)(enc:κ->D)(L:List Nat)(tv:Addr->TB)(td:BD):Prop:=∀D' F S H Γ σ acc N QD,Free L σ->F D'->Rp K F S H->RepG K (mt S F) H Γ σ->StV kn H D' acc->td Γ S (acc.map enc) QD ->
 (∀acc' S' H',ExtX D' S H S' H'->Rp K F S' H'->StV kn H' D' acc'->QD (acc'.map enc) S'->N H')->tv D' σ H N
def fQ3(enc:κ->D)(te:ED):BD:=fun Γ S acc Q=>te Γ S λy S1=>∃k,y=enc k/\acc.length+1<=300/\Q (acc++[y]) S1
theorem extx_upd{D':Addr}{S:Sto}{H:Hp}{o:HO}:ExtX D' S H S (upd H D' o):=⟨λa o n _ e=>by rw[upd_ne n];exact e,λa h=>by
  by_cases e:a=D'
  ·subst e;rw[aQ7];exact λz=>by cases z
  ·rw[upd_ne e];exact h,λa h=>.inl h⟩
theorem eQf{D':Addr}{F:Am}{S:Sto}{H:Hp}{o:HO}(r:Rp K F S H)(hF:F D')(ho:Clt o):Rp K F S (upd H D' o) :=
 ⟨λa u e=>(r.obj a u e).keep (extx_upd.kp hF) (upd_ne (by rintro rfl;rw[(r.frm a hF).2] at e;cases e)),λa h=>by
   obtain⟨⟨ys,e,ct⟩,h2⟩:=r.frm a h
   by_cases z:a=D'
   ·subst z;exact⟨⟨_,aQ7,ho⟩,h2⟩
   ·exact⟨⟨ys,by rw[upd_ne z];exact e,ct⟩,h2⟩⟩
theorem dZ5{P:aF}{w:aR}{kn:SKn P w K κ}{enc:κ->D}(hrep:∀M H k v,RepV K M H (enc k) v->kn.rp H v k){L:List Nat}{te:ED}:aXb kn enc L (λD'=>cJe kn D' (upE K te)) (fQ3 enc te):=by
 intro D' F S H Γ σ acc N QD _ B r g st q c;refine⟨F,S,Γ,_,r,g,q,λv d H1 S1 i J v1 ⟨k,e,U,O⟩=>?_⟩;have Y:S D'=none:=(r.frm D' B).2;obtain⟨φ0,h0⟩:=st.at
 have Z:H1 D'=H D':=by rw[h0];exact i.keep _ _ Y h0
 have z:StV kn H1 D' acc:=st.keep Z (eQe r i);subst e;refine⟨acc,k,z,hrep _ _ _ _ v1,by simpa using U,fun φ j=>c (acc++[k]) S1 _ (i.x.trans extx_upd) (eQf J B trivial) j (by rw[bE];exact O)⟩
theorem cQi{P:aF}{w:aR}{kn:SKn P w K κ}{enc:κ->D}{L L':List Nat}{g:TG}{gd:GD}{tt:TD}{tv:Addr->TB}{tb:BD}(hg:CG K L L' g gd)(hb:aXb kn enc L' tv tb){D':Addr}{F:Am}{S:Sto}{H:Hp}{Γ:Gm}{σ:St}{acc:List κ}{N:Hp->Prop}{QD:List D->Sto->Prop}{J:It}{xs:List D}{G:Sto->Prop}
  (f:Free L σ) (hF:F D') (r:Rp K F S H) (gm:RepG K (mt S F) H Γ σ) (st:StV kn H D' acc) (it:∀S2 H2,ExtX D' S H S2 H2->Rp K F S2 H2->G S2->(∀i d,xs[i]?=some d->J.go i H2/\∀x H3,J.yld i H2 x H3->Ext S2 H2 S2 H3/\Rp K F S2 H3/\RepV K (mt S2 F) H3 d x)/\J.stop xs.length H2)
  (q:aZ5 gd tt tb G Γ xs (acc.map enc) S QD) (c:∀acc' S' H',ExtX D' S H S' H'->Rp K F S' H'->StV kn H' D' acc'->QD (acc'.map enc) S'->N H'):bXr J σ g (upT K tt) (tv D') N H:=by
 refine⟨λi m H'=>m=xs.length-i/\i<=xs.length/\∃S' acc',ExtX D' S H S' H'/\Rp K F S' H'/\StV kn H' D' acc'/\aZ5 gd tt tb G Γ (xs.drop i) (acc'.map enc) S' QD,⟨xs.length,by simp,Nat.zero_le _,S,acc,(Ext.refl _ _).x,r,st,by simpa using q⟩,?_⟩
 rintro i m H' ⟨rfl,hi,S',acc',Z,r2,O,f2⟩;have g2:=gm.keep (Z.kp hF)
 by_cases U:i<xs.length
 ·rw[aZv U] at f2;obtain⟨hG,f2⟩:=f2;obtain⟨hgo,hy⟩:=(it S' H' Z r2 hG).1 i xs[i] (ag U);refine .inr ⟨hgo,λv=>∃Y j,ExtX D' S H Y v/\Rp K F Y v/\StV kn v D' j/\aZ5 gd tt tb G Γ (xs.drop (i+1)) (j.map enc) Y QD,λv z=>⟨xs.length-(i+1),by omega,rfl,U,z⟩,λx H3 y3=>?_⟩
  obtain⟨x3,r3,v3⟩:=hy x H3 y3;refine hg F S' H3 Γ σ xs[i] x _ _ f r3 (g2.ext x3) v3 f2 fun Γ4 S4 σ4 H4 x4 r4 g4 wk fr4 q4=>⟨wk,F,S4,Γ4,_,r4,g4,q4,λz H5 S5 x5 r5 q5=>?_⟩;have B:=x3.trans (x4.trans x5);obtain⟨φ0,h0⟩:=O.at
  have h5:H5 D'=H' D':=by rw[h0];exact B.keep _ _ (r2.frm D' hF).2 h0
  have st5:StV kn H5 D' acc':=O.keep h5 (eQe r2 B);have x05:ExtX D' S H S5 H5:=Z.trans B.x;cases z with
  |false=>exact⟨S5,acc',x05,r5,st5,q5⟩
  |true=>exact hb D' F S5 H5 Γ4 σ4 acc' _ _ fr4 hF r5 (g4.ext x5) st5 q5 λacc6 S6 H6 x6 r6 st6 q6=>⟨S6,acc6,x05.trans x6,r6,st6,q6⟩
 ·have e:i=xs.length:=by omega
  subst e;rw[eO] at f2;exact .inl ⟨(it S' H' Z r2 f2.1).2,c acc' S' H' Z r2 O f2.2⟩
theorem cJg{P:aF}{w:aR}{kn:SKn P w K κ}{enc:κ->D}{L L':List Nat}{wi:ID}{g:TG}{gd:GD}{tt:TD}{tv:Addr->TB}{tb:BD}(hg:CG K L L' g gd)(hb:aXb kn enc L' tv tb):aXb kn enc L (λD'=>dZp (upI K wi) g (upT K tt) (tv D')) (eJo wi gd tt tb):=by
 intro D' F S H Γ σ acc N QD fr v r O st q c;refine⟨F,S,Γ,_,r,O,q,λJ xs G H1 S1 j Y it Z=>?_⟩;obtain⟨φ0,h0⟩:=st.at
 have h1:H1 D'=H D':=by rw[h0];exact j.keep _ _ (r.frm D' v).2 h0
 exact cQi hg hb fr v Y (O.ext j) (st.keep h1 (eQe r j)) (λU H2 i z B=>⟨it.go F (FE.refl _ _) U H2 (i.w v) z B,it.stop F (FE.refl _ _) U H2 (i.w v) z B⟩) Z λd S' H' i=>c d S' H' (j.x.trans i)
theorem dZ6{P:aF}{w:aR}{kn:SKn P w K κ}{enc:κ->D}{L L':List Nat}{is:List (Option Nat)}{wi:ID}{g:TG}{gd:GD}{tt:TD}{tv:Addr->TB}{tb:BD}(hL:∀σ,Free L (capt is σ))(hg:CG K L L' g gd)(hb:aXb kn enc L' tv tb)
  {σ:St}{H:Hp}{Q:VK}{F:Am}{S:Sto}{Γ:Gm}{QD:List D->Sto->Prop}(r:Rp K F S H) (gm:RepG K (mt S F) H Γ σ) (q:wi Γ S λxs G S1=>aZ5 gd tt tb G (cXw is Γ) xs [] S1 QD)
  (c:∀p ks H' S',Ext S H S' H'->Rp K F S' H'->StV kn H' p ks->QD (ks.map enc) S'->Q (.ref p) H'):bZe kn is (upI K wi) g (upT K tt) tv σ H Q :=
 ⟨F,S,Γ,_,r,gm,q,λJ xs G H1 S1 Y N it q1 D' d φ st=>by
  have j:S1 D'=none:=N.sn d;have U:FE F H1 (λa=>F a\/a=D'):=λa h=>h.elim .inl λe=>.inr (by rw[e];exact d)
  have nF:¬ F D':=λh=>by
   obtain⟨⟨ys,e,_⟩,_⟩:=N.frm D' h;rw[d] at e;cases e
  have xe:Ext S1 H1 S1 (upd H1 D' (.ext φ)):=Ext.same (aZc d);have kp:Keep (mt S1 F) H1 (mt S1 λa=>F a\/a=D') (upd H1 D' (.ext φ)):=xe.w.kpF U;have B:Rp K (λa=>F a\/a=D') S1 (upd H1 D' (.ext φ)):=⟨λa o e=>(N.obj a o e).keep kp (upd_ne (by rintro rfl;rw[j] at e;cases e)),λa h=>by
   rcases h with h|h
   ·obtain⟨⟨ys,e,ct⟩,h2⟩:=N.frm a h;exact⟨⟨ys,by rw[upd_ne (by rintro rfl;rw[d] at e;cases e)];exact e,ct⟩,h2⟩
   ·subst h;exact⟨⟨_,aQ7,trivial⟩,j⟩⟩
  have old:∀ {i H2},ExtX D' S1 (upd H1 D' (.ext φ)) i H2->Ext S1 H1 i H2:=λ{i H2} y=>⟨λa o h e=>y.keep a o (by rintro rfl;rw[d] at e;cases e) h (by rw[upd_ne (by rintro rfl;rw[d] at e;cases e)];exact e),λa h=>y.live a (xe.live a h),λa h=>by
   rcases y.new a h with z|z
   ·exact .inl z
   ·by_cases e:a=D'
    ·subst e;exact .inr d
    ·rw[upd_ne e] at z;exact .inr z⟩
  refine cQi hg hb (hL σ) (F:=λa=>F a\/a=D') (.inr rfl) B ((gm.ext Y).keep kp |>.capt is) st (λi H2 y B hG=>⟨it.go _ U i H2 (old y).w B hG,it.stop _ U i H2 (old y).w B hG⟩) q1 λv S' H' y Z O q3=>?_
  have less:Keep (mt S' λa=>F a\/a=D') H' (mt S' F) H':=⟨λ_ _ _ e=>e,λa h _=>λz=>h (z.elim .inl λw=>.inr (.inl w))⟩;have r4:Rp K F S' H':=⟨λa o e=>(Z.obj a o e).keep less rfl,λa h=>Z.frm a (.inl h)⟩;exact c D' v H' S' (Y.trans (old y)) r4 O q3⟩
def srtC(enc:κ->D)(lt:κ->κ->Bool)(b:Bool)(is:List (Option Nat))(wi:ID)(g:GD)(tt:TD)(tb:BD):ED:=fun Γ S Q=>wi Γ S λxs G S1=>aZ5 g tt tb G (cXw is Γ) xs [] S1 λacc S2=>∃ks:List κ,acc=ks.map enc/\∀out:List κ,out.Nodup->(∀t,t∈out↔t∈ks)->out.length<300/\(out.Pairwise (λa b=>lt a b=true)->newL b (out.map enc) S2 Q)
theorem eQg(M:Am)(H:Hp)(k:Str)(v:V)(h:RepV K M H (.str k) v):v=.str k:=by unfold RepV at h;exact h
theorem bJf{α β:Type}{f:α->β}(hf:∀x y,f x=f y->x=y):∀{l m:List α},l.map f=m.map f->l=m
 |[],[],_=>rfl
 |[],_::_,h=>by cases h
 |_::_,[],h=>by cases h
 |x::l,y::m,h=>by
  rw[bz,bz] at h;injection h with h1 h2
  rw[hf _ _ h1,bJf hf h2]
section
variable{elt target iter:Expr}{ifs:List Expr}{gs:List eD}{scope:Scope}{N':List Str}{is:List (Option Nat)}{wi:ID}{g:TG}{gd:GD}{tt:TD}{tv:Addr->TB}{tb:BD}{oc:Option Str}{m:ad->Env->Sem Unit}{b:Bool}{p pos':Pos}
theorem eQh(L L':List Nat)(hr:Room k X.A)(hgl:Gl X "sorted")(hm:X.mg "sorted"=none)(hcalm:X.calm=true)(hN:X.N.Nodup)
  (hturn:∀it acc env,eJ (.SetComp elt (⟨target,iter,ifs,0⟩::gs) scope pos') 0 it acc env=aZ1 target ifs iter.pos (m acc env) (.compLoop (.SetComp elt (⟨target,iter,ifs,0⟩::gs) scope pos') 0 it acc env) it env)
  (cp:Cap X.N scope N' is) (hL:∀σ,Free L (capt is σ)) (hi:PID K X target iter wi) (hgd:CG K L L' g gd)
  (hg:∀cl C fp s H,PG (aQa X N' scope cl C fp s H oc) target g) (ht:∀cl C fp s H,PTs (aQa X N' scope cl C fp s H oc) ifs (upT K tt)) (hbd:aXb (cZc X.prog X.w K) D.str L' tv tb) (hb:∀cl C fp s H D,PB (aQa X N' scope cl C fp s H oc) (m (.ref D) (gC scope cl C X.env)) (tv D))
  (hcf:∀n acc,eH n scope.names acc=ocl oc n acc:=by intro _ _;rfl) (hpc:∀h,fQ h scope.names=ohp oc h:=by intro _;rfl)
  (hkind:scope.kind=.function:=by rfl) (hcell:∀y∈scope.names,y.2=.cell->oc=some y.1:=by decide +kernel)
  (hu:∀y∈scope.names,scope.names.lookup y.1=some y.2:=by decide +kernel) (hoc:∀x,oc=some x->scope.names.lookup x=some .cell:=by intro x h;cases h <;> rfl)
  (hVb:okV scope.names X.env.scope.names=true:=by first|rfl|kernel_rfl)
  (hs:∀x,bZ iter X.env x=pure x:=by intro _;rfl)
  (h1:aC [Expr.SetComp elt (⟨target,iter,ifs,0⟩::gs) scope pos'] X.env=(false,eval (Expr.SetComp elt (⟨target,iter,ifs,0⟩::gs) scope pos') X.env)::aC [] X.env:=by rfl) (h3:(cD pos (aC [] X.env)).any (·.1)=false:=by rfl) :
  PD K X (.Call (.Name "sorted" p) [.SetComp elt (⟨target,iter,ifs,0⟩::gs) scope pos'] [] pos) (srtC D.str HT.ltS b is wi gd tt tb) :=
 .of (bQs (bZc rfl hcalm) hgl hm aJp (bQr (cJf (kn:=cZc X.prog X.w K) rfl hcalm hN hturn cp hi.o hg ht hb hcf hpc hkind hcell hu hoc hVb hs) bJu h1) (by decide) (by decide) h1 h3) fun σ H Q Y=>Y.el λF S Γ QD r gm q c =>
  show bZe (cZc X.prog X.w K) is (upI K wi) g (upT K tt) tv σ H (λv H1=>cJd X.w [v] H1 Q) from dZ6 hL hgd hbd r gm q λp' ks H' S' Z r1 st U=>by
   obtain⟨ks',hk,i⟩:=U;have j:ks=ks':=bJf (λa b e=>by injection e) hk
   subst j;obtain⟨es,ep,t,ps,s1,s2,s3,s4,s5,d⟩:=st;obtain⟨O,q3⟩:=i (ps.map (·.2)) s5 d;have sa:jb (es.toList.map (·.2)) (ps.map (·.2)):=by
    clear O q3 s5 d s3 i s1;generalize es.toList.map (·.2)=l at s4
    induction s4 with
    |nil=>exact .nil
    |@cons v q l2 ps h1 h2 ih =>
     obtain⟨h1,J⟩:=h1;rw[J] at h1;obtain⟨tk,e⟩:=h1;subst e;exact .cons _ _ ih
   refine⟨_,ps.map (·.2),rfl,⟨p',es,ep,t,rfl,s1,s3.1,s2,λz=>by rw[s3.2.2 z];exact Nat.zero_le _,sa⟩,s5,O,λl out B pm pw=>?_⟩
   exact Cn.new (Cn.shift c Z) r1 B (fQ1 out) ((i out (pm.nodup_iff.mpr s5) λt=>(pm.mem_iff).trans (d t)).2 pw)
end
end
end L2
set_option maxHeartbeats 4000000
namespace HT
open PySem PyProof.Rows
end HT
namespace L2
open PySem PySem.Spec PyProof.Rows
def lexN(lt:D->D->Bool):List D->List D->Bool
 |[],[]=>false
 |[],_::_=>true
 |_::_,[]=>false
 |x::xs,y::ys=>if x=y then lexN lt xs ys else lt x y
def ltN:Nat->D->D->Bool
 |_,.int i,.int j=>decide (i<j)
 |_,.str x,.str y=>HT.ltS x y
 |n+1,.tup xs,.tup ys=>lexN (ltN n) xs ys
 |n+1,.lst xs,.lst ys=>lexN (ltN n) xs ys
 |_,_,_=>false
def okLs(ok:D->D->Bool)(n:Nat):List D->List D->Bool
 |x::xs,y::ys=>okE n x y&&(if x=y then okLs ok n xs ys else ok x y)
 |_,_=>true
def okL:Nat->D->D->Bool
 |_,.int _,.int _=>true
 |_,.str _,.str _=>true
 |n+1,.tup xs,.tup ys=>okLs (okL n) n xs ys
 |n+1,.lst xs,.lst ys=>okLs (okL n) n xs ys
 |_,_,_=>false
end L2
set_option maxHeartbeats 1000000
namespace L2
open PySem PySem.Spec PyProof.Rows
def Kp(h h':bj):Prop:=∀b o,h.get? b=some o->h'.get? b=some o
end L2
set_option maxHeartbeats 4000000
namespace L2
open PySem PySem.Spec PyProof.Rows
end L2
set_option maxHeartbeats 1000000
namespace L2
open PySem PySem.Spec PyProof.Rows
section
variable{X:Cx}{K:Fg}{pos:Pos}{k:Nat}
theorem fQ4{P:aF}{w:aR}{L:List Nat}{te:ED}:aXb (cZc P w K) D.str L (λD'=>cJe (cZc P w K) D' (upE K te)) (fQ3 D.str te):=dZ5 eQg
end
end L2
namespace L2
open PySem PyProof.Rows
section
variable{K:av}{k:Nat}
theorem e_fn{P:aF}{w:aR}{mg:Str->Option ad}{base:bj}{x:Str}{st:Stmt}{N ps:List Str}{sp:SpD}{f:Addr}{fd:cT}(Fn:Fun K x x st f fd)(S:FnScope N ps (aQ3 st))
  (len:∀ds S Q,sp ds S Q->ds.length=ps.length)
  (h:∀ (cdv:ad) (A:a8) (outer:List Env) (s:ah) (H:Hp) (E:XK),Room k (A.deeper (gX x (aQ3 st) s.heap.objs.size f cdv)) ->
   ∃t,PSsD K (cxOf CX0 P w K mg base N x (aQ3 st) f cdv A outer s H E).nox (aZ3 st) t/\∀ds S Q,sp ds S Q->t (cZ8 Q) (aJ1 N ds) S):FnOk P w K mg base CX0 (k+1) f fd ps (spU K sp):=by
 refine Fn.ok S (λL H Q E z=>by obtain⟨F,S,ds,QD,r,l,i,c⟩:=z;rw[l.length];exact len ds S QD i) (λcdv A outer s H L Q E' O z=>?_)
 obtain⟨F,S,ds,QD,r,l,i,c⟩:=z;obtain⟨t,h1,h2⟩:=h cdv A outer s H E' O;have fin:∀v d H' S',Ext S H S' H'->Rp K F S' H'->RepV K (mt S' F) H' d v->rtD QD d S'->Q v H':=λv d H' S' B j v1 J=>by
  obtain⟨Y,Z,D,U,q⟩:=J;exact c v Y H' Z (B.trans (Ext.less D)) (j.less D) ((cJ4 j D U).1 v v1) q
 exact⟨_,h1.o,F,S,aJ1 N ds,cZ8 QD,r,bZ9 l,h2 ds S QD i,fun Γ' S' σ' H' B j g1 q=>fin .non .non H' S' B j (by unfold RepV;rfl) q,fin,λ_ _ _ _ _ _ _ q=>q.elim,λ_ _ _ _ _ _ _ q=>q.elim⟩
end
theorem us1{p:List ad->Prop}(h:∀a,p [a])(us:List ad)(ee:us.length=1):p us:=by
 cases us with
 |nil=>cases ee
 |cons a us =>
  cases us with
  |nil=>exact h a
  |cons z us=>exact absurd (Nat.succ.inj ee) (Nat.succ_ne_zero _)
theorem us2{p:List ad->Prop}(h:∀a b,p [a,b])(us:List ad)(ee:us.length=2):p us:=by
 cases us with
 |nil=>cases ee
 |cons a us =>
  cases us with
  |nil=>cases ee
  |cons b us =>
   cases us with
   |nil=>exact h a b
   |cons z us=>exact absurd (Nat.succ.inj (Nat.succ.inj ee)) (Nat.succ_ne_zero _)
theorem us3{p:List ad->Prop}(h:∀a b c,p [a,b,c])(us:List ad)(ee:us.length=3):p us:=by
 cases us with
 |nil=>cases ee
 |cons a us =>
  cases us with
  |nil=>cases ee
  |cons b us =>
   cases us with
   |nil=>cases ee
   |cons c us =>
    cases us with
    |nil=>exact h a b c
    |cons z us=>exact absurd (Nat.succ.inj (Nat.succ.inj (Nat.succ.inj ee))) (Nat.succ_ne_zero _)
theorem fsc{N ps:List Str}{sc:Scope}(a:sc.kind=.function:=by rfl)(b:sc.isCoroutine=false:=by rfl)(c:sc.isGenerator=false:=by rfl)(d:N.Nodup:=by decide +kernel)(e:N.take ps.length=ps:=by rfl)(f:∀x∈ps,sc.names.lookup x=some .local\/sc.names.lookup x=some .cell:=by decide +kernel)(g:∀y∈sc.names,y.2≠.free:=by decide +kernel):FnScope N ps sc:=⟨a,b,c,d,e,f,g⟩
end L2
namespace Toy
open PySem L2
def top(i:Nat):Stmt:=PySem.Challenge.pw_corepetals_k14_way_at_its_edges.main.body.getD i (.Pass ⟨0,0,0,0⟩)
end Toy
set_option maxHeartbeats 4000000
namespace L2
open PySem PySem.Spec PyProof.Rows
theorem bXh{α:Type}(l:List α)(i:Nat):∀m,(a6 m).filterMap (λk=>l[i+k]?)=(l.drop i).take m
 |0=>rfl
 |m+1=>by
  rw[gG,gh,bXh l i m,cL]
  congr 1
  rw[g7];simp only[cf,List.filterMap_nil];cases l[i+m]? <;> rfl
theorem fQ5(lo hi:Option Int)(n:Nat):bT lo hi 1 n=(a6 (HT.sIx n n hi-HT.sIx n 0 lo)).map λk=>HT.sIx n 0 lo+k:=by
 have e:bT lo hi 1 n=sliceRange (eP lo hi none n).1 (eP lo hi none n).2.1 1:=rfl;obtain⟨h1,h2,_⟩:=aXy lo hi n;rw[e,h1,h2];unfold sliceRange;have d:(if (1:Int)>0 then (if ((HT.sIx n 0 lo:Nat):Int)<((HT.sIx n n hi:Nat):Int) then (((HT.sIx n n hi:Nat):Int)-((HT.sIx n 0 lo:Nat):Int)+1-1)/1 else 0) else (if ((HT.sIx n 0 lo:Nat):Int)>((HT.sIx n n hi:Nat):Int) then (((HT.sIx n 0 lo:Nat):Int)-((HT.sIx n n hi:Nat):Int)-1-1)/(-1) else 0)).toNat=HT.sIx n n hi-HT.sIx n 0 lo:=by
  rw[if_pos (by decide),Int.ediv_one]
  split <;> lia
 show(a6 _).map _=_;rw[d];apply du;intro k _;lia
theorem cutS_eq(z:Str)(lo hi:Option Int):cutS z lo hi=⟨((z.cps.toList.drop (HT.sIx z.length 0 lo)).take (HT.sIx z.length z.length hi-HT.sIx z.length 0 lo)).toArray⟩:=by
 unfold cutS;rw[fQ5,am,cj];have j:HT.sIx z.length z.length hi<=z.length:=HT.sIx_le _ _ (Nat.le_refl _) hi;have i:z.cps.toList.length=z.length:=aP
 by_cases h:(HT.sIx z.length z.length hi-HT.sIx z.length 0 lo==z.length)=true
 ·rw[if_pos h];have h':=fP h
  by_cases h0:z.length=0
  ·have:z.cps=#[]:=Array.eq_empty_of_size_eq_zero h0
   cases z;simp only at this;subst this;simp
  ·have d:HT.sIx z.length 0 lo=0:=by lia
   rw[h',d,fm,br (by lia)]
 ·rw[if_neg h,List.filterMap_map]
  congr 1
  have:=bXh z.cps.toList (HT.sIx z.length 0 lo) (HT.sIx z.length z.length hi-HT.sIx z.length 0 lo)
  rw[<- this]
  congr 2
  funext k;show z.cps[HT.sIx z.length 0 lo+k]?=_;rw[aN]
end L2
set_option maxHeartbeats 1000000
namespace L2
open PySem
def lettersZ:Str:=Str.ofString "abcdefghijklmnopqrstuvwxyz"
theorem cJh{i:Nat}(h:i<26):atI lettersZ.cps.toList (i:Int)=some (97+i):=by
 have:∀j:Fin 26,lettersZ.cps.toList[j.val]?=some (97+j.val):=by decide +kernel
 exact aZe (this ⟨i,h⟩)
end L2
set_option maxHeartbeats 4000000
namespace L2
open PySem
theorem aQ8{n:Nat}(h:n<=9999):n<=sizeLine:=by rw[bh];lia
theorem bQ0{α:Type}:∀(l:List α) (j:Nat) (h:j<l.length),(l[j]::l.eraseIdx j).Perm l
 |a::l,0,_=>.refl _
 |a::l,j+1,h=>by
  have d:=bQ0 l j (by simpa using h)
  show(l[j]'(by simpa using h)::a::l.eraseIdx j).Perm (a::l)
  exact(ju.swap _ _ _).trans (d.cons a)
theorem cJi{α β:Type}{f:α->β}(g:β->α)(hg:∀x,g (f x)=x){vs us:List β}{xs:List α}(h:(vs++us).Perm (xs.map f)):∃as bs:List α,vs=as.map f/\us=bs.map f/\(as++bs).Perm xs:=by
 have mem:∀y∈vs++us,f (g y)=y:=λy d=>by
  obtain⟨x,_,rfl⟩:=bW.mp (h.mem_iff.mp d);rw[hg]
 have lift:∀l:List β,(∀y∈l,f (g y)=y)->l=(l.map g).map f:=λl j=>by
  rw[bS];apply iQ (by simp)
  intro i h1 h2;rw[iR];exact(j _ (dX h1)).symm
 refine⟨vs.map g,us.map g,lift vs λy d=>mem y (cC _ d),lift us λy d=>mem y (bf _ d),?_⟩;have p:=h.map g;rw[bE,bS] at p;have e:xs.map (g∘f)=xs:=by
  apply iQ (by simp)
  intro i h1 h2;rw[iR];exact hg _
 rwa [e] at p
def dStr':D->Str
 |.str s=>s
 |_=>⟨#[]⟩
end L2
namespace Toy
open PySem L2
def Pile(S:Sto)(a:Addr):Prop:=∃(cs:List Int) (i r s c:Int),S a=some (.lst [.lst (cs.map D.int),.int i,.int r,.int s,.int c])/\cs.length<=63/\0<=i/\i<=cs.length/\0<=r/\0<=s/\s<2147483629/\0<=c
theorem Pile.ne{S:Sto}{a p:Addr}(h:Pile S a)(hp:S p=none):p≠a:=by
 obtain⟨cs,i,r,s,c,hS,_⟩:=h;rintro rfl;rw[hp] at hS;cases hS
theorem Pile.eq{S S':Sto}{a:Addr}(h:Pile S a)(e:S' a=S a):Pile S' a:=by
 obtain⟨cs,i,r,s,c,d,k⟩:=h;exact⟨cs,i,r,s,c,e.trans d,k⟩
theorem Pile.supd{S:Sto}{a p:Addr}{o:DO}(h:Pile S a)(hp:p≠a):Pile (supd S p o) a:=h.eq (aQb (cY hp))
def bQ1:SpD:=λds S Q=>∃ns:List Int,ds=[.lst (ns.map D.int)]/\ns.length<=63/\∀p S',S p=none->Off p S S'->Pile S' p->Q (.ref p) S'
def aQt:SpD:=λds S Q=>∃(a:Addr) (m:Int),ds=[.ref a,.int m]/\Pile S a/\1<=m/\m<1000000/\∀(r:Int) S',0<=r->r<m->Off a S S'->Pile S' a->Q (.int r) S'
theorem dZ7{a lp:Addr}(hla:lp≠a){S:Sto}{xs:List D}{m:Nat}(hS:S lp=some (.lst xs))(hm:m<=xs.length)(hx:xs.length<=9999)(dk:Pile S a){Q:List D->Sto->Prop}
  (q:∀vs us S',(vs++us).Perm xs->vs.length=m->S' lp=some (.lst us)->Pile S' a->(∀b,b≠a->b≠lp->S' b=S b)->Q vs S') :
  aZ5 (aZa 0) dYes (aJ8 (dMt cJ5 ckL (dVar 1) (bJ3 (dCB aQt (bJ3 (dVar 2) (bJ3 (dCB lenD (bJ3 (dVar 1) dNil)) dNil))) dNil))) (λ_=>True) [none,some (.ref lp),some (.ref a)] (rngD 0 m) [] S Q:=by
 refine aX4 (λi acc S'=>∃us:List D,acc.length=i/\S' lp=some (.lst us)/\(acc++us).Perm xs/\Pile S' a/\∀b,b≠a->b≠lp->S' b=S b) ⟨xs,rfl,hS,.refl _,dk,λ_ _ _=>rfl⟩ ?_ ?_
 ·rintro i x vs S' N L ⟨us,v,J,pm,B,d⟩ hN;obtain⟨hi,rfl⟩:=cJb L;have hul:us.length+i=xs.length:=by have:=pm.length_eq;rw[aG] at this;lia
  refine⟨trivial,⟨_,J⟩,_,J,a,us.length,rfl,B,by lia,by lia,λY S2 r20 r21 z U=>?_⟩
  have O:S2 lp=some (.lst us):=(z lp hla).trans J;obtain⟨j,rfl⟩:∃j:Nat,Y=j:=⟨Y.toNat,by lia⟩
  have Z:j<us.length:=by lia
  refine⟨_,j,us[j],O,rfl,by lia,ag Z,by rw[bh];lia,hN _ _ ⟨us.eraseIdx j,?_,aQ9,?_,U.supd hla,λb h1 h2=>(aQb h2).trans ((z b h1).trans (d b h1 h2))⟩⟩
  ·rw[aG,v];rfl
  ·refine ju.trans ?_ pm;rw[aU];exact(List.perm_append_left_iff vs).mpr (bQ0 us j Z)
 ·rintro vs S' ⟨us,v,J,pm,B,d⟩;rw[aZn] at v;exact⟨trivial,q vs us S' pm v J B d⟩
def SetOf(names:List Str)(most:Nat)(t:List Str):Prop:=t.Nodup/\t.Pairwise (λx y=>leS x y=true)/\(∀n∈t,n∈names)/\t.length<=most
def aXv:SpD:=λds S Q=>∃(a:Addr) (names:List Str) (many:Nat),ds=[.ref a,tupS names,.int many]/\Pile S a/\names.Nodup/\names.length<=60/\many<=60/\∀t S',SetOf names many t->(t.length=many\/t.length=names.length)->Off a S S'->Pile S' a->Q (tupS t) S'
theorem cZd{α:Type}(l:List α)(nd:l.Nodup)(i m:Nat)(hi:i<=l.length)(hm:m<=l.length):(((l++l).drop i).take m).Nodup:=by
 have e:(l++l).drop i=l.drop i++l:=by rw[eR hi]
 rw[e];have d:(l.drop i++l.take i).Nodup:=by
  have:(l.drop i++l.take i).Perm l:=cO.trans (by rw[bg])
  exact this.nodup_iff.mpr nd
 have sub:((l.drop i++l).take m).Sublist (l.drop i++l.take i):=by
  have h1:(l.drop i++l).take m=((l.drop i++l.take i)++l.drop i).take m:=by rw[aU,bg]
  rw[h1,cM (by rw[aG,bn,aQ];lia)]
  exact c7 _ _
 exact sub.nodup d
theorem eQi{p s:Str}{c d:Nat}(h:p++(⟨#[c]⟩:Str)++s=p++(⟨#[d]⟩:Str)++s):c=d:=by
 have e:(p.cps++#[c]++s.cps).toList=(p.cps++#[d]++s.cps).toList:=congrArg (λz:Str=>z.cps.toList) h;simpa using e
def sh2(x y:Nat):List Str:=([x,y].map λc=>sg c++sg x)++([x,y].map λc=>sg c++sg y)
theorem bXi{z:Str}(h:z.length<=7)(lo hi:Option Int):(cutS z lo hi).length<=7:=by
 rw[cutS_eq];show(List.toArray _).size<=7;rw[ar,aQ,bn]
 have:z.cps.toList.length=z.length:=aP
 lia
theorem bQ2{x y:Nat}:∀w∈sh2 x y,w.length=2:=λw h=>by
 have two:∀c d:Nat,(sg c++sg d).length=2:=λc d=>by
  show((#[c]:Array Nat)++#[d]).size=2;rw[dJ];rfl
 unfold sh2 at h;rcases aL.mp h with h|h <;> (obtain⟨c,_,rfl⟩:=bW.mp h;exact two _ _)
def w14(x y:Nat):List Str:=[x,y].map sg++sh2 x y++(sh2 x y).map (λw=>w++sg x)++(sh2 x y).map (λw=>w++sg y)
theorem bZf(a b:Str):(a++b).length=a.length+b.length:=by
 show(a.cps++b.cps).size=_;rw[dJ];rfl
theorem eQj{x y:Nat}:∀w∈w14 x y,1<=w.length:=λw h=>by
 unfold w14 at h;rcases aL.mp h with h|h
 ·rcases aL.mp h with h|h
  ·rcases aL.mp h with h|h
   ·obtain⟨c,_,rfl⟩:=bW.mp h;exact Nat.le_refl 1
   ·rw[bQ2 w h];decide
  ·obtain⟨v,d,rfl⟩:=bW.mp h;rw[bZf,bQ2 v d];lia
 ·obtain⟨v,d,rfl⟩:=bW.mp h;rw[bZf,bQ2 v d];lia
def aJ2:SpD:=λds S Q=>∃(a:Addr) (many:Nat),ds=[.ref a,.int many]/\Pile S a/\many<=24/\∀(names:List Str) S',names.Nodup->names.Pairwise (λx y=>leS x y=true)->names.length=many->(∀n∈names,1<=n.length)->Off a S S'->Pile S' a->Q (tupS names) S'
end Toy
set_option maxHeartbeats 1000000
namespace Toy
open PySem L2
abbrev s_law_pile:Stmt:=top 14
theorem bJg:FnScope ["script"] ["script"] (aQ3 s_law_pile):=fsc
section
variable{P:aF}{w:aR}{K:av}{mg:Str->Option ad}{base:bj}{pt cc:Addr}
theorem bJh(T:Tx K mg "_law_pile" s_law_pile)(B:Bs mg):Df P w K mg base 1 "_law_pile" ["script"] (spU K bQ1):=by
 refine aZw T bJg (λF=>F.binds λ_ _ _ _ _ _=>us1 λ_=>rfl) ?_ λf v A outer s H E z=>⟨_,(aQ5 (aQf (bXa (b:=true) (aQ0 (dv 0) (aQ0 aQ4 (aQ0 aQ4 (aQ0 aQ4 (aQ0 aQ4 aQ1)))))))),?_⟩
 ·rintro ds S Q ⟨ns,rfl,_⟩;rfl
 ·rintro ds S Q ⟨ns,rfl,i,q⟩;refine⟨by show 5<=sizeLine;rw[bh];decide,λp d=>aQl (q p _ d (λb j=>aQb j) ⟨ns,0,0,44021,0,aQ9,i,by decide,by omega,by decide,by decide,by decide,by decide⟩)⟩
end
abbrev s_law_next:Stmt:=top 15
theorem sc_law_next:FnScope ["pile", "most", "found", "cell"] ["pile", "most"] (aQ3 s_law_next):=fsc
section
variable{P:aF}{w:aR}{K:av}{mg:Str->Option ad}{base:bj}{pt cc:Addr}
theorem bJi(T:Tx K mg "_law_next" s_law_next)(B:Bs mg)(AB:mg "abs"=none):Df P w K mg base 1 "_law_next" ["pile", "most"] (spU K aQt):=by
 refine aZw T sc_law_next (λF=>F.binds λ_ _ _ _ _ _=>us2 λ_ _=>rfl) ?_ λf cdv A outer s H E hr=>⟨_,(aQ2 (aZu (fZ7 hr (e_ix (dv 0) aQ4) aQ4) (aQ2 (aQe (i:=2) sc_law_next.nd rfl (bB rfl) (bX9 (e_ix (dv 0) aQ4) (dv 1)))
  (aQ2 (aXg (cXm (e_ix (dv 0) aQ4) (dv 1)) (bQn (dv 0) aQ4))
  (aQ5 (aQf (dv 2))))) aQq)
  (aQ2 (aZu (bJ6 hr (e_ix (dv 0) aQ4) (aZ2 rfl B.len (aQ0 (e_ix (dv 0) aQ4) aQ1))) (aQ2 (aQe (i:=3) sc_law_next.nd rfl (bB rfl) (e_ix (e_ix (dv 0) aQ4) (e_ix (dv 0) aQ4)))
  (aQ2 (aXg (aQw (k:=false) (e_ix (dv 0) aQ4) aQ4) (bQn (dv 0) aQ4))
  (aQ2 (aXg (bX9 (aQw (k:=false) (dQs (e_ix (dv 0) aQ4) aQ4) (dv 3)) aQ4) (bQn (dv 0) aQ4))
  (aQ2 (aZu (eJ9 hr (eQc rfl AB (aQ0 (dv 3) aQ1)) (fZ4 aQ4 aQ4)) (aQ2 (aXg (cXm (eQc rfl AB (aQ0 (dv 3) aQ1)) (dv 1)) (bQn (dv 0) aQ4))
  (aQ5 (aQf (bX9 (eQc rfl AB (aQ0 (dv 3) aQ1)) (dv 1))))) aQq)
  (aQ5 (aQf (bX9 (dv 3) (dv 1)))))))) aQq)
  (aQ2 (aXg (aQw (k:=false) (e_ix (dv 0) aQ4) aQ4) (bQn (dv 0) aQ4))
  (aQ2 (aXg (bX9 (aQw (k:=false) (aQw (k:=false) (dQs (e_ix (dv 0) aQ4) (e_ix (dv 0) aQ4)) (dQs aQ4 (e_ix (dv 0) aQ4))) aQ4) aQ4) (bQn (dv 0) aQ4))
  (aQ5 (aQf (bX9 (cXm (e_ix (dv 0) aQ4) aQ4) (dv 1)))))))),?_⟩
 ·rintro ds S Q ⟨a,m,rfl,_⟩;rfl
 ·rintro ds S Q ⟨a,m,rfl,⟨cs,i,r,sd,c,z,Z,i0,i1,r0,s0,s1,c0⟩,L,m2,q⟩;have off:∀o,Off a S (supd S a o):=λo b N=>aQb N;have J:∀o o',Off a S (supd (supd S a o) a o'):=λo o' b N=>by rw[aQb N,aQb N]
  have U:∀o o' Y,Off a S (supd (supd (supd S a o) a o') a Y):=λo o' Y b N=>by rw[aQb N,aQb N,aQb N]
  refine⟨_,_,z,rfl,_,rfl,ite2 (λk0=>?_) λk0=>?_⟩
  ·refine⟨_,_,z,rfl,(by first|exact .inl ⟨by decide,by decide⟩|exact .inr ⟨by decide,by decide⟩|exact .inl ⟨by omega,by omega⟩|exact .inr ⟨by omega,by omega⟩|exact⟨by decide,by decide⟩|exact⟨by omega,by omega⟩|(show(0:Int)<_;first|decide|omega)|(show _<=sizeLine;rw[bh];first|decide|omega)|decide|omega),_,_,z,rfl,⟨(by first|exact .inl ⟨by decide,by decide⟩|exact .inr ⟨by decide,by decide⟩|exact .inl ⟨by omega,by omega⟩|exact .inr ⟨by omega,by omega⟩|exact⟨by decide,by decide⟩|exact⟨by omega,by omega⟩|(show(0:Int)<_;first|decide|omega)|(show _<=sizeLine;rw[bh];first|decide|omega)|decide|omega),(by first|exact .inl ⟨by decide,by decide⟩|exact .inr ⟨by decide,by decide⟩|exact .inl ⟨by omega,by omega⟩|exact .inr ⟨by omega,by omega⟩|exact⟨by decide,by decide⟩|exact⟨by omega,by omega⟩|(show(0:Int)<_;first|decide|omega)|(show _<=sizeLine;rw[bh];first|decide|omega)|decide|omega)⟩,_,_,z,rfl,?_⟩
   show rtD Q (.int (r%m)) (supd S a (.lst [.lst (cs.map D.int),.int i,.int (r/m),.int sd,.int c]));exact aQl (q _ _ (md L).1 (md L).2 (off _) ⟨cs,i,r/m,sd,c,aQ9,Z,i0,i1,Int.ediv_nonneg r0 (by omega),s0,s1,c0⟩)
  refine⟨_,_,z,rfl,_,_,z,rfl,_,rfl,_,rfl,ite2 (λk1=>?_) λk1=>?_⟩
  ·have hi:i.toNat<cs.length:=by have:=of_decide_eq_true k1;rw[am] at this;omega
   obtain⟨cell,ei⟩:∃cell:Int,atI (cs.map D.int) i=some (.int cell):=by
    refine⟨cs[i.toNat],?_⟩
    have:=aZe (xs:=cs.map D.int) (j:=i.toNat) (v:=.int cs[i.toNat]) (by rw[aT,ag hi];rfl)
    rwa [show((i.toNat:Nat):Int)=i by omega] at this
   have d:supd S a (.lst [.lst (cs.map D.int),.int (i+1),.int r,.int sd,.int c]) a=_:=aQ9;refine⟨_,_,z,rfl,_,_,z,rfl,_,_,rfl,ei,_,_,z,rfl,_,_,z,rfl,_,_,d,rfl,.inr ⟨by decide,by decide⟩,by show(0:Int)<2147483629;decide,_,_,d,rfl,?_⟩
   have hm:=md (a:=sd*69069+cell) (b:=2147483629) (by decide)
   have O:supd (supd S a (.lst [.lst (cs.map D.int),.int (i+1),.int r,.int sd,.int c])) a (.lst [.lst (cs.map D.int),.int (i+1),.int r,.int ((sd*69069+cell)%2147483629),.int c]) a=_:=aQ9;refine⟨⟨by decide,by decide,by decide⟩,_,rfl,ite2 (λk2=>?_) λk2=>?_⟩
   ·refine⟨⟨(by first|exact .inl ⟨by decide,by decide⟩|exact .inr ⟨by decide,by decide⟩|exact .inl ⟨by omega,by omega⟩|exact .inr ⟨by omega,by omega⟩|exact⟨by decide,by decide⟩|exact⟨by omega,by omega⟩|(show(0:Int)<_;first|decide|omega)|(show _<=sizeLine;rw[bh];first|decide|omega)|decide|omega),(by first|exact .inl ⟨by decide,by decide⟩|exact .inr ⟨by decide,by decide⟩|exact .inl ⟨by omega,by omega⟩|exact .inr ⟨by omega,by omega⟩|exact⟨by decide,by decide⟩|exact⟨by omega,by omega⟩|(show(0:Int)<_;first|decide|omega)|(show _<=sizeLine;rw[bh];first|decide|omega)|decide|omega)⟩,_,_,O,rfl,(by first|exact .inl ⟨by decide,by decide⟩|exact .inr ⟨by decide,by decide⟩|exact .inl ⟨by omega,by omega⟩|exact .inr ⟨by omega,by omega⟩|exact⟨by decide,by decide⟩|exact⟨by omega,by omega⟩|(show(0:Int)<_;first|decide|omega)|(show _<=sizeLine;rw[bh];first|decide|omega)|decide|omega),aQl (q _ _ (md L).1 (md L).2 (U _ _ _) ⟨cs,i+1,(if cell<0 then -cell else cell)/m,(sd*69069+cell)%2147483629,c,aQ9,Z,by omega,by omega,Int.ediv_nonneg (by split <;> omega) (by omega),hm.1,hm.2,c0⟩)⟩
   ·exact⟨(by first|exact .inl ⟨by decide,by decide⟩|exact .inr ⟨by decide,by decide⟩|exact .inl ⟨by omega,by omega⟩|exact .inr ⟨by omega,by omega⟩|exact⟨by decide,by decide⟩|exact⟨by omega,by omega⟩|(show(0:Int)<_;first|decide|omega)|(show _<=sizeLine;rw[bh];first|decide|omega)|decide|omega),aQl (q _ _ (md L).1 (md L).2 (J _ _) ⟨cs,i+1,r,(sd*69069+cell)%2147483629,c,aQ9,Z,by omega,by omega,r0,hm.1,hm.2,c0⟩)⟩
  ·have d:supd S a (.lst [.lst (cs.map D.int),.int i,.int r,.int sd,.int (c+1)]) a=_:=aQ9;have hm:=md (a:=sd*sd+40014*(c+1)+977) (b:=2147483629) (by decide)
   have O:supd (supd S a (.lst [.lst (cs.map D.int),.int i,.int r,.int sd,.int (c+1)])) a (.lst [.lst (cs.map D.int),.int i,.int r,.int ((sd*sd+40014*(c+1)+977)%2147483629),.int (c+1)]) a=_:=aQ9;exact⟨_,_,z,rfl,_,_,z,rfl,_,_,d,rfl,_,_,d,rfl,.inl ⟨by omega,by omega⟩,_,_,d,rfl,.inl ⟨by decide,by decide⟩,by show(0:Int)<2147483629;decide,_,_,d,rfl,_,_,O,rfl,⟨by decide,by decide⟩,(by first|exact .inl ⟨by decide,by decide⟩|exact .inr ⟨by decide,by decide⟩|exact .inl ⟨by omega,by omega⟩|exact .inr ⟨by omega,by omega⟩|exact⟨by decide,by decide⟩|exact⟨by omega,by omega⟩|(show(0:Int)<_;first|decide|omega)|(show _<=sizeLine;rw[bh];first|decide|omega)|decide|omega),aQl (q _ _ (md L).1 (md L).2 (J _ _) ⟨cs,i,r,(sd*sd+40014*(c+1)+977)%2147483629,c+1,aQ9,Z,i0,i1,r0,hm.1,hm.2,by omega⟩)⟩
end
abbrev s_law_names:Stmt:=top 16
theorem sc_law_names:FnScope ["pile", "many", "letters", "start", "at", "base", "pair", "short", "some"] ["pile", "many"] (aQ3 s_law_names):=fsc
section
variable{P:aF}{w:aR}{K:av}{mg:Str->Option ad}{base:bj}{pt cc:Addr}
theorem bXj(T:Tx K mg "_law_names" s_law_names)(B:Bs mg)(d_law_next:Df P w K mg base 1 "_law_next" ["pile", "most"] (spU K aQt)):Df P w K mg base 2 "_law_names" ["pile", "many"] (spU K aJ2):=by
 refine aZw T sc_law_names (λF=>F.binds λ_ _ _ _ _ _=>us2 λ_ _=>rfl) ?_ λf cdv A outer s H E U=>⟨_,(aQ2 (aQe (i:=2) sc_law_names.nd rfl (ie rfl) aXr)
  (aQ2 (aQe (i:=3) sc_law_names.nd rfl (ie rfl) (aQ6 d_law_next U rfl (aQ0 (dv 0) (aQ0 aQ4 aQ1))))
  (aQ2 (aQe (i:=4) sc_law_names.nd rfl (ie rfl) (aQ6 d_law_next U rfl (aQ0 (dv 0) (aQ0 aQ4 aQ1))))
  (aQ2 (aQe (i:=5) sc_law_names.nd rfl (ie rfl) (e_ix (bXa (b:=false) (aQ0 aXr (aQ0 aXr (aQ0 aXr (aQ0 aXr (aQ0 aXr (aQ0 aXr (aQ0 aXr (aQ0 aXr aQ1))))))))) (aQ6 d_law_next U rfl (aQ0 (dv 0) (aQ0 aQ4 aQ1)))))
  (bJc (aZu (PWD.pt (cXr (dJt U (aQ6 d_law_next U rfl (aQ0 (dv 0) (aQ0 aQ4 aQ1))) aQ4) (bJ8 (bJ6 U (dv 1) aQ4)))) (aQ2 (aQe (i:=6) sc_law_names.nd rfl (ie rfl) (e_ix (bXa (b:=false) (aQ0 aXr (aQ0 aXr (aQ0 aXr (aQ0 aXr aQ1))))) (bX9 (dv 3) aQ4)))
  (aQ2 (aQe (i:=7) sc_law_names.nd rfl (bB rfl) (aQw (k:=false) (aQy (N':=["word", "pair"]) (oc:=none) (b:=false) [0] [] rfl sc_law_names.nd (λ_ _ _=>aQd ..) (.own (.cap (i:=6) rfl (by decide +kernel) .nil)) (aQh rfl) (dX8 (dv 6)) (cg_name (i:=0)) (λ_ _ _ _ _=>aQg (i:=0) (nd_ ["word", "pair"]) rfl (bB rfl) (.inr rfl)) (λ_ _ _ _ _=>aQo) aQk (λ_ _ _ _ _ _=>aQj rfl (by exact PD.o (aQw (k:=false) (dv 0) (e_ix (dv 1) aQ4))))) (aQy (N':=["word", "pair"]) (oc:=none) (b:=false) [0] [] rfl sc_law_names.nd (λ_ _ _=>aQd ..) (.own (.cap (i:=6) rfl (by decide +kernel) .nil)) (aQh rfl) (dX8 (dv 6)) (cg_name (i:=0)) (λ_ _ _ _ _=>aQg (i:=0) (nd_ ["word", "pair"]) rfl (bB rfl) (.inr rfl)) (λ_ _ _ _ _=>aQo) aQk (λ_ _ _ _ _ _=>aQj rfl (by exact PD.o (aQw (k:=false) (dv 0) (e_ix (dv 1) aQ4)))))))
  (aQ2 (aQe (i:=8) sc_law_names.nd rfl (bB rfl) (aQw (k:=false) (aQw (k:=false) (aQw (k:=false) (eQ9 (b:=false) rfl B.list (aQ0 (dv 6) aQ1)) (dv 7)) (aQy (N':=["word", "pair"]) (oc:=none) (b:=false) [0] [] rfl sc_law_names.nd (λ_ _ _=>aQd ..) (.own (.cap (i:=6) rfl (by decide +kernel) .nil)) (aQh rfl) (aZm (dv 7)) (cg_name (i:=0)) (λ_ _ _ _ _=>aQg (i:=0) (nd_ ["word", "pair"]) rfl (bB rfl) (.inr rfl)) (λ_ _ _ _ _=>aQo) aQk (λ_ _ _ _ _ _=>aQj rfl (by exact PD.o (aQw (k:=false) (dv 0) (e_ix (dv 1) aQ4)))))) (aQy (N':=["word", "pair"]) (oc:=none) (b:=false) [0] [] rfl sc_law_names.nd (λ_ _ _=>aQd ..) (.own (.cap (i:=6) rfl (by decide +kernel) .nil)) (aQh rfl) (aZm (dv 7)) (cg_name (i:=0)) (λ_ _ _ _ _=>aQg (i:=0) (nd_ ["word", "pair"]) rfl (bB rfl) (.inr rfl)) (λ_ _ _ _ _=>aQo) aQk (λ_ _ _ _ _ _=>aQj rfl (by exact PD.o (aQw (k:=false) (dv 0) (e_ix (dv 1) aQ4)))))))
  (aQ5 (aQf (aQm rfl B.tuple (aQ0 (aQz (b:=false) U rfl B.sorted (aQ0 (e_sl (b:=false) (aQw (k:=false) (dv 8) (dv 8)) (aZ9 (dv 4)) (aZ9 (aQw (k:=false) (dv 4) (dv 1)))) aQ1)) aQ1))))))) aQq)
  (aQ5 (aQf (aQm rfl B.tuple (aQ0 (aQz (b:=false) U rfl B.sorted (aQ0 (aQy (N':=["k", "base", "at", "letters", "start"]) (oc:=none) (b:=false) [0] [] rfl sc_law_names.nd (λ_ _ _=>aQd ..) (.own (.cap (i:=5) rfl (by decide +kernel) (.cap (i:=4) rfl (by decide +kernel) (.cap (i:=2) rfl (by decide +kernel) (.cap (i:=3) rfl (by decide +kernel) .nil))))) (aQh rfl) (aXh rfl B.range (aQ0 (dv 1) aQ1)) (cg_name (i:=0)) (λ_ _ _ _ _=>aQg (i:=0) (nd_ ["k", "base", "at", "letters", "start"]) rfl (bB rfl) (.inr rfl)) (λ_ _ _ _ _=>aQo) aQk (λ_ _ _ _ _ _=>aQj rfl (by exact PD.o (aQw (k:=false) (aQw (k:=false) (e_sl (b:=false) (dv 1) aZl (aZ9 (dv 2))) (e_ix (dv 3) (bX9 (aQw (k:=false) (dv 4) (dQs aQ4 (dv 0))) aQ4))) (e_sl (b:=false) (dv 1) (aZ9 (dv 2)) aZl))))) aQ1)) aQ1))))))))),?_⟩
 ·rintro ds S Q ⟨a,many,rfl,_⟩;rfl
 ·rintro ds S Q ⟨a,many,rfl,dk,m24,q⟩;refine⟨a,26,rfl,dk,by decide,by decide,λJ S1 r10 r11 off1 dk1=>?_⟩
  refine⟨a,8,rfl,dk1,by decide,by decide,λd S2 r20 r21 off2 dk2=>?_⟩
  refine⟨aQ8 (by decide),a,8,rfl,dk2,by decide,by decide,λO S3 r30 r31 Z dk3=>?_⟩
  obtain⟨z,hz,hzl⟩:∃z:Str,atI [D.str (Str.ofString ""),D.str (Str.ofString ""),D.str (Str.ofString "room"),D.str (Str.ofString "lengthy"),D.str (Str.ofString "zzz"),D.str (Str.ofString "qx"),D.str (Str.ofString "kkkkkk"),D.str (Str.ofString "none")] O=some (.str z)/\z.length<=7:=by
   have h:O=0\/O=1\/O=2\/O=3\/O=4\/O=5\/O=6\/O=7:=by omega
   rcases h with rfl|rfl|rfl|rfl|rfl|rfl|rfl|rfl <;> exact⟨_,rfl,by decide⟩
  have L:∀{S'},Off a S3 S'->Off a S S':=λo=>off1.trans (off2.trans (Z.trans o));refine⟨_,_,rfl,hz,?_⟩;refine⟨fun Γ' S'=>Γ'=[some (.ref a),some (.int many),some (.str lettersZ),some (.int J),some (.int d),some (.str z),none,none,none]/\Off a S S'/\Pile S' a,?_,?_⟩
  ·refine⟨a,4,rfl,dk3,by decide,by decide,λr4 S4 r40 r41 v N=>⟨rfl,_,rfl,ite2 (λc1=>?_) λc1=>⟨rfl,L v,N⟩⟩⟩
   refine⟨_,rfl,ite2 (λc2=>?_) λc2=>⟨rfl,L v,N⟩⟩;have m15:many<15:=by have:=of_decide_eq_true c2;omega
   obtain⟨x,y,hp,hnd⟩:∃x y:Nat,atI [D.str (Str.ofString "ab"),D.str (Str.ofString "qx"),D.str (Str.ofString "yz"),D.str (Str.ofString "mn")] (J%4)=some (.str ⟨#[x,y]⟩)/\(w14 x y).Nodup:=by
    have h:J%4=0\/J%4=1\/J%4=2\/J%4=3:=by omega
    rcases h with h|h|h|h <;> rw[h]
    ·exact⟨97,98,rfl,by decide +kernel⟩
    ·exact⟨113,120,rfl,by decide +kernel⟩
    ·exact⟨121,122,rfl,by decide +kernel⟩
    ·exact⟨109,110,rfl,by decide +kernel⟩
   refine⟨aQ8 (by show 4<=9999;decide),by show(0:Int)<4;decide,_,_,rfl,hp,?_⟩
   refine aQs (enc:=λc:Nat=>D.str ⟨#[c]⟩) (xs:=[x,y]) (f:=λc=>D.str (sg c++sg x)) (λc _ Q q=>⟨aQ8 (by show 2<=9999;decide),x,aZe (j:=0) rfl,aQ8 (by show 1+1<=9999;decide),q⟩) (aQ8 (by show 2<=9999;decide)) ?_
   refine aQs (enc:=λc:Nat=>D.str ⟨#[c]⟩) (xs:=[x,y]) (f:=λc=>D.str (sg c++sg y)) (λc _ Q q=>⟨aQ8 (by show 2<=9999;decide),y,aZe (j:=1) rfl,aQ8 (by show 1+1<=9999;decide),q⟩) (aQ8 (by show 2<=9999;decide)) ?_
   refine⟨_,_,rfl,rfl,aQ8 (by show 4<=9999;decide),by show 2<=1000;decide,_,_,rfl,rfl,aQ8 (by show 6<=9999;decide),(sh2 x y).map D.str,rfl,?_⟩
   refine aQs (enc:=D.str) (xs:=sh2 x y) (f:=λw=>D.str (w++sg x)) (λw hw Q q=>⟨aQ8 (by show 2<=9999;decide),x,aZe (j:=0) rfl,aQ8 (by rw[bQ2 w hw];show 2+1<=9999;decide),q⟩) (aQ8 (by show 4<=9999;decide)) ?_
   refine⟨_,_,rfl,rfl,aQ8 (by show 10<=9999;decide),(sh2 x y).map D.str,rfl,?_⟩
   refine aQs (enc:=D.str) (xs:=sh2 x y) (f:=λw=>D.str (w++sg y)) (λw hw Q q=>⟨aQ8 (by show 2<=9999;decide),y,aZe (j:=1) rfl,aQ8 (by rw[bQ2 w hw];show 2+1<=9999;decide),q⟩) (aQ8 (by show 4<=9999;decide)) ?_
   refine⟨_,_,rfl,rfl,aQ8 (by show 14<=9999;decide),_,_,rfl,rfl,aQ8 (by show 28<=9999;decide),d,rfl,d+many,rfl,_,rfl,?_⟩
   obtain⟨i,rfl⟩:∃i:Nat,d=i:=⟨d.toNat,by omega⟩
   have hi:i<8:=by omega
   have h14:(w14 x y).length=14:=rfl;have Y:=cZd (w14 x y) hnd i many (by omega) (by omega)
   have hlen:(((w14 x y++w14 x y).drop i).take many).length=many:=by rw[aQ,bn,aG,h14];omega
   have sp:=aZo (((w14 x y++w14 x y).drop i).take many);refine .inl ⟨((w14 x y++w14 x y).drop i).take many,?_,_,rfl,aQl (q _ _ (sp.nodup_iff.mpr Y) (bXf _) (by rw[sp.length_eq,hlen]) (λn hn=>eQj n ((aL.mp (cV (bD (sp.mem_iff.mp hn)))).elim id id)) (L v) N)⟩
   have ec:cutD ((w14 x y++w14 x y).map D.str) (some (i:Int)) (some ((i:Int)+(many:Int)))=(((w14 x y++w14 x y).drop i).take many).map D.str:=by
    rw[aJf,show(i:Int)+(many:Int)=((i+many:Nat):Int) by omega,HT.sIx_nat,HT.sIx_nat,aG,h14,Nat.min_eq_left (by omega),Nat.min_eq_left (by omega),Nat.add_sub_cancel_left]
   exact ec.symm
  ·rintro Γ' S4 ⟨rfl,v,N⟩;refine⟨⟨by omega,by omega⟩,?_⟩
   rw[cy,eQ7];refine aQs (enc:=λk:Nat=>D.int (k:Nat)) (f:=λk=>D.str (cutS z none (some d)++(⟨#[97+((J+5*(k:Int))%26).toNat]⟩:Str)++cutS z (some d) none)) (λk hk Q q=>?_) (aQ8 (by rw[cj];show 0+many<=_;omega)) ?_
   ·have hb:(J+5*(k:Int))%26=((((J+5*(k:Int))%26).toNat:Nat):Int):=by omega
    have hat:atI lettersZ.cps.toList ((J+5*(k:Int))%26)=some (97+((J+5*(k:Int))%26).toNat):=by
     rw[hb];exact cJh (by omega)
    have l1:=bXi hzl none (some d);have l2:=bXi hzl (some d) none;have l3:(cutS z none (some d)++(⟨#[97+((J+5*(k:Int))%26).toNat]⟩:Str)).length=(cutS z none (some d)).length+1:=by
     show((cutS z none (some d)).cps++#[_]).size=_;rw[dJ];rfl
    exact⟨d,rfl,by omega,.inl ⟨by decide,by decide⟩,by show(0:Int)<26;decide,by decide,_,hat,aQ8 (by show(cutS z none (some d)).length+1<=9999;omega),d,rfl,by omega,aQ8 (by rw[l3];omega),q⟩
   ·have Y:((a6 many).map λk:Nat=>cutS z none (some d)++(⟨#[97+((J+5*(k:Int))%26).toNat]⟩:Str)++cutS z (some d) none).Nodup:=by
     unfold g6;rw[de];refine cQ ?_ (fZ (n:=many));intro k k' hk hk' hlt e
     have:=eQi e
     have h1:=aX.mp hk;have h2:=aX.mp hk';omega
    have sp:=aZo ((a6 many).map λk:Nat=>cutS z none (some d)++(⟨#[97+((J+5*(k:Int))%26).toNat]⟩:Str)++cutS z (some d) none);refine .inl ⟨_,?_,_,rfl,aQl (q _ _ (sp.nodup_iff.mpr Y) (bXf _) (by rw[sp.length_eq,am,cj]) (λn hn=>by obtain⟨k,_,rfl⟩:=bW.mp (sp.mem_iff.mp hn);rw[bZf,bZf];show 1<=_+1+_;omega) v N)⟩
    show _=_;rw[bS];rfl
end
abbrev s_law_set:Stmt:=top 17
theorem sc_law_set:FnScope ["pile", "names", "many", "left"] ["pile", "names", "many"] (aQ3 s_law_set):=fsc
section
variable{P:aF}{w:aR}{K:av}{mg:Str->Option ad}{base:bj}{pt cc:Addr}
theorem cZe(T:Tx K mg "_law_set" s_law_set)(B:Bs mg)(d_law_next:Df P w K mg base 1 "_law_next" ["pile", "most"] (spU K aQt)):Df P w K mg base 2 "_law_set" ["pile", "names", "many"] (spU K aXv):=by
 refine aZw T sc_law_set (λF=>F.binds λ_ _ _ _ _ _=>us3 λ_ _ _=>rfl) ?_ λf cdv A outer s H E O=>⟨_,(aQ2 (aQe (i:=3) sc_law_set.nd rfl (ie rfl) (dX4 (b:=true) rfl B.list (aQ0 (dv 1) aQ1)))
  (aQ5 (aQf (aQm rfl B.tuple (aQ0 (aQz (b:=false) O rfl B.sorted (aQ0 (aQy (N':=["k", "left", "pile"]) (oc:=none) (b:=false) [0] [] rfl sc_law_set.nd (λ_ _ _=>aQd ..) (.own (.cap (i:=3) rfl (by decide +kernel) (.cap (i:=0) rfl (by decide +kernel) .nil))) (aQh rfl) (aXh rfl B.range (aQ0 (eJh rfl B.min (aQ0 (dv 2) (aQ0 (aZ2 rfl B.len (aQ0 (dv 1) aQ1)) aQ1))) aQ1)) (cg_name (i:=0)) (λ_ _ _ _ _=>aQg (i:=0) (nd_ ["k", "left", "pile"]) rfl (bB rfl) (.inr rfl)) (λ_ _ _ _ _=>aQo) aQk (λ_ _ _ _ _ _=>aQj rfl (by exact PD.o (eQ3 (dv 1) (aQ0 (aQ6 d_law_next O rfl (aQ0 (dv 2) (aQ0 (aZ2 rfl B.len (aQ0 (dv 1) aQ1)) aQ1))) aQ1))))) aQ1)) aQ1))))),?_⟩
 ·rintro ds S Q ⟨a,names,many,rfl,_⟩;rfl
 ·rintro ds S Q ⟨a,names,many,rfl,dk,nd,U,Z,q⟩;refine⟨_,rfl,λlp z=>?_⟩;have d:lp≠a:=dk.ne z;obtain⟨m,hm,mm,Y,mo⟩:∃m:Nat,(λi j:Int=>if j<i then j else i) (many:Int) ((names.map D.str).length:Int)=(m:Int)/\m<=many/\m<=names.length/\(m=many\/m=names.length):=by
   rw[am];show ∃m:Nat,(if (names.length:Int)<(many:Int) then (names.length:Int) else (many:Int))=(m:Int)/\_
   split
   ·exact⟨names.length,rfl,by omega,Nat.le_refl _,.inr rfl⟩
   ·exact⟨many,rfl,Nat.le_refl _,by omega,.inl rfl⟩
  refine⟨_,rfl,?_,?_⟩
  ·rw[hm];exact⟨by omega,by omega⟩
  rw[hm,cy];refine dZ7 d (xs:=names.map D.str) aQ9 (by rw[am];exact Y) (by rw[am];omega) (dk.supd d) λvs us S' pm L hl N v=>?_
  obtain⟨as,bs,rfl,rfl,pn⟩:=cJi (f:=D.str) dStr' (λ_=>rfl) pm;rw[am] at L;have J:as.Nodup:=(da.mp (pn.nodup_iff.mpr nd)).1;have sp:=aZo as;refine .inl ⟨as,rfl,_,rfl,aXu (S':=sdel S' lp) dJg (q (srS as) _ ⟨sp.nodup_iff.mpr J,bXf as,λn h=>pn.mem_iff.mp (cC _ (sp.mem_iff.mp h)),by rw[sp.length_eq];omega⟩ (by rw[sp.length_eq];omega) (λb hb=>?_) (N.eq (bJ2 (cY d))))⟩
  by_cases e:b=lp
  ·subst e;rw[bX8,z]
  ·rw[bJ2 e,v b hb e,aQb e]
end
end Toy
namespace L2
open PySem PySem.Spec PyProof.Rows
structure TabF(base:bj)(mg:Str->Option ad)(c P:Addr):Prop where
 hd:PySem.W.CodeHd base c P
 bm:∃bm ob,mg "__builtins__"=some (.ref bm)/\bm≠gT/\base.get? bm=some ob/\ob.cls=.type "module"/\ob.dict=some gT/\ob.data=.plain
def Grow(P:Addr)(lp:Pos)(qual:Str)(ps:Array ad)(H H':Hp):Prop:=H'=H \/
 ∃c oc vs t,H c=none/\c≠P/\H'=upd (upd H P (.tbl (ps++#[e6 lp.line,e6 lp.col,.ref c]))) c (cdO c oc)/\oc.data=.fields vs/\vs[1]?=some (.str qual t)/\gS lp ps.toList=none
def fZm(H:Hp)(P:Addr)(lp:Pos)(qual:Str)(c:Addr):Prop:=∃ps oc vs t,H P=some (.tbl ps)/\gS lp ps.toList=some (.ref c)/\H c=some (cdO c oc)/\oc.data=.fields vs/\vs[1]?=some (.str qual t)
def TbV(H:Hp)(lp:Pos)(qual:Str)(ps:Array ad):Prop:=TriplesOk ps.toList/\(gS lp ps.toList=none\/∃c oc,gS lp ps.toList=some (.ref c)/\H c=some (cdO c oc)/\∃vs t,oc.data=.fields vs/\vs[1]?=some (.str qual t))
section
variable{X:Cx}{pins:List (Addr×Obj)}{σ:St}{H:Hp}{s:ah}{E:ad->ah->Prop}
theorem dZ8{c P:Addr}{ps:Array ad}{qual:Str}{lp:Pos}{params:Arguments}{body:Expr}{scope:Scope}{clos:List (Str×Addr)}{Q:ad->ah->Prop}(I:Inv X pins σ H s)(hP:H P=some (.tbl ps))(tb:TbV H lp qual ps)
  (hcode:X.env.code=.ref c) (T:TabF X.base X.mg c P) (hq:X.env.qual ++ "<lambda>"=qual) (hcl:gZ scope X.env=pure clos) (hdef:defaultsOf params X.env=([],[]))
  (h:∀f c' pm ctv H' s',Inv X pins σ H' s'->Grow P lp qual ps H H'->s'.heap.get? f=some (jg "<lambda>" qual params body scope clos pm c' ctv)->s'.heap.CodeRec (.ref c') qual->fZm H' P lp qual c'->s.heap.objs.size<=f->H' f=none->Q (.ref f) s') :
  aH (aE X.prog X.w) X.A (eval (.Lambda params body scope lp) X.env) Q E s:=by
 obtain⟨v,tb⟩:=tb;obtain⟨bm,ob,b1,b2,b3,b4,b5,b6⟩:=T.bm;have Y:s.heap.get? P=some (f9 ps):=I.hok P _ hP;have nP:∀b o,X.base.get? b=some o->b≠P:=λb o e z=>by
  have:=(I.bs b o e).2
  rw[z,hP] at this;cases this
 have hgP:aZ≠P:=by
  obtain⟨o,es,ep,e,_⟩:=I.mod.glob;exact nP _ _ e
 have hbG:bm≠aZ:=λq=>by
  obtain⟨o,es,ep,e,hd,_⟩:=I.mod.glob;rw[q,e] at b3;cases b3;rw[hd] at b6;cases b6
 have BA:s.heap.BuiltinsAt X.mg P:=⟨bm,ob,b1,b2,hbG,nP _ _ b3,I.bk _ _ b3,b4,b5,b6⟩;refine PySem.W.kla_eval hdef ?_;rw[hq];rcases tb with hn|⟨c',oc,hf,hc,L,t,d1,d2⟩
 ·refine PySem.W.kla_makeFunction hcl I.ok.glob (I.mod.glob.keeps I.bk) hcode (T.hd.keeps I.bk) Y v hn hgP BA λc' ctv h' tk hx j B U N=>?_;obtain⟨c2,oc,L,t,e2,d,hd,hv⟩:=U;cases e2;have hfr:H c'=none:=I.hok.fresh j;have D:c'≠P:=λz=>by rw[z,hP] at hfr;cases hfr
  have bP:∀b,H b=none->b≠P:=λb e z=>by rw[z,hP] at e;cases e
  have bc:∀b u,H b=some u->b≠c':=λb u e z=>by rw[z,hfr] at e;cases e
  have lc:∀b o,s.heap.get? b=some o->b≠c':=λb o e=>Nat.ne_of_lt (Nat.lt_of_lt_of_le (aD e) j);have hfo:H h'.objs.size=none:=I.hok.fresh (Nat.le_trans j (Nat.le_of_lt B));have kk:∀(Z:Obj) b o,b≠P->s.heap.get? b=some o->(h'.push Z).get? b=some o:=λZ b o n e=>af _ (hx b o n e);refine h _ c' _ ctv (upd (upd H P (.tbl (ps++#[e6 lp.line,e6 lp.col,.ref c']))) c' (cdO c' oc)) _ (I.un ⟨?_,?_,?_,?_,?_,?_,?_⟩ ?_) (.inr ⟨c',oc,L,t,hfr,D,rfl,hd,hv,hn⟩) (az _ rfl) ⟨c',oc,L,t,rfl,af _ d,hd,hv⟩ ⟨_,oc,L,t,by rw[upd_ne (cY D),aQ7],by simpa using codeAmong_snoc (c:=.ref c') _ v hn,aQ7,hd,hv⟩ (Nat.le_trans j (Nat.le_of_lt B)) ?_
  ·exact λb o e n _ _=>kk _ b o (bP b n) e
  ·exact λb o e n _ _=>⟨o.slots,kk _ b o (bP b n) e⟩
  ·exact λb o e n _=>by rw[upd_ne (lc b o e),upd_ne (bP b n)];exact n
  ·intro b o e _
   by_cases z:b=P
   ·subst z;exact⟨_,af _ N⟩
   ·exact⟨o,kk _ b o z e⟩
  ·intro b xs e;have z:b≠P:=λz=>by rw[z,hP] at e;cases e
   rw[upd_ne (bc b _ e),upd_ne z];exact e
  ·intro b o u e;have z:b≠P:=λz=>by rw[z,hP] at e;cases e
   rw[upd_ne (bc b _ e),upd_ne z];exact e
  ·intro b qs e
   by_cases z:b=P
   ·subst z;rw[hP] at e;cases e;exact⟨_,by rw[upd_ne (cY D),aQ7]⟩
   ·exact⟨#[],by rw[upd_ne (bc b _ e),upd_ne z,e];simp⟩
  ·intro b u e
   by_cases z1:b=c'
   ·subst z1;rw[aQ7] at e;cases e;exact⟨af _ d,⟨_,af _ d⟩,λh1 h2 q k=>k _ q⟩
   ·rw[upd_ne z1] at e
    by_cases z2:b=P
    ·subst z2;rw[aQ7] at e;cases e;exact af _ N
    ·rw[upd_ne z2] at e;refine(I.hok b u e).stay (λJ o' hb' e'=>?_) (λJ e'=>?_) (λJ xs e'=>?_)
     ·refine kk _ J o' ?_ e';rcases hb' with z|z
      ·rw[z];exact z2
      ·intro i;rw[i,hP] at z;cases z
     ·have i:J≠P:=λi=>by rw[i,hP] at e';cases e'
      rw[upd_ne (bc J _ e'),upd_ne i];exact e'
     ·have i:J≠P:=λi=>by rw[i,hP] at e';cases e'
      rw[upd_ne (bc J _ e'),upd_ne i];exact e'
  ·rw[upd_ne (Nat.ne_of_gt B),upd_ne (λz=>by rw[z,hP] at hfo;cases hfo)];exact hfo
 ·refine PySem.W.kla_makeFunctionHit hcl I.ok.glob (I.mod.glob.keeps I.bk) hcode (T.hd.keeps I.bk) Y v hf BA λctv h' tk hk O=>?_;have k2:∀(Z:Obj) b o,s.heap.get? b=some o->(h'.push Z).get? b=some o:=λZ b o e=>af _ (hk b o e);have d:s.heap.get? c'=some oc:=(I.hok c' _ hc).1;exact h _ c' _ ctv H _ (I.kept (k2 _)) (.inl rfl) (az _ rfl) ⟨c',oc,L,t,rfl,k2 _ _ _ d,d1,d2⟩ ⟨ps,oc,L,t,hP,hf,hc,d1,d2⟩ O (I.hok.fresh O)
end
section
variable{K:Fg}{F:Am}{S:Sto}{H H':Hp}{P:Addr}{lp:Pos}{qual:Str}{ps:Array ad}
theorem Rp.tb(r:Rp K F S H)(h:S P=some (.tb lp qual)):∃ps,H P=some (.tbl ps)/\TbV H lp qual ps:=by
 obtain⟨ps,e,h1,h2⟩:=r.obj P _ h;exact⟨ps,e,h1,h2.imp id λ⟨c,oc,i,_,d⟩=>⟨c,oc,i,d⟩⟩
theorem Grow.ext(g:Grow P lp qual ps H H')(r:Rp K F S H)(h:S P=some (.tb lp qual))(hP:H P=some (.tbl ps))(tr:TriplesOk ps.toList):Ext S H S H'/\Rp K F S H':=by
 rcases g with rfl|⟨c,oc,B,t,i,j,rfl,L,J,D⟩
 ·exact⟨Ext.refl _ _,r⟩
 ·have ne:∀a o,H a=some o->a≠c:=λa o e z=>by rw[z,i] at e;cases e
  have x:Ext S H S (upd (upd H P (.tbl (ps++#[e6 lp.line,e6 lp.col,.ref c]))) c (cdO c oc)):=by
   refine⟨λa o h1 h2=>?_,λa ha=>?_,λa ha=>.inl ha⟩
   ·have z:a≠P:=λz=>by rw[z,h] at h1;cases h1
    rw[upd_ne (ne a o h2),upd_ne z];exact h2
   ·by_cases d:a=c
    ·rw[d,aQ7];exact λz=>by cases z
    ·rw[upd_ne d]
     by_cases v:a=P
     ·rw[v,aQ7];exact λz=>by cases z
     ·rw[upd_ne v];exact ha
  refine⟨x,λa o ha=>?_,λa ha=>?_⟩
  ·by_cases z:a=P
   ·subst z;rw[h] at ha;cases ha;refine⟨_,by rw[upd_ne (cY j),aQ7],?_,.inr ⟨c,oc,?_,?_,aQ7,B,t,L,J⟩⟩
    ·simpa using TriplesOk_snoc _ _ _ _ tr
    ·simpa using codeAmong_snoc (c:=.ref c) _ tr D
    ·rintro(z|z)
     ·exact z (r.sn i)
     ·obtain⟨⟨u,e,_⟩,_⟩:=r.frm c z;rw[i] at e;cases e
   ·have q:=r.obj a o ha;refine q.keep x.kp ?_;have d:a≠c:=λd=>by rw[d] at q;exact q.live i
    rw[upd_ne d,upd_ne z]
  ·obtain⟨⟨u,e,ct⟩,h2⟩:=r.frm a ha;have z:a≠P:=λz=>by rw[z,h] at h2;cases h2
   exact⟨⟨u,by rw[upd_ne (ne a u e),upd_ne z];exact e,ct⟩,h2⟩
end
section
variable{P:aF}{w:aR}{K:av}{mg:Str->Option ad}{base:bj}{k:Nat}
def bXk(K:av)(mg:Str->Option ad)(x:Str)(c:Addr):Prop:=∀(f:Addr) (o:Obj) (fd:cT),mg x=some (.ref f)->K.lookup f=some o->o.data=.func fd->fd.code=.ref c
theorem fQ6{x:Str}{st:Stmt}{N ps:List Str}{sp:SpD}{c:Addr}(T:Tx K mg x st)(C:bXk K mg x c)(S:FnScope N ps (aQ3 st))
  (b:∀{f:Addr}{fd:cT},Fun K x x st f fd->Binds K fd ps []) (len:∀ds S Q,sp ds S Q->ds.length=ps.length)
  (h:∀ (f:Addr) (A:a8) (outer:List Env) (s:ah) (H:Hp) (E:XK),Room k (A.deeper (gX x (aQ3 st) s.heap.objs.size f (.ref c))) ->
   ∃t,PSsD K (cxOf CX0 P w K mg base N x (aQ3 st) f (.ref c) A outer s H E).nox (aZ3 st) t/\∀ds S Q,sp ds S Q->t (cZ8 Q) (aJ1 N ds) S):Df P w K mg base (k+1) x ps (spU K sp):=by
 obtain⟨f,fd,O,m⟩:=T.ex;refine⟨f,fd,?_,b O,O.kp,m⟩;obtain⟨oc,od,kV,doc,pm,an,L,ct,Z,rfl,lk,J⟩:=O.ex;obtain rfl:L=.ref c:=C f _ _ m lk rfl;refine eX4 lk J S (λY H Q E z=>by obtain⟨F,S,ds,QD,r,l,i,c⟩:=z;rw[l.length];exact len ds S QD i) (λA outer s H Y Q E' hr z=>?_)
 obtain⟨F,S,ds,QD,r,l,i,c⟩:=z;obtain⟨t,h1,h2⟩:=h f A outer s H E' hr;have fin:∀v d H' S',Ext S H S' H'->Rp K F S' H'->RepV K (mt S' F) H' d v->rtD QD d S'->Q v H':=λv d H' S' B j v1 U=>by
  obtain⟨d',S2,D,fz,q⟩:=U;exact c v d' H' S2 (B.trans (Ext.less D)) (j.less D) ((cJ4 j D fz).1 v v1) q
 exact⟨_,h1.o.nox,F,S,aJ1 N ds,cZ8 QD,r,bZ9 l,h2 ds S QD i,fun Γ' S' σ' H' B j g1 q=>fin .non .non H' S' B j (by unfold RepV;rfl) q,fin,λ_ _ _ _ _ _ _ q=>q.elim,λ_ _ _ _ _ _ _ q=>q.elim⟩
end
section
variable{prog:aF}{w:aR}{A:a8}{R:Result->ah->Prop}{q a I S:Addr}{n:Nat}{kf:Nat->Int}{Pv:Nat->ad->Prop}{G:ah->Prop}
abbrev gB(kf:Nat->Int):Nat->Nat->Bool:=λi j=>decide (kf i>kf j)
structure Mx(prog:aF)(w:aR)(A:a8)(q a I S:Addr)(n:Nat)(kf:Nat->Int)(Pv:Nat->ad->Prop)(G:ah->Prop):Prop where
 hh:A.in1.handled=none
 aI:a≠I
 SI:S≠I
 tup:∀s,G s->∃its:List ad,s.heap.IsTuple a its.toArray/\its.length=n/\∀(i:Nat) v,its[i]?=some v->Pv i v
 keep:∀(s:ah) h' tk',G s->(∀b o,b≠I->b≠S->s.heap.get? b=some o->h'.get? b=some o)->G {s with heap:=h',toks:=tk'}
 turn:∀i v (s:ah) oI oS,Pv i v->G s->s.heap.get? I=some oI->s.heap.get? S=some oS->aH (aE prog w) A.in1 (call (.ref q) [v]) (λx s'=>G s'/\(∃t,x=.int (kf i) t)/\s'.heap.get? I=some oI/\s'.heap.get? S=some oS) (λ_ _=>False) s
theorem Mx.loop(M:Mx prog w A q a I S n kf Pv G)(fin:∀v s,Pv (cN (gB kf) (n-1)) v->G s->R (.ok (.ret v)) s) :
  ∀(left j:Nat) (s:ah) (vb:ad) (tb:Tok) (c:Nat),j+1+left=n->G s->s.heap.IsTupleIter I a (j+1)->Pv (cN (gB kf) j) vb->s.heap.get? S=some (bO "list" #[vb,.int (kf (cN (gB kf) j)) tb] c) ->
   eF (aE prog w) A (.builtin "max.loop" ⟨[.ref I,.ref q,.ref S],[]⟩) R s:=by
 have word:(toString "max"++toString ".loop":String)="max.loop":=by decide
 intro left
 induction left with
 |zero =>
  intro j s vb tb c hj g it hb L;obtain⟨its,Z,hl,hp⟩:=M.tup s g;have W:=jp (prog:=prog) (w:=w) (A:=A.in1) M.hh I a M.aI its.toArray;have e:its.toArray.size=j+1:=by simp;omega
  rw[e] at W;refine ci F.entry_max_loop ?_;rw[bJ F.plain_max_loop _];show aH (aE prog w) A.in1 (seqItems? (.ref S)>>=_) _ _ s;refine aa (eK L rfl ?_);show aH (aE prog w) A.in1 (jq (fi (.ref I)) _>>=_) _ _ s;refine aa (fu (W.done s _ _ ⟨it,Z⟩ λh1 z J=>?_));have D:=J S _ (by simpa using M.SI) L
  show aH (aE prog w) A.in1 (updateSeq S (λ_=>#[])>>=_) _ _ _;refine aa ?_;refine eY D rfl (aa (iq (ae (fin vb _ ?_ ?_))))
  ·have e:n-1=j:=by omega
   rw[e];exact hb
  ·exact M.keep s _ z g λb o hI hS e=>(bo _ _ (cY hS)).trans (J b o (by simpa using hI) e)
 |succ left ih =>
  intro j s vb tb c hj g it hb L;obtain⟨its,Z,hl,hp⟩:=M.tup s g;have W:=jp (prog:=prog) (w:=w) (A:=A.in1) M.hh I a M.aI its.toArray;refine ci F.entry_max_loop ?_;rw[bJ F.plain_max_loop _];show aH (aE prog w) A.in1 (seqItems? (.ref S)>>=_) _ _ s;refine aa (eK L rfl ?_);show aH (aE prog w) A.in1 (jq (fi (.ref I)) _>>=_) _ _ s;refine aa (fu (W.item (j+1) s _ _ (by simp;omega) ⟨it,Z⟩ λv h1 z hv O J=>?_))
  have D:=J S _ (by simpa using M.SI) L
  have g1:=M.keep s h1 z g λb o hI _ e=>J b o (by simpa using hI) e
  obtain⟨U,i1,i2,i3⟩:=O.1;have pv:Pv (j+1) v:=hp _ _ (by simpa using hv)
  show aH (aE prog w) A.in1 (jq (fv [v] (call (.ref q) [v])) _>>=_) _ _ _;refine aa (fu (bu (cK (M.turn (j+1) v _ U _ pv g1 i1 D) (λx s2 he=>?_) λ_ _ hF=>hF.elim)));obtain⟨g2,⟨d,rfl⟩,i4,B⟩:=he;have Y:s2.heap.IsTupleIter I a (j+1+1):=⟨U,i4,i2,i3⟩;show aH (aE prog w) A.in1 (jq (fv [v,.int (kf (j+1)) d] (richCompare .Gt (.int (kf (j+1)) d) (.int _ tb)>>=_)) _>>=_) _ _ _;refine aa (fu (bu (aa (CmpOf.ints_gt (prog:=prog) (w:=w) (A:=A.in1) (P:=λi v=>∃t,v=.int (kf i) t) kf (λi v h=>h) (j+1) (cN (gB kf) j) _ _ _ _ _ ⟨d,rfl⟩ ⟨tb,rfl⟩ ?_))));refine aa (bu (dI (aa (iq (ae ?_)))));show aH (aE prog w) A.in1 (if decide (kf (j+1)>kf (cN (gB kf) j))=true then _ else _) _ _ _
  cases e:decide (kf (j+1)>kf (cN (gB kf) j)) with
  |true =>
   rw[if_pos rfl];refine aa ?_;refine eY B rfl (aa (iq ?_));rw[word];have hs3:(s2.heap.update S (bI λ_=>#[v,.int (kf (j+1)) d])).get? S=some (bO "list" #[v,.int (kf (j+1)) d] _):=ef B λ_=>#[v,.int (kf (j+1)) d];have N:cN (gB kf) (j+1)=j+1:=by simp only[cN,gB,e,if_true]
   refine ae ⟨cZ F.plain_max_loop _,ih (j+1) _ v d _ (by omega) (M.keep s2 _ s2.toks g2 λb o _ hS e=>(bo _ _ (cY hS)).trans e) ⟨U,(bo _ _ M.SI).trans i4,i2,i3⟩ (by rw[N];exact pv) (by rw[N];exact hs3)⟩
  |false =>
   rw[if_neg (by simp)]
   refine aa (iq ?_);rw[word];have N:cN (gB kf) (j+1)=cN (gB kf) j:=by simp only[cN,gB,e,aM,if_false]
   refine ae ⟨cZ F.plain_max_loop _,ih (j+1) s2 vb tb c (by omega) g2 Y (by rw[N];exact hb) (by rw[N];exact B)⟩
theorem cJj{E:ad->ah->Prop}{Q:ad->ah->Prop}{s:ah}(M:Mx prog w A q a s.heap.objs.size (s.heap.objs.size+1) n kf Pv G)(hn:0<n)(g:G s)(fin:∀v s,Pv (cN (gB kf) (n-1)) v->G s->Q v s) :
  aH (aE prog w) A (call (.builtin "max") [.ref a] [(Str.ofString "key",.ref q)]) Q E s:=by
 have word:(toString "max"++toString ".loop":String)="max.loop":=by decide
 obtain⟨its,J,hl,hp⟩:=M.tup s g;refine kmk_tree F.kind_max F.plain_max F.entry_max (kmk_max_key _ _) ?_;have bp:gO "max" ["key", "default"] 0 ⟨[],[(Str.ofString "key",.ref q)]⟩=pure [some (.ref q),none]:=rfl;show aH (aE prog w) A.in1 (gO "max" ["key", "default"] 0 ⟨[],[(Str.ofString "key",.ref q)]⟩>>=_) _ _ s;refine aa (wpAny_of_eq bp ?_);show aH (aE prog w) A.in1 (pure (jt a)>>=λitems=>iW items>>=_) _ _ s;refine aa (ae ?_);refine aa (ig J ?_);refine aa (bC ?_);rw[word];have hal:a<s.heap.objs.size:=let ⟨_,ho,_⟩:=J;aD ho
 let h0:=s.heap.push {cls:=.type "tuple_iterator",data:=.fields #[.ref a,.int 0 0]}
 have Z:h0.objs.size=s.heap.objs.size+1:=c8 _ _;show aH (aE prog w) A.in1 (again (Code.builtin "max.loop" ⟨[.ref s.heap.objs.size,.ref q,.ref h0.objs.size],[]⟩)) _ _ {s with heap:=h0.push (bO "list" #[] 0)}
 have j:(h0.push (bO "list" #[] 0)).get? (s.heap.objs.size+1)=some (bO "list" #[] 0):=by rw[<- Z];exact az _ rfl
 have Y:∀b o,s.heap.get? b=some o->(h0.push (bO "list" #[] 0)).get? b=some o:=λb o e=>af _ (af _ e);have D:(h0.push (bO "list" #[] 0)).IsTupleIter s.heap.objs.size a 0:=⟨_,af _ (az _ rfl),rfl,rfl⟩;rw[Z];have W:=jp (prog:=prog) (w:=w) (A:=A.in1) M.hh s.heap.objs.size a M.aI its.toArray;refine ae ⟨cZ F.plain_max_loop _,ci F.entry_max_loop ?_⟩;rw[bJ F.plain_max_loop _];show aH (aE prog w) A.in1 (seqItems? (.ref (s.heap.objs.size+1))>>=_) _ _ {s with heap:=h0.push (bO "list" #[] 0)}
 refine aa (eK j rfl ?_);show aH (aE prog w) A.in1 (jq (fi (.ref s.heap.objs.size)) _>>=_) _ _ {s with heap:=h0.push (bO "list" #[] 0)}
 refine aa (fu (W.item 0 _ _ _ (by simp;omega) ⟨D,J.at λo e=>Y _ o e⟩ λv h1 z hv B U=>?_))
 have N:=U (s.heap.objs.size+1) _ (by simp) j
 have g1:=M.keep s h1 z g λb o hI _ e=>U b o (by simpa using hI) (Y b o e)
 obtain⟨O,i1,i2,i3⟩:=B.1;have pv:Pv 0 v:=hp _ _ (by simpa using hv)
 show aH (aE prog w) A.in1 (jq (fv [v] (call (.ref q) [v])) _>>=_) _ _ _;refine aa (fu (bu (cK (M.turn 0 v _ O _ pv g1 i1 N) (λx s2 he=>?_) λ_ _ hF=>hF.elim)));obtain⟨g2,⟨d,rfl⟩,i4,i⟩:=he;show aH (aE prog w) A.in1 (updateSeq (s.heap.objs.size+1) (λ_=>#[v,.int (kf 0) d])>>=_) _ _ _;refine aa ?_;refine eY i rfl ?_;rw[word];have L:(s2.heap.update (s.heap.objs.size+1) (bI λ_=>#[v,.int (kf 0) d])).get? (s.heap.objs.size+1)=some (bO "list" #[v,.int (kf 0) d] _):=ef i λ_=>#[v,.int (kf 0) d];exact ae ⟨cZ F.plain_max_loop _,M.loop (R:=wants Q E) fin (n-1) 0 _ v d _ (by omega) (M.keep s2 _ s2.toks g2 λb o _ hS e=>(bo _ _ (cY hS)).trans e) ⟨O,(bo _ _ M.SI).trans i4,i2,i3⟩ pv L⟩
end
def dZ9(X:Cx)(s:ah)(H:Hp)(env:Env)(x:Str):Cx:={X with A:=X.A.in1.deeper env,N:=x::X.N,s₀:=s,H₀:=H,env:=env,outer:=X.stack,stack:=env::X.stack,ex:=[],calm:=true,fn:=λ_=>false,pn:=[],xe:=λ_ _=>False}
structure LamOk(X:Cx)(x z:Str)(scope:Scope)(c:Addr):Prop where
 kind:scope.kind=.function
 co:scope.isCoroutine=false
 gen:scope.isGenerator=false
 par:scope.names.lookup x=some .local
 all:∀p∈scope.names,p.2≠.cell/\(p.2=.local->p.1=x)/\(p.2=.free->p.1=z)
 xN:x∉X.N
 fr:X.env.cells.lookup z=some c
 zc:X.env.kindOf z=some .cell
abbrev bZg(x:Str)(p:Pos):Arguments:={posonlyargs:=[],args:=[{arg:=x,annotation:=none,pos:=p}],vararg:=none,kwonlyargs:=[],kw_defaults:=[],kwarg:=none,defaults:=[]}
abbrev cQj(scope:Scope)(L f c':Addr)(z:Str)(c:Addr)(qual:Str):Env:=newEnv scope L aZ [(z,c)] (qual ++ ".<locals>.") (some f) (.ref c') none gT
section
variable{X:Cx}{pins:List (Addr×Obj)}{σ:St}{H:Hp}{s:ah}
theorem eQk{x z:Str}{scope:Scope}{c c' f:Addr}{qual:Str}{v:ad}{pv:V}{h1:bj}{tk:Tok}(O:LamOk X x z scope c)(hc:X.calm=true)(I:Inv X pins σ H s)(rv:RelV pv v)
  (hn:h1.Ns s.heap.objs.size (λy=>[(x,v)].reverse.lookup y)) (hs:dP s.heap.objs.size (s.heap.push {cls:=.type "frame",data:=.dict #[]}) h1) :
  Inv (dZ9 X s H (cQj scope s.heap.objs.size f c' z c qual) x) [] (some pv::σ) H {s with heap:=h1,toks:=tk}:=by
 have J:∀b o,s.heap.get? b=some o->h1.get? b=some o:=λb o e=>hs.extBut b o (Nat.ne_of_lt (aD e)) (af _ e);have one:∀y d,[(z,c)].lookup y=some d->y=z/\d=c:=λy d e=>by
  rw[cu] at e
  split at e
  ·rename_i q;cases e;exact⟨fP q,rfl⟩
  ·cases e
 obtain⟨m,m1,Z⟩:=I.loc;have j:∀ y k,scope.names.lookup y=some k->k≠.cell/\(k=.local->y=x)/\(k=.free->y=z):=λy k e=>O.all (y,k) (dN e);refine⟨⟨I.ok.mod,O.kind,rfl,rfl,Nat.le_refl _,λy Y d h h'=>?_,λy D=>?_,λy d h=>(nomatch h),λ_=>I.ok.hd hc,Around.frames_deeper (show X.A.in1.frames=some X.stack from I.ok.frames),I.ok.gd,.inr ⟨rfl,rfl⟩,λb h=>(nomatch h),I.bs,Nat.le_trans I.ok.bsz I.sz,λb o _ h=>(nomatch h),λb h=>(nomatch h),I.stack,I.stkFree⟩,
  rfl,I.bare,Un.kept J,⟨_,hn,λi y w h1 h2 h3=>?_⟩,λy d h=>?_,I.hok.fresh (Nat.le_refl _),λy d h=>?_,λp hp=>(nomatch hp),I.hok.kept J,?_⟩
 ·rw[(one y d h).1,(one Y d h').1]
 ·rcases D with D|D
  ·exact absurd rfl (j y _ D).1
  ·obtain rfl:=(j y _ D).2.2 rfl;exact⟨c,gk ..⟩
 ·cases i with
  |zero =>
   have e1:x=y:=aS h1;have e2:pv=w:=aS (aS h2);subst e1 e2;exact⟨v,rv,.inl ⟨O.par,gk ..⟩⟩
  |succ i =>
   have h1:X.N[i]?=some y:=h1;have h2:σ[i]?=some (some w):=h2;have L:scope.names.lookup y=some .free/\y=z:=by
    rcases h3 with q|q|q
    ·exact absurd (ao h1) (by rw[(j y _ q).2.1 rfl];exact O.xN)
    ·exact absurd rfl (j y _ q).1
    ·exact⟨q,(j y _ q).2.2 rfl⟩
   obtain⟨q,rfl⟩:=L;obtain⟨u,r,l⟩:=Z i y w h1 h2 (.inr (.inl O.zc));rcases l with⟨l,_⟩|⟨_,d,hd,B⟩
   ·rw[O.zc] at l;cases l
   ·rw[O.fr] at hd;cases hd;obtain⟨o,U,hd⟩:=B;exact⟨u,r,.inr ⟨.inr q,c,gk ..,o,J _ _ U,hd⟩⟩
 ·obtain⟨rfl,rfl⟩:=one y d h;obtain⟨w,o,U,hw⟩:=I.cell _ _ O.fr;exact⟨w,o,J _ _ U,hw⟩
 ·obtain⟨rfl,rfl⟩:=one y d h;exact I.freeC _ _ O.fr
 ·show σ.length+1=X.N.length+1;rw[I.len]
theorem eQl{x z:Str}{scope:Scope}{c c' f:Addr}{qual:Str}{v pm ctv:ad}{pv:V}{body:Expr}{p0:Pos}{t:TE}{Q:VK}(O:LamOk X x z scope c)(hc:X.calm=true)(hroom:X.A.in1.depth<gV)(I:Inv X pins σ H s)
  (ho:s.heap.get? f=some (jg "<lambda>" qual (bZg x p0) body scope [(z,c)] pm c' ctv)) (hcd:s.heap.CodeRec (.ref c') qual) (rv:RelV pv v)
  (hbd:∀(c':Addr) (f:Addr) (pm ctv v:ad),bindArgs (jr "<lambda>" qual (bZg x p0) body scope [(z,c)] pm (.ref c') ctv) ⟨[v],[]⟩=pure [(x,v)])
  (hb:∀L,PE (dZ9 X s H (cQj scope L f c' z c qual) x) body t) (q:t (some pv::σ) H Q) :
  aH (aE X.prog X.w) X.A.in1 (call (.ref f) [v]) (CE X.stack X.prog X.w H s Q) (λ_ _=>False) s:=by
 refine wpAny_call (PySem.W.kla_callFunE hroom ho rfl O.co O.gen rfl hcd ?_);have d:=hbd c' f pm ctv v;rw[d];refine ae (wpAny_newFunctionEnv (λy j=>(O.all y j).1) (λy j=>by rw[ay.mp j];exact O.par) (λh1 N D=>?_) O.kind)
 have J:=eQk (tk:=s.toks+1) (f:=f) (c':=c') (qual:=qual) O hc I rv N D;refine⟨J.nolimit,PySem.W.kla_codeExpr ?_⟩;refine cK (hb _ [] _ _ _ Q J q) (λu s' ⟨y,H',i,r,B⟩=>?_) λ_ _ z=>c6 z;exact⟨y,H',i.os,i.bare,i.base,i.hok,r,B⟩
end
section
variable{X:Cx}{pins:List (Addr×Obj)}{σ:St}{H:Hp}{s:ah}
theorem Inv.turned2{h':bj}{t':Nat}{i j:Addr}(I:Inv X pins σ H s)(k:∀b o,b≠i->b≠j->s.heap.get? b=some o->h'.get? b=some o)(hi:H i=none)(hj:H j=none)
  (ai:X.s₀.heap.objs.size<=i/\i≠X.env.locals/\(∀x c,X.env.cells.lookup x=some c->c≠i)/\∀p∈X.pn++pins,p.1≠i) (aj:X.s₀.heap.objs.size<=j/\j≠X.env.locals/\(∀x c,X.env.cells.lookup x=some c->c≠j)/\∀p∈X.pn++pins,p.1≠j):Inv X pins σ H {s with heap:=h',toks:=t'}:=by
 have D:∀b u,H b=some u->b≠i/\b≠j:=λb u e=>⟨λz=>(by rw[z,hi] at e;cases e),λz=>(by rw[z,hj] at e;cases e)⟩
 have go:∀b o,b∉[i,j]->s.heap.get? b=some o->h'.get? b=some o:=λb o d=>k b o (λz=>d (by simp[z])) (λz=>d (by simp[z]))
 refine I.call (d':=s.drawn) (g':=s.gens) (ch:=[i,j]) ⟨λb o e _ _ d=>go b o d e,λb o e _ _ d=>⟨o.slots,go b o d e⟩,λ_ _ _ n _=>n,λb o e d=>⟨o,go b o d e⟩,λ_ _ e=>e,λ_ _ _ e=>e,λ_ ps e=>⟨#[],by rw[e];simp⟩⟩ (λb u e=>?_) I.bare λb B=>?_
 ·refine(I.hok b u e).stay (λc v d q=>?_) (λ_ q=>q) λ_ _ q=>q
  have:c≠i/\c≠j:=by
   rcases d with z|z
   ·rw[z];exact D b u e
   ·exact D c _ z
  exact k c v this.1 this.2 q
 ·rcases aK.mp B with rfl|B
  ·exact⟨.inr ai.1,ai.2⟩
  ·rw[ay.mp B];exact⟨.inr aj.1,aj.2⟩
theorem Inv.fresh4(I:Inv X pins σ H s){b:Addr}(h:s.heap.objs.size<=b):X.s₀.heap.objs.size<=b/\b≠X.env.locals/\(∀x c,X.env.cells.lookup x=some c->c≠b)/\∀p∈X.pn++pins,p.1≠b:=by
 refine⟨Nat.le_trans I.sz h,λz=>?_,λx c e z=>?_,λp d z=>?_⟩
 ·have:=I.lt
  exact absurd (Nat.lt_of_lt_of_le this h) (by rw[z];exact Nat.lt_irrefl _)
 ·obtain⟨v,o,i,_⟩:=I.cell x c e;exact absurd (Nat.lt_of_lt_of_le (aD i) h) (by rw[z];exact Nat.lt_irrefl _)
 ·exact absurd (Nat.lt_of_lt_of_le (aD (I.pin p d).1) h) (by rw[z];exact Nat.lt_irrefl _)
theorem Inv.nostack(I:Inv X pins σ H s){b:Addr}(h:s.heap.objs.size<=b):b∉frs X.stack:=λz=>by
 rcases aK.mp (I.stkSub b z) with e|e
 ·exact(I.fresh4 h).2.1 e
 ·exact I.nofs h e
end
section
variable{X:Cx}{K:Fg}{pos:Pos}{k:Nat}
def fZn(K:Fg)(P:Addr)(lp:Pos)(qual:Str)(te tb:TE):TE:=fun σ H Q=>te σ H λx H1=>∃ps,H1 P=some (.tbl ps)/\TbV H1 lp qual ps/\∀H2,Grow P lp qual ps H1 H2 ->
 ∃(a:Addr) (us:List V) (kf:Nat->Int) (Gd:Hp->Prop),x=.ref a/\us≠[]/\Gd H2/\(∀H3,Gd H3->SqT K H3 a us)/\(∀H3 c oc ps,Gd H3->H2 P=some (.tbl ps)->gS lp ps.toList=some (.ref c)->H2 c=some (cdO c oc)->H3 c=some (cdO c oc)) /\
  (∀H3 (i:Nat) u,Gd H3->us[i]?=some u->tb (some u::σ) H3 λy H4=>y=.int (kf i)/\Gd H4)/\∀H3 u,Gd H3->us[cN (gB kf) (us.length-1)]?=some u->Q u H3
theorem eQm{e body:Expr}{c cP P:Addr}{qual x z:Str}{scope:Scope}{p p0 lp kp:Pos}{te tb:TE}(hr:Room k X.A)(hg:Gl X "max")(hm:X.mg "max"=none)(he:PE X e te)(hcode:X.env.code=.ref cP)(T:TabF X.base X.mg cP P)(hq:X.env.qual ++ "<lambda>"=qual)
  (O:LamOk X x z scope c) (hcl:gZ scope X.env=pure [(z,c)])
  (hbd:∀(c' f:Addr) (pm ctv v:ad),bindArgs (jr "<lambda>" qual (bZg x p0) body scope [(z,c)] pm (.ref c') ctv) ⟨[v],[]⟩=pure [(x,v)])
  (hb:∀s H L f c',PE (dZ9 X s H (cQj scope L f c' z c qual) x) body tb) (hK:X.K=K:=by rfl) (hc:X.calm=true:=by rfl)
  (g1:cD pos (aC [e] X.env)=[(false,eval e X.env)]:=by rfl) (g2:(jj pos (gA [⟨some "key",.Lambda (bZg x p0) body scope lp,kp⟩] X.env)).filterMap (·.1)=[("key":Str)]:=by rfl) :
  PE X (.Call (.Name "max" p) [e] [⟨some "key",.Lambda (bZg x p0) body scope lp,kp⟩] pos) (fZn K P lp qual te tb):=by
 subst hK;intro pins s σ H Q I h;refine fM (ld_blt I hg hm (show cb "max"=some (.builtin "max") from rfl) ?_ (by decide) (by decide))
 have h3:(cD pos (aC [e] X.env)).any (·.1)=false:=by rw[g1];rfl
 have h4:cD pos (aC [e] X.env)=(false,eval e X.env)::cD pos (aC [] X.env):=by rw[g1];rfl
 refine callWith_kw ?_ h4 h3 rfl rfl;rw[g1,g2];refine Calls.spliced_cons (thn (he pins s σ H _ I h) λv s1 ⟨y,H1,I1,r1,ps,hP,tb,q1⟩=>Calls.spliced_nil ?_);refine kws_cons (dZ8 I1 hP tb hcode T hq hcl rfl λf c' pm ctv H2 s2 B gr Z hcr it hf hfn=>kws_nil ?_);obtain⟨a,us,kf,Gd,rfl,ne,g2,gt,gc,gtu,gf⟩:=q1 H2 gr;cases r1;have hh:X.A.in1.handled=none:=by simp[B.ok.hd hc]
 obtain⟨ps',oc,vs',t',i1,i2,i3,i4,i5⟩:=it;have zI:=B.fresh4 (Nat.le_refl _);have zS:=B.fresh4 (Nat.le_succ _);have fI:=B.hok.fresh (Nat.le_refl _);have fS:=B.hok.fresh (Nat.le_succ _);have lf:f<s2.heap.objs.size:=aD Z;have nss:∀b,s2.heap.objs.size<=b->b∉frs X.stack:=λb=>B.nostack;obtain⟨its0,rv0,pl0,_⟩:=B.tuple (gt H2 g2);have ha:a<s2.heap.objs.size:=let ⟨_,Z,_⟩:=pl0;aD Z
 refine cJj (n:=us.length) (kf:=kf) (Pv:=λi v=>∃u,us[i]?=some u/\RelV u v) (G:=λs3=>∃d,Inv X pins σ d s3/\Gd d/\s3.heap.get? f=some (jg "<lambda>" qual (bZg x p0) body scope [(z,c)] pm c' ctv)/\d f=none/\d s2.heap.objs.size=none/\d (s2.heap.objs.size+1)=none)
  ⟨hh,Nat.ne_of_lt ha,Nat.succ_ne_self _,?_,?_,?_⟩ (dq.mpr ne) ⟨H2,B,g2,Z,hfn,fI,fS⟩ ?_
 ·rintro s3 ⟨d,j,g3,_⟩;obtain⟨its,J,pl,_⟩:=j.tuple (gt d g3);refine⟨its,pl,J.length.symm,λi v hv=>?_⟩;have hi:=(aA.mp hv).1;obtain⟨w,h1,h2⟩:=J.get (ag (show i<us.length by rw[J.length];exact hi))
  rw[hv] at h1;cases h1;exact⟨_,ag (show i<us.length by rw[J.length];exact hi),h2⟩
 ·rintro s3 h' tk' ⟨d,j,g3,N,f3,Y,U⟩ hk;exact⟨d,j.turned2 hk Y U zI zS,g3,hk f _ (Nat.ne_of_lt lf) (Nat.ne_of_lt (Nat.lt_succ_of_lt lf)) N,f3,Y,U⟩
 ·rintro i v s3 oI oS ⟨u,hu,ru⟩ ⟨d,j,g3,N,f3,Y,U⟩ eI eS;have hoc:s3.heap.get? c'=some oc:=(j.hok c' _ (gc d c' oc ps' g3 i1 i2 i3)).1;refine cK (eQl (Q:=λy D=>y=.int (kf i)/\Gd D) O hc (show X.A.depth<gV from hr.depth) j N ⟨c',oc,vs',t',rfl,hoc,i4,i5⟩ ru hbd (λL=>hb _ _ L f c') (gtu d i u g3 hu)) (λx s4 ce=>?_) λ_ _ z=>z
  obtain⟨y,D,os,bare,un,hok,r,rfl,g4⟩:=ce;have kp:∀b o,s2.heap.objs.size<=b\/b=f->s3.heap.get? b=some o->d b=none->s4.heap.get? b=some o/\D b=none:=λb o hb e n=>by
   refine⟨un.keep b o e n (λz=>?_) (by simp),un.free b o e n (by simp)⟩
   rcases hb with hb|rfl
   ·exact nss b hb z
   ·exact I1.nostack hf z
  have k1:=kp _ _ (.inr rfl) N f3;have k2:=kp _ _ (.inl (Nat.le_refl _)) eI Y;have k3:=kp _ _ (.inl (Nat.le_succ _)) eS U;have I4:Inv X pins σ D s4:=j.call' (ch:=[]) os un hok bare (λb hb=>(nomatch hb))
  exact⟨⟨D,I4,g4,k1.1,k1.2,k2.2,k3.2⟩,let ⟨t,e⟩:=(show ∃t,x=js (kf i) t from r);⟨t,e⟩,k2.1,k3.1⟩
 ·rintro v s3 ⟨u,hu,ru⟩ ⟨d,j,g3,_⟩;exact⟨u,d,j,ru,gf d u g3 hu⟩
def fZo(P:Addr)(lp:Pos)(qual:Str)(te tb:ED):ED:=fun Γ S Q=>te Γ S λd S1=>S1 P=some (.tb lp qual)/\∃(xs:List D) (kf:Nat->Int),d=.tup xs/\xs≠[]/\(∀(i:Nat) x,xs[i]?=some x->tb (some x::Γ) S1 λy S2=>y=.int (kf i)/\S2=S1)/\∀x,xs[cN (gB kf) (xs.length-1)]?=some x->Q x S1
theorem fQ7{e body:Expr}{c cP P:Addr}{qual x z:Str}{scope:Scope}{p p0 lp kp:Pos}{te tb:ED}(hr:Room k X.A)(hg:Gl X "max")(hm:X.mg "max"=none)(T:TabF X.base X.mg cP P)(he:PD K X e te)
  (O:LamOk X x z scope c) (hb:∀s H L f c',PD K (dZ9 X s H (cQj scope L f c' z c qual) x) body tb) (hcode:X.env.code=.ref cP:=by rfl) (hq:X.env.qual ++ "<lambda>"=qual:=by rfl) (hcl:gZ scope X.env=pure [(z,c)]:=by rfl)
  (hbd:∀(c' f:Addr) (pm ctv v:ad),bindArgs (jr "<lambda>" qual (bZg x p0) body scope [(z,c)] pm (.ref c') ctv) ⟨[v],[]⟩=pure [(x,v)]:=by intros;rfl) (hK:X.K=K:=by rfl) (hc:X.calm=true:=by rfl)
  (g1:cD pos (aC [e] X.env)=[(false,eval e X.env)]:=by rfl) (g2:(jj pos (gA [⟨some "key",.Lambda (bZg x p0) body scope lp,kp⟩] X.env)).filterMap (·.1)=[("key":Str)]:=by rfl) :
  PD K X (.Call (.Name "max" p) [e] [⟨some "key",.Lambda (bZg x p0) body scope lp,kp⟩] pos) (fZo P lp qual te tb) :=
 .of (eQm hr hg hm he.o hcode T hq O hcl hbd (λs H L f c'=>(hb s H L f c').o) hK hc g1 g2) fun σ H Q z0=>z0.el λF S Γ QD r g q c =>
  ⟨F,S,Γ,_,r,g,q,λv d H1 J x1 r1 v1 z1=>by
   obtain⟨hS,xs,kf,rfl,ne,turn,q1⟩:=z1;obtain⟨ps,hP,tb⟩:=r1.tb hS;refine⟨ps,hP,tb,λH2 gr=>?_⟩;obtain⟨U,r2⟩:=gr.ext r1 hS hP tb.1;have v2:=v1.ext U;unfold RepV at v2;obtain⟨a,us,rfl,ta,l⟩:=v2;have g2:=(g.ext x1).ext U;have c2:=Cn.shift c (x1.trans U);refine⟨a,us,kf,λB=>Ext J H2 J B/\Rp K F J B,rfl,λz=>ne (bX (by rw[<- l.length,z];rfl)),⟨Ext.refl _ _,r2⟩,?_,?_,?_,?_⟩
   ·rintro B ⟨j,D⟩;exact(ta.keep j.kp).sq
   ·rintro B c oc ps' ⟨j,D⟩ h1 h2 h3;obtain⟨ps2,e1,_,h⟩:=r2.obj P _ hS;rw[h1] at e1;cases e1;rcases h with h|⟨c1,oc1,e2,nm,e3,_⟩
    ·rw[h2] at h;cases h
    ·rw[h2] at e2;cases e2;refine j.keep c _ ?_ h3;cases e:J c with
     |none=>rfl
     |some o=>exact absurd (.inl (by rw[e];exact λz=>by cases z)) nm
   ·rintro B i u ⟨j,D⟩ Z;obtain⟨xd,N,Y⟩:=l.get' Z;exact⟨F,J,some xd::Γ,_,D,⟨u,σ,rfl,Y.ext j,g2.ext j⟩,turn i xd N,λv d H4 S4 x4 r4 v4 ⟨ed,es⟩=>by
     subst ed es;unfold RepV at v4;exact⟨v4,j.trans x4,r4⟩⟩
   ·rintro B u ⟨j,D⟩ Z;obtain⟨xd,N,Y⟩:=l.get' Z;rw[l.length] at N;exact(Cn.shift c2 j).here D (Y.ext j) (q1 xd N)⟩
end
end L2
namespace Toy
variable{α:Type}
end Toy
namespace Toy
variable{α:Type}
end Toy
namespace Toy
variable{β:Type}[DecidableEq β]
theorem sorted_eq{lt:β->β->Prop}(irr:∀a,¬ lt a a)(asy:∀a b,lt a b->¬ lt b a):∀{l m:List β},l.Pairwise lt->m.Pairwise lt->(∀n,n∈l↔n∈m)->l=m
 |[],[],_,_,_=>rfl
 |[],b::m,_,_,h=>by have:=(h b).mpr aq;simp at this
 |a::l,[],_,_,h=>by have:=(h a).mp aq;simp at this
 |a::l,b::m,B,hm,h=>by
  obtain⟨la,j⟩:=aY.mp B;obtain⟨v,i⟩:=aY.mp hm;have e:a=b:=by
   rcases aK.mp ((h a).mp aq) with z|z
   ·exact z
   ·rcases aK.mp ((h b).mpr aq) with y|y
    ·exact y.symm
    ·exact absurd (v a z) (asy _ _ (la b y))
  subst e
  congr 1
  refine sorted_eq irr asy j i λn=>⟨λd=>?_,λd=>?_⟩
  ·rcases aK.mp ((h n).mp (au _ d)) with z|z
   ·subst z;exact absurd (la n d) (irr n)
   ·exact z
  ·rcases aK.mp ((h n).mpr (au _ d)) with z|z
   ·subst z;exact absurd (v n d) (irr n)
   ·exact z
end Toy
namespace Toy
variable{α β:Type}
end Toy
namespace L2
open PySem
abbrev Srt(t:List Str):Prop:=t.Pairwise λa b=>HT.ltS a b=true
abbrev SrtT(ts:List (List Str)):Prop:=ts.Pairwise λa b=>HT.lexS a b=true
theorem Srt.ext{l m:List Str}(hl:Srt l)(hm:Srt m)(h:∀n,n∈l↔n∈m):l=m :=
 Toy.sorted_eq (lt:=λa b=>HT.ltS a b=true) (λa=>by rw[HT.ltS_ir];simp) (λa b h=>by rw[HT.ltS_as h];simp) hl hm h
theorem SrtT.ext{l m:List (List Str)}(hl:SrtT l)(hm:SrtT m)(h:∀n,n∈l↔n∈m):l=m :=
 Toy.sorted_eq (lt:=λa b=>HT.lexS a b=true) (λa=>by rw[bZa];simp) (λa b h=>by rw[HT.lexS_as h];simp) hl hm h
theorem Srt.nodup{t:List Str}(h:Srt t):t.Nodup:=h.imp λ{a b} h e=>by subst e;rw[HT.ltS_ir] at h;cases h
theorem SrtT.nodup{t:List (List Str)}(h:SrtT t):t.Nodup:=h.imp λ{a b} h e=>by subst e;rw[bZa] at h;cases h
theorem cQk{t:List Str}(nd:t.Nodup)(h:t.Pairwise λx y=>leS x y=true):Srt t:=by
 induction t with
 |nil=>exact .nil
 |cons a t i =>
  rw[aY] at h;rw[bM] at nd;refine aY.mpr ⟨λb d=>?_,i nd.2 h.2⟩
  have:=h.1 b d
  unfold leS at this;rw[dl] at this;exact HT.ltS_tot this λe=>nd.1 (by rw[<- e];exact d)
theorem eQn{t:List (List Str)}(nd:t.Nodup)(h:t.Pairwise λx y=>leT x y=true):SrtT t:=by
 induction t with
 |nil=>exact .nil
 |cons a t i =>
  rw[aY] at h;rw[bM] at nd;refine aY.mpr ⟨λb d=>?_,i nd.2 h.2⟩
  have:=h.1 b d
  unfold leT at this;rw[dl] at this;exact HT.lexS_tot this λe=>nd.1 (by rw[<- e];exact d)
theorem aXw{l:List Str}(nd:l.Nodup):Srt (srS l):=cQk ((aZo l).nodup_iff.mpr nd) (bXf l)
theorem bZh{l:List (List Str)}(nd:l.Nodup):SrtT (srT l):=eQn ((aX3 l).nodup_iff.mpr nd) (dX6 l)
theorem bQ3{l:List Str}{x:Str}:x∈srS l↔x∈l:=(aZo l).mem_iff
theorem bJj{l:List (List Str)}{x:List Str}:x∈srT l↔x∈l:=(aX3 l).mem_iff
theorem dX9{l:List Str}(h:Srt l):srS l=l:=Srt.ext (aXw h.nodup) h λn=>bQ3
theorem cJk{l:List (List Str)}(h:SrtT l):srT l=l:=SrtT.ext (bZh h.nodup) h λn=>bJj
def dd{α:Type}[DecidableEq α]:List α->List α
 |[]=>[]
 |x::xs=>if x∈xs then dd xs else x::dd xs
theorem mem_dd{α:Type}[DecidableEq α]{x:α}:∀{l:List α},x∈dd l↔x∈l
 |[]=>Iff.rfl
 |y::l=>by
  unfold dd
  split
  ·next h =>
   rw[mem_dd,aK];exact⟨.inr,λz=>z.elim (λe=>by rw[e];exact h) id⟩
  ·rw[aK,aK,mem_dd]
theorem bZi{α:Type}[DecidableEq α]:∀l:List α,(dd l).Nodup
 |[]=>eM
 |y::l=>by
  unfold dd
  split
  ·exact bZi l
  ·next h=>exact bM.mpr ⟨λz=>h (mem_dd.mp z),bZi l⟩
def nms(ts:List (List Str)):List Str:=srS (dd ts.flatten)
theorem bJk(ts:List (List Str)):Srt (nms ts):=aXw (bZi _)
theorem mem_nms{ts:List (List Str)}{x:Str}:x∈nms ts↔∃t∈ts,x∈t:=by
 unfold nms;rw[bQ3,mem_dd,gv]
theorem dXa{ts:List (List Str)}{out:List Str}(h:Srt out)(m:∀x,x∈out↔∃t∈ts,x∈t):out=nms ts:=h.ext (bJk ts) λn=>(m n).trans mem_nms.symm
def mts{α:Type}[DecidableEq α](one row:List α):Bool:=row.any λd=>decide (d∈one)
def has{α:Type}[DecidableEq α](one row:List α):Bool:=row.all λd=>decide (d∈one)
theorem mts_iff{α:Type}[DecidableEq α]{one row:List α}:mts one row=true↔∃x∈row,x∈one:=by unfold mts;simp
theorem has_iff{α:Type}[DecidableEq α]{one row:List α}:has one row=true↔∀x∈row,x∈one:=by unfold has;simp
def wo{α:Type}[DecidableEq α](one row:List α):List α:=one.filter λd=>!decide (d∈row)
theorem mem_wo{α:Type}[DecidableEq α]{one row:List α}{x:α}:x∈wo one row↔x∈one/\x∉row:=by unfold wo;rw[bL];simp
def lnk(ts:List (List Str))(row:List Str):List (List Str):=srT ((ts.filter λt=>has t row).map λt=>wo t row)
end L2
set_option maxHeartbeats 4000000
namespace L2
open PySem
structure Enc(α:Type) where
 e:α->D
 inj:∀{x y},e x=e y->x=y
 pl:∀x,plain (e x)=true
 dep:Nat
 ok:∀n x y,dep<=n->okE n (e x) (e y)=true
 lt:α->α->Bool
 okl:∀n x y,dep<=n->okL n (e x) (e y)=true
 lte:∀n x y,dep<=n->ltN n (e x) (e y)=lt x y
def lexG{α:Type}[DecidableEq α](lt:α->α->Bool):List α->List α->Bool
 |[],[]=>false
 |[],_::_=>true
 |_::_,[]=>false
 |x::xs,y::ys=>if x=y then lexG lt xs ys else lt x y
def strE:Enc Str where
 e:=D.str
 inj:=λh=>by injection h
 pl:=λ_=>rfl
 dep:=0
 ok:=λn x y _=>by cases n <;> rfl
 lt:=HT.ltS
 okl:=λn x y _=>by cases n <;> rfl
 lte:=λn x y _=>by cases n <;> rfl
def tupE{α:Type}[DecidableEq α](E:Enc α):Enc (List α) where
 e:=λl=>.tup (l.map E.e)
 inj:=λ{x y} h=>by
  injection h with h
  exact bJf (λa b e=>E.inj e) h
 pl:=λl=>by
  show aZj (l.map E.e)=true
  induction l with
  |nil=>rfl
  |cons x l ih=>show(plain (E.e x)&&aZj (l.map E.e))=true;rw[E.pl,ih];rfl
 dep:=E.dep+1
 ok:=λn x y h=>by
  obtain⟨m,rfl⟩:∃m,n=m+1:=⟨n-1,by lia⟩
  show((x.map E.e).zip (y.map E.e)).all (λp=>okE m p.1 p.2)=true;rw[List.zip_map,ja,bY];exact λp _=>E.ok m p.1 p.2 (by lia)
 lt:=lexG E.lt
 okl:=λn x y h=>by
  obtain⟨m,rfl⟩:∃m,n=m+1:=⟨n-1,by lia⟩
  show okLs (okL m) m (x.map E.e) (y.map E.e)=true
  induction x generalizing y with
  |nil=>cases y <;> rfl
  |cons a x ih =>
   cases y with
   |nil=>rfl
   |cons b y =>
    show(okE m (E.e a) (E.e b)&&(if E.e a=E.e b then okLs (okL m) m (x.map E.e) (y.map E.e) else okL m (E.e a) (E.e b)))=true
    rw[E.ok m a b (by lia),iz]
    split
    ·exact ih y
    ·exact E.okl m a b (by lia)
 lte:=λn x y h=>by
  obtain⟨m,rfl⟩:∃m,n=m+1:=⟨n-1,by lia⟩
  show lexN (ltN m) (x.map E.e) (y.map E.e)=lexG E.lt x y
  induction x generalizing y with
  |nil=>cases y <;> rfl
  |cons a x ih =>
   cases y with
   |nil=>rfl
   |cons b y =>
    show(if E.e a=E.e b then lexN (ltN m) (x.map E.e) (y.map E.e) else ltN m (E.e a) (E.e b))=if a=b then lexG E.lt x y else E.lt a b
    by_cases hab:a=b
    ·subst hab;rw[if_pos rfl,if_pos rfl];exact ih y
    ·rw[if_neg λz=>hab (E.inj z),if_neg hab];exact E.lte m a b (by lia)
abbrev setE:Enc (List Str):=tupE strE
abbrev flE:Enc (List (List Str)):=tupE setE
section
variable{α:Type}[DecidableEq α]{E:Enc α}
theorem cQl:∀l:List α,aZj (l.map E.e)=true
 |[]=>rfl
 |x::l=>by show(plain (E.e x)&&aZj (l.map E.e))=true;rw[E.pl,cQl l];rfl
theorem fZp{x:α}{l:List α}:E.e x∈l.map E.e↔x∈l:=by
 rw[bW];exact⟨λ⟨y,h,e⟩=>by rw[<- E.inj e];exact h,λh=>⟨x,h,rfl⟩⟩
theorem in_e{neg:Bool}{x:α}{l:List α}[dm:Decidable (x∈l)]{d:D}{S:Sto}{Q:DK}(hE:E.dep<=8)(hd:sqIs S d (l.map E.e))(q:Q (.bl (if neg then !decide (x∈l) else decide (x∈l))) S):inD neg (E.e x) d S Q:=by
 refine⟨l.map E.e,hd,cQl l,by rw[ja,bY];exact λy _=>E.ok 8 y x hE,?_⟩
 rw[decide_eq_decide.mpr (fZp (E:=E) (x:=x) (l:=l))];exact q
theorem in_t{neg:Bool}{x:α}{l:List α}[dm:Decidable (x∈l)]{d:D}{S:Sto}{Q:Bool->Sto->Prop}(hE:E.dep<=8)(hd:sqIs S d (l.map E.e))(q:Q (if neg then !decide (x∈l) else decide (x∈l)) S):inD neg (E.e x) d S (λd S1=>∃b,d=.bl b/\Q b S1):=in_e hE hd ⟨_,rfl,q⟩
end
def fzIs(d:D)(xs:List D):Prop:=d=.tup xs\/d=.lst xs
theorem fzIs.sq{S:Sto}{d:D}{xs:List D}(h:fzIs d xs):sqIs S d xs:=by rcases h with rfl|rfl <;> rfl
end L2
namespace Toy
open PySem L2
def cQm:SpD:=λds S Q=>∃(α:Type) (_:DecidableEq α) (E:Enc α) (one row:List α) (d1 d2:D),ds=[d1,d2]/\E.dep<=4/\fzIs d1 (one.map E.e)/\fzIs d2 (row.map E.e)/\row.length<=9999/\Q (.bl (mts one row)) S
def bQp:SpD:=λds S Q=>∃(α:Type) (_:DecidableEq α) (E:Enc α) (one row:List α) (d1 d2:D),ds=[d1,d2]/\E.dep<=4/\fzIs d1 (one.map E.e)/\fzIs d2 (row.map E.e)/\row.length<=9999/\Q (.bl (has one row)) S
def aZq:SpD:=λds S Q=>∃(α:Type) (_:DecidableEq α) (E:Enc α) (one row:List α) (d1 d2:D),ds=[d1,d2]/\E.dep<=4/\fzIs d1 (one.map E.e)/\fzIs d2 (row.map E.e)/\one.length<=9999/\Q (.tup ((wo one row).map E.e)) S
end Toy
namespace L2
open PySem
theorem Srt.filter{l:List Str}(h:Srt l)(p:Str->Bool):Srt (l.filter p):=jA.filter p h
theorem dZa(xs:List D)(i:Nat):cutD xs (some ((i:Int)+1)) none=xs.drop (i+1):=by
 rcases Nat.lt_or_ge i xs.length with h|h
 ·have e:cutD xs (some ((i:Int)+1)) none=cutD (xs.map id) (some (((i+1:Nat):Int))) none:=by rw[gD];rfl
  rw[e,aJf,HT.sIx_none,HT.sIx_nat,Nat.min_eq_left (by lia),br (by rw[bn];exact Nat.le_refl _),gD]
 ·have e:cutD xs (some ((i:Int)+1)) none=cutD (xs.map id) (some (((i+1:Nat):Int))) none:=by rw[gD];rfl
  rw[e,aJf,HT.sIx_none,HT.sIx_nat,bG (by lia),bG (by lia),List.take_nil]
  rfl
end L2
namespace Toy
open PySem L2
end Toy
namespace L2
open PySem
end L2
namespace Toy
open PySem L2
end Toy
namespace L2
open PySem
end L2
namespace Toy
open PySem L2
end Toy
namespace L2
open PySem
end L2
namespace Toy
open PySem L2
end Toy
namespace L2
open PySem
open Toy
theorem fQ8{P:Prop}[Decidable P](h:P):D.bl (if false=true then !decide P else decide P)=D.bl true:=by rw[decide_eq_true h];rfl
theorem eQo{P:Prop}[Decidable P](h:P):D.bl (if true=true then !decide P else decide P)=D.bl false:=by rw[decide_eq_true h];rfl
end L2
namespace L2
open PySem
open Toy
theorem aJg(ts:List (List Str))(i:Nat):cutD (ts.map tupS) none (some (i:Int))=(ts.take i).map tupS:=by
 show((ts.map tupS).drop 0).take (HT.sIx (ts.map tupS).length (ts.map tupS).length (some ((i:Nat):Int))-0)=_;rw[HT.sIx_nat,fm,Nat.sub_zero,List.map_take];rcases Nat.le_total i (ts.map tupS).length with h|h
 ·rw[Nat.min_eq_left h]
 ·rw[Nat.min_eq_right h,dG,br h]
end L2
set_option maxHeartbeats 1000000
namespace L2
open PySem
def chF:List (List Str)->List (List Str)->List (List Str)
 |acc,[]=>acc
 |acc,t::ts=>chF (if acc.any (λo=>mts t o)=true then acc else acc++[t]) ts
def chs(ts:List (List Str)):List (List Str):=chF [] ts
def hmh(ts:List (List Str))(n:Str):Nat:=(ts.filter λt=>decide (n∈t)).length
def mst(ts:List (List Str))(ns:List Str):Str:=ns.getD (cN (gB λi=>(hmh ts (ns.getD i ⟨#[]⟩):Int)) (ns.length-1)) ⟨#[]⟩
def nmW(ts:List (List Str)):Str:=mst ts (nms (chs ts))
def goW(m:Nat)(ts:List (List Str)):Bool:=decide ((chs ts).length<m)&&(chs ts).any λt=>!t.isEmpty
def wayS(m:Nat):Nat->List (List Str)->List (Nat×Str×Nat)×List (List Str)
 |0,ts=>([],ts)
 |f+1,ts=>if goW m ts=true then (((chs ts).length,nmW ts,ts.length)::(wayS m f (lnk ts [nmW ts])).1,(wayS m f (lnk ts [nmW ts])).2) else ([],ts)
def tkW(r:List (Nat×Str×Nat)×List (List Str)):List Str:=r.1.map λs=>s.2.1
def pag(cs:List (List Str))(tk:List Str):List (List Str):=srT (cs.map λt=>srS (t++tk))
def flW(m:Nat)(r:List (Nat×Str×Nat)×List (List Str)):Option (List (List Str)):=if (chs r.2).length<m then none else some (pag ((chs r.2).take m) (tkW r))
def stD(s:Nat×Str×Nat):D:=.tup [.int (s.1:Nat),.str s.2.1,.int (s.2.2:Nat)]
def laD(us:List (List Str)):D:=.tup [.int ((chs us).length:Nat),.non,.int (us.length:Nat)]
def trD(r:List (Nat×Str×Nat)×List (List Str)):D:=.tup (r.1.map stD++[laD r.2])
def opT:Option (List (List Str))->D
 |none=>.non
 |some l=>.tup (l.map tupS)
def wayD(m:Nat)(ts:List (List Str)):D:=.tup [opT (flW m (wayS m 6 ts)),trD (wayS m 6 ts)]
def Ap2(l:List (List Str)):Prop:=l.Pairwise λa b=>∀x∈a,x∉b
theorem bJl:∀(ts acc:List (List Str)),∃l,chF acc ts=acc++l/\l.Sublist ts
 |[],acc=>⟨[],(a7 acc).symm,.slnil⟩
 |t::ts,acc=>by
  unfold chF
  split
  ·obtain⟨l,e,h⟩:=bJl ts acc;exact⟨l,e,h.cons t⟩
  ·obtain⟨l,e,h⟩:=bJl ts (acc++[t]);exact⟨t::l,by rw[e,aU];rfl,h.cons₂ t⟩
theorem aZx(ts:List (List Str)):(chs ts).Sublist ts:=by
 obtain⟨l,e,h⟩:=bJl ts [];unfold chs;rw[e];exact h
theorem cJl:∀(ts acc:List (List Str)),Ap2 acc->Ap2 (chF acc ts)
 |[],_,h=>h
 |t::ts,acc,h=>by
  unfold chF
  split
  ·exact cJl ts acc h
  ·next v =>
   refine cJl ts _ (a9.mpr ⟨h,a4 _ _,λa z b i x j d=>v ?_⟩);rw[ay] at i;subst i;exact dY.mpr ⟨a,z,mts_iff.mpr ⟨x,j,d⟩⟩
theorem dXb(ts:List (List Str)):Ap2 (chs ts):=cJl ts [] .nil
theorem eQp{l:List (List Str)}(h:Ap2 l)(hs:∀t∈l,t.Nodup):l.flatten.Nodup:=by
 induction l with
 |nil=>exact eM
 |cons t l j =>
  have h':=aY.mp h;rw[List.flatten_cons,da];refine⟨hs t aq,j h'.2 λu i=>hs u (au _ i),λx z y v e=>?_⟩;obtain⟨u,i,d⟩:=gv.mp v;exact h'.1 u i x z (e▸d)
theorem dZb{ts:List (List Str)}(he:∀t∈ts,Srt t):(chs ts).flatten.length<=(nms ts).length:=by
 have nd:=eQp (dXb ts) λt i=>(he t ((aZx ts).subset i)).nodup;refine nd.length_le_of_subset λx j=>?_;obtain⟨t,i,d⟩:=gv.mp j;exact mem_nms.mpr ⟨t,(aZx ts).subset i,d⟩
theorem bZj(bt:Nat->Nat->Bool):∀n,cN bt n<=n
 |0=>Nat.le_refl 0
 |n+1=>by
  have:=bZj bt n
  unfold cN
  split <;> omega
theorem cJm{ts:List (List Str)}{ns:List Str}(h:ns≠[]):mst ts ns∈ns:=by
 have d:0<ns.length:=dq.mpr h
 have:=bZj (gB λi=>(hmh ts (ns.getD i ⟨#[]⟩):Int)) (ns.length-1)
 unfold mst;rw[ak,ag (by omega)]
 exact dX _
theorem cJn{m:Nat}{ts:List (List Str)}(h:goW m ts=true):nms (chs ts)≠[]:=by
 unfold goW at h;rw[bb] at h;obtain⟨t,d,hne⟩:=dY.mp h.2;cases t with
 |nil=>cases hne
 |cons x t =>
  intro e
  have:x∈nms (chs ts):=mem_nms.mpr ⟨_,d,aq⟩
  rw[e] at this;cases this
theorem eQq{m:Nat}{ts:List (List Str)}(h:goW m ts=true):nmW ts∈nms ts:=by
 obtain⟨t,i,d⟩:=mem_nms.mp (cJm (ts:=ts) (cJn h));exact mem_nms.mpr ⟨t,(aZx ts).subset i,d⟩
structure Wc(k:Nat)(ts:List (List Str)):Prop where
 srt:SrtT ts
 each:∀t∈ts,Srt t/\t.length<=k
 len:ts.length<=130
 nms:(nms ts).length<=60
theorem cQn{t:List Str}(h:Srt t)(r:List Str):Srt (wo t r):=h.filter _
theorem eQr{ts:List (List Str)}{n:Str}(nd:ts.Nodup)(hs:∀t∈ts,Srt t):((ts.filter λt=>has t [n]).map λt=>wo t [n]).Nodup:=by
 unfold g6;rw[de];refine cQ ?_ (nd.filter _);intro a b B v i e;obtain⟨B,z⟩:=bL.mp B;obtain⟨v,j⟩:=bL.mp v;refine i ((hs a B).ext (hs b v) λy=>?_)
 by_cases d:y∈[n]
 ·exact⟨λ_=>has_iff.mp j y d,λ_=>has_iff.mp z y d⟩
 ·have:=mem_wo (one:=a) (row:=[n]) (x:=y)
  rw[e,mem_wo] at this;exact⟨λh=>(this.mpr ⟨h,d⟩).1,λh=>(this.mp ⟨h,d⟩).1⟩
theorem mem_lnk{ts:List (List Str)}{r u:List Str}:u∈lnk ts r↔∃t∈ts,has t r=true/\wo t r=u:=by
 unfold lnk;rw[bJj,bW];exact⟨λ⟨t,h,e⟩=>⟨t,(bL.mp h).1,(bL.mp h).2,e⟩,λ⟨t,h1,h2,e⟩=>⟨t,bL.mpr ⟨h1,h2⟩,e⟩⟩
theorem has1{t:List Str}{n:Str}:has t [n]=true↔n∈t:=by rw[has_iff];simp
theorem fQ9{t:List Str}{n:Str}(h:n∈t)(nd:t.Nodup):(wo t [n]).length+1=t.length:=by
 have e:wo t [n]=t.erase n:=by
  rw[nd.erase_eq_filter];unfold wo;refine ga λx _=>?_
  by_cases d:x=n
  ·subst d;simp
  ·simp[d]
 rw[e,List.length_erase_of_mem h]
 have:=List.length_pos_of_mem h
 omega
theorem Wc.link{k:Nat}{ts:List (List Str)}(h:Wc (k+1) ts)(n:Str):Wc k (lnk ts [n]) where
 srt:=bZh (eQr h.srt.nodup λt d=>(h.each t d).1)
 each:=λu j=>by
  obtain⟨t,d,v,rfl⟩:=mem_lnk.mp j;refine⟨cQn (h.each t d).1 _,?_⟩
  have:=fQ9 (has1.mp v) (h.each t d).1.nodup
  have:=(h.each t d).2
  omega
 len:=by
  unfold lnk;rw[(aX3 _).length_eq,am];exact Nat.le_trans (d5 _ _) h.len
 nms:=Nat.le_trans ((bJk _).nodup.length_le_of_subset λx z=>by
  obtain⟨u,j,i⟩:=mem_nms.mp z;obtain⟨t,d,v,rfl⟩:=mem_lnk.mp j;exact mem_nms.mpr ⟨t,d,(mem_wo.mp i).1⟩) h.nms
theorem eQs{m:Nat}{ts:List (List Str)}(h:Wc 0 ts):goW m ts=false:=by
 unfold goW;rw[gg];refine .inr (List.any_eq_false.mpr λt d=>?_)
 have:=(h.each t ((aZx ts).subset d)).2
 rw[fR.mp (show t.length=0 by omega)];simp
theorem aZb{m f:Nat}{ts:List (List Str)}(h:goW m ts=false):wayS m f ts=([],ts):=by
 cases f with
 |zero=>rfl
 |succ f=>show(if goW m ts=true then _ else _)=_;rw[h];rfl
theorem bZk{m f:Nat}{ts:List (List Str)}(h:goW m ts=true):wayS m (f+1) ts=(((chs ts).length,nmW ts,ts.length)::(wayS m f (lnk ts [nmW ts])).1,(wayS m f (lnk ts [nmW ts])).2):=by
 show(if goW m ts=true then _ else _)=_
 rw[h];rfl
theorem eQt{α:Type}{i:Nat}{te:ED}{Γ0:Gm}{S:Sto}{G:Sto->Prop}{Q:List D->Sto->Prop}{enc:α->D}{f:α->D}{xs:List α}{acc:List D}(hG:G S)(h:∀x∈xs,∀Q:DK,Q (f x) S->te (Γ0.set i (some (enc x))) S Q)(hn:acc.length+xs.length<=sizeLine)
  (q:Q (acc++xs.map f) S):aZ5 (aZa i) dYes (aJ8 te) G Γ0 (xs.map enc) acc S Q:=by
 induction xs generalizing acc with
 |nil=>exact⟨hG,by simpa using q⟩
 |cons x xs j =>
  refine⟨hG,?_⟩;show aJ8 te (Γ0.set i (some (enc x))) S acc (λd z=>aZ5 (aZa i) dYes (aJ8 te) G Γ0 (xs.map enc) d z Q);rw[bA] at hn;refine h x aq _ ⟨by omega,j (λy v=>h y (au _ v)) (by simp;omega) (by simpa using q)⟩
theorem cJo{S:Sto}{b:Bool}{k:Bool->Prop}(h:k b):truD S (.bl b) k:=h
theorem eQu{b:Bool}{A B:Prop}(h:b=true->A)(h':b=false->B):if b=true then A else B:=by
 cases b with
 |true=>rw[if_pos rfl];exact h rfl
 |false=>rw[if_neg (by simp)];exact h' rfl
open PySem.Spec PyProof.Rows
section
variable{X:Cx}{pins:List (Addr×Obj)}{σ:St}{H:Hp}{s:ah}{M:Am}
open PySem.W in
open PySem.W in
open PySem.W in
open PySem.W in
open PySem.W in
open PySem.W in
end
section
variable{X:Cx}{K:Fg}{pos:Pos}{k:Nat}
open Classical in
end
end L2
namespace L2
open PySem
def pl(p q:Int×Str):Bool:=if p.1=q.1 then HT.ltS p.2 q.2 else decide (p.1<q.1)
theorem cQo(kf:Nat->Int):∀n j,j<=n->kf j<=kf (cN (gB kf) n)/\(j<cN (gB kf) n->kf j<kf (cN (gB kf) n))
 |0,j,v=>by
  have:j=0:=by omega
  subst this;exact⟨Int.le_refl _,λh=>absurd h (Nat.lt_irrefl _)⟩
 |n+1,j,v=>by
  have i:=cQo kf n;have z:=bZj (gB kf) n;cases e:decide (kf (n+1)>kf (cN (gB kf) n)) with
  |true =>
   have d:cN (gB kf) (n+1)=n+1:=by simp only[cN,gB,e,if_true]
   rw[d];have e:=of_decide_eq_true e
   by_cases h:j=n+1
   ·subst h;exact⟨Int.le_refl _,λh=>absurd h (Nat.lt_irrefl _)⟩
   ·have:=(i j (by omega)).1
    exact⟨by omega,λ_=>by omega⟩
  |false =>
   have d:cN (gB kf) (n+1)=cN (gB kf) n:=by simp only[cN,gB,e,aM,if_false]
   rw[d];have e:=of_decide_eq_false e
   by_cases h:j=n+1
   ·subst h;exact⟨by omega,λh=>by omega⟩
   ·exact i j (by omega)
theorem dZc{ts:List (List Str)}{ns:List Str}(hs:Srt ns){y:Str}(hy:y∈ns):hmh ts y<=hmh ts (mst ts ns)/\(hmh ts y=hmh ts (mst ts ns)->y=mst ts ns\/HT.ltS (mst ts ns) y=true):=by
 obtain⟨j,v,rfl⟩:=bd hy;have B:=bZj (gB λi=>(hmh ts (ns.getD i ⟨#[]⟩):Int)) (ns.length-1);have hm:=cQo (λi=>(hmh ts (ns.getD i ⟨#[]⟩):Int)) (ns.length-1) j (by omega)
 have D:ns.getD j ⟨#[]⟩=ns[j]:=by rw[ak,ag v];rfl
 unfold mst;generalize cN (gB λi=>(hmh ts (ns.getD i ⟨#[]⟩):Int)) (ns.length-1)=b at B hm;have d:b<ns.length:=by omega
 have z:ns.getD b ⟨#[]⟩=ns[b]:=by rw[ak,ag d];rfl
 rw[D,z] at hm;rw[z];refine⟨by omega,λe=>?_⟩
 rcases Nat.lt_trichotomy j b with h|h|h
 ·have:=hm.2 h;omega
 ·subst h;exact .inl rfl
 ·exact .inr (bQ.mp hs b j d v h)
theorem fQa{ts:List (List Str)}{ns:List Str}(hs:Srt ns){x:Str}(hx:x∈ns)(h:∀y∈ns,pl (0-(hmh ts y:Int),y) (0-(hmh ts x:Int),x)=false):x=mst ts ns:=by
 have hm:=cJm (ts:=ts) (ns:=ns) (by rintro rfl;cases hx)
 have h1:=dZc (ts:=ts) hs hx;have h2:=h _ hm;unfold pl at h2;dsimp only at h2
 by_cases e:hmh ts x=hmh ts (mst ts ns)
 ·rw[if_pos (by omega)] at h2
  rcases h1.2 e with z|z
  ·exact z
  ·rw[z] at h2;cases h2
 ·rw[if_neg (by omega)] at h2
  have:=of_decide_eq_false h2
  omega
abbrev Kps(S0 S:Sto):Prop:=∀b o,S0 b=some o->S b=some o
theorem Kps.non{S0 S:Sto}(h:Kps S0 S){p:Addr}(hp:S p=none):S0 p=none:=by
 cases e:S0 p with
 |none=>rfl
 |some o=>rw[h _ _ e] at hp;cases hp
theorem Kps.set{S0 S:Sto}(h:Kps S0 S){p:Addr}(hp:S0 p=none)(x:DO):Kps S0 (supd S p x):=λb o e=>by
 rw[aQb (by rintro rfl;rw[hp] at e;cases e)];exact h b o e
theorem Kps.new{S0 S:Sto}(h:Kps S0 S){p:Addr}(hp:S p=none)(x:DO):Kps S0 (supd S p x):=h.set (h.non hp) x
theorem dZd{S:Sto}{p a:Addr}{x o:DO}(hp:S p=none)(ha:S a=some o):supd S p x a=some o:=by
 rw[aQb (by rintro rfl;rw[hp] at ha;cases ha)];exact ha
def StpD(d:D):Prop:=∃(a:Int) (b:D) (c:Int),d=.tup [.int a,b,.int c]/\(b=.non\/∃s,b=.str s)
theorem StpD.ok{d e:D}(h:StpD d)(h':StpD e):okE 7 d e=true:=by
 obtain⟨a,b,c,rfl,j⟩:=h;obtain⟨B,z,v,rfl,i⟩:=h';rcases j with rfl|⟨s,rfl⟩ <;> rcases i with rfl|⟨s',rfl⟩ <;> rfl
def WayD(d:D):Prop:=∃(o:Option (List (List Str))) (ys:List D),d=.tup [opT o,.tup ys]/\∀y∈ys,StpD y
theorem fQb(o o':Option (List (List Str))):okE 8 (opT o) (opT o')=true:=by
 cases o with
 |none=>cases o' <;> rfl
 |some l =>
  cases o' with
  |none=>rfl
  |some d=>exact flE.ok 8 l d (by decide)
theorem WayD.ok{d e:D}(h:WayD d)(h':WayD e):okE 9 d e=true:=by
 obtain⟨o,ys,rfl,z⟩:=h;obtain⟨o',i,rfl,j⟩:=h';show(okE 8 (opT o) (opT o')&&(okE 8 (.tup ys) (.tup i)&&true))=true;rw[fQb,iz,Bool.and_true];show(ys.zip i).all (λp=>okE 7 p.1 p.2)=true;rw[bY];rintro⟨a,b⟩ v;exact(z a (d9 v).1).ok (j b (d9 v).2)
theorem bZl(m:Nat)(ts:List (List Str)):WayD (wayD m ts):=by
 refine⟨_,_,rfl,λd hd=>?_⟩;rcases aL.mp hd with h|h
 ·obtain⟨s,_,rfl⟩:=bW.mp h;exact⟨_,_,_,rfl,.inr ⟨_,rfl⟩⟩
 ·rw[ay.mp h];exact⟨_,_,_,rfl,.inl rfl⟩
open Toy
theorem mem_lnk_row{ts:List (List Str)}{T u:List Str}:u∈lnk ts T↔∃t∈ts,(∀x∈T,x∈t)/\wo t T=u:=by
 rw[mem_lnk];exact⟨λ⟨t,h1,h2,d⟩=>⟨t,h1,has_iff.mp h2,d⟩,λ⟨t,h1,h2,d⟩=>⟨t,h1,has_iff.mpr h2,d⟩⟩
theorem eQv{ts:List (List Str)}{T:List Str}(nd:ts.Nodup)(hs:∀t∈ts,Srt t):((ts.filter λt=>has t T).map λt=>wo t T).Nodup:=by
 unfold g6;rw[de];refine cQ ?_ (nd.filter _);intro a b B v i e;obtain⟨B,z⟩:=bL.mp B;obtain⟨v,j⟩:=bL.mp v;refine i ((hs a B).ext (hs b v) λn=>?_)
 by_cases d:n∈T
 ·exact⟨λ_=>has_iff.mp j n d,λ_=>has_iff.mp z n d⟩
 ·have:=mem_wo (one:=a) (row:=T) (x:=n)
  rw[e,mem_wo] at this;exact⟨λh=>(this.mpr ⟨h,d⟩).1,λh=>(this.mp ⟨h,d⟩).1⟩
theorem aZ0{ts:List (List Str)}{T:List Str}(nd:ts.Nodup)(hs:∀t∈ts,Srt t):SrtT (lnk ts T):=bZh (eQv nd hs)
theorem bZm(ts:List (List Str))(T:List Str):(lnk ts T).length=(ts.filter λt=>has t T).length:=by
 unfold lnk;rw[(aX3 _).length_eq,am]
theorem cJp{ts:List (List Str)}(hs:SrtT ts):lnk ts []=ts:=by
 unfold lnk;have j:(ts.filter λt=>has t [])=ts:=eG.mpr λt _=>rfl;have i:((ts.filter λt=>has t []).map λt=>wo t [])=ts:=by
  rw[j];have d:∀t:List Str,wo t []=t:=λt=>eG.mpr λx _=>by simp
  conv=>rhs;rw[<- gD ts]
  exact du λt _=>d t
 rw[i,cJk hs]
theorem wo_wo1{t T:List Str}{n:Str}:wo (wo t T) [n]=wo t (T++[n]):=by
 unfold wo;rw[List.filter_filter];refine ga λx _=>?_
 by_cases h1:x=n <;> by_cases h2:x∈T <;> simp[h1,h2]
theorem dZe{ts:List (List Str)}{T:List Str}{n:Str}(nd:ts.Nodup)(hs:∀t∈ts,Srt t)(hn:n∉T):lnk (lnk ts T) [n]=lnk ts (T++[n]):=by
 have s1:=aZ0 (T:=T) nd hs;have z:∀u∈lnk ts T,Srt u:=λu J=>by
  obtain⟨t,i,_,rfl⟩:=mem_lnk_row.mp J;exact cQn (hs t i) _
 refine(aZ0 s1.nodup z).ext (aZ0 nd hs) λu=>?_;rw[mem_lnk_row,mem_lnk_row];constructor
 ·rintro⟨v,D,B,rfl⟩;obtain⟨t,i,j,rfl⟩:=mem_lnk_row.mp D;refine⟨t,i,λx d=>?_,wo_wo1.symm⟩;rcases aL.mp d with h|h
  ·exact j x h
  ·rw[ay.mp h];exact(mem_wo.mp (B n (ay.mpr rfl))).1
 ·rintro⟨t,i,j,rfl⟩;refine⟨wo t T,mem_lnk_row.mpr ⟨t,i,λx d=>j x (cC _ d),rfl⟩,λx d=>?_,wo_wo1⟩;rw[ay.mp d];exact mem_wo.mpr ⟨j n (bf _ (ay.mpr rfl)),hn⟩
theorem eQw{m:Nat}{ts:List (List Str)}{T:List Str}(g:goW m (lnk ts T)=true):nmW (lnk ts T)∉T:=by
 obtain⟨u,i,d⟩:=mem_nms.mp (eQq g);obtain⟨t,j,_,rfl⟩:=mem_lnk_row.mp i;exact(mem_wo.mp d).2
theorem dXc{m:Nat}{ts:List (List Str)}(nd:ts.Nodup)(hs:∀t∈ts,Srt t):∀(f:Nat) (T:List Str),T.Nodup->(T++tkW (wayS m f (lnk ts T))).Nodup/\(wayS m f (lnk ts T)).2=lnk ts (T++tkW (wayS m f (lnk ts T))) /\
  ∀(i:Nat) s,(wayS m f (lnk ts T)).1[i]?=some s->s.1<m/\s.2.2=(ts.filter λt=>has t (T++(tkW (wayS m f (lnk ts T))).take i)).length/\(tkW (wayS m f (lnk ts T)))[i]?=some s.2.1
 |0,T,d=>⟨by show(T++[]).Nodup;rw[a7];exact d,by show lnk ts T=lnk ts (T++[]);rw[a7],λi s h=>by cases h⟩
 |f+1,T,d=>by
  cases g:goW m (lnk ts T) with
  |false =>
   rw[aZb g];exact⟨by show(T++[]).Nodup;rw[a7];exact d,by show lnk ts T=lnk ts (T++[]);rw[a7],λi s h=>by cases h⟩
  |true =>
   have z:=eQw g;have j:(T++[nmW (lnk ts T)]).Nodup:=da.mpr ⟨d,by simp,λa D b B e=>by rw[ay] at B;subst B;subst e;exact z D⟩
   obtain⟨h1,h2,J⟩:=dXc (m:=m) nd hs f (T++[nmW (lnk ts T)]) j;rw[bZk g];rw[dZe nd hs z];have L:m>(chs (lnk ts T)).length:=by
    unfold goW at g;rw[bb] at g;exact of_decide_eq_true g.1
   generalize nmW (lnk ts T)=n at *
   have N:tkW (((chs (lnk ts T)).length,n,(lnk ts T).length)::(wayS m f (lnk ts (T++[n]))).1,(wayS m f (lnk ts (T++[n]))).2)=n::tkW (wayS m f (lnk ts (T++[n]))):=rfl;rw[N];have v:∀l:List Str,T++n::l=T++[n]++l:=λl=>by simp
   refine⟨by rw[v];exact h1,h2.trans (by rw[v (tkW (wayS m f (lnk ts (T++[n]))))]),λi s h=>?_⟩
   cases i with
   |zero =>
    cases h;refine⟨L,?_,rfl⟩;rw[h8,a7];exact bZm ts T
   |succ i =>
    have:=J i s h
    refine⟨this.1,?_,this.2.2⟩;rw[dw,v];exact this.2.1
theorem dZf{m:Nat}{ts:List (List Str)}(hs:SrtT ts)(he:∀t∈ts,Srt t)(f:Nat):(tkW (wayS m f ts)).Nodup/\(wayS m f ts).2=lnk ts (tkW (wayS m f ts)) /\
  ∀(i:Nat) s,(wayS m f ts).1[i]?=some s->s.1<m/\s.2.2=(ts.filter λt=>has t ((tkW (wayS m f ts)).take i)).length/\(tkW (wayS m f ts))[i]?=some s.2.1:=by
 have:=dXc (m:=m) hs.nodup he f [] eM
 rw[cJp hs] at this;exact this
theorem cQp(a b:List D)(ha:∀d∈a,StpD d)(hb:∀d∈b,StpD d)(n:Nat)(hn:7<=n):okE (n+1) (.tup a) (.tup b)=true:=by
 show(a.zip b).all (λp=>okE n p.1 p.2)=true;rw[bY];rintro⟨x,y⟩ z;obtain⟨i,s,j,J,h1⟩:=ha x (d9 z).1;obtain⟨N,s',L,B,h2⟩:=hb y (d9 z).2;subst J B;obtain⟨k,rfl⟩:∃k,n=k+1:=⟨n-1,by omega⟩
 obtain⟨k,rfl⟩:∃j,k=j+1:=⟨k-1,by omega⟩
 rcases h1 with rfl|⟨u,rfl⟩ <;> rcases h2 with rfl|⟨v,rfl⟩ <;> rfl
theorem dZg(r:List (Nat×Str×Nat)):∀d∈r.map stD,StpD d:=λd hd=>by
 obtain⟨s,_,rfl⟩:=bW.mp hd;exact⟨_,_,_,rfl,.inr ⟨_,rfl⟩⟩
theorem dZh(r:List (Nat×Str×Nat))(us:List (List Str)):∀d∈r.map stD++[laD us],StpD d:=λd hd=>by
 rcases aL.mp hd with h|h
 ·exact dZg r d h
 ·rw[ay.mp h];exact⟨_,_,_,rfl,.inl rfl⟩
theorem bXl:∀(ts acc:List (List Str)),Ap2 (acc++ts)->chF acc ts=acc++ts
 |[],acc,_=>(a7 acc).symm
 |t::ts,acc,h=>by
  have v:acc.any (λo=>mts t o)=false:=List.any_eq_false.mpr λo j hm=>by
   obtain⟨x,i,d⟩:=mts_iff.mp hm;exact(a9.mp h).2.2 o j t aq x i d
  unfold chF;rw[if_neg (by rw[v];decide)]
  have e:acc++t::ts=acc++[t]++ts:=by simp
  rw[e] at h ⊢;exact bXl ts _ h
theorem aZy{ts:List (List Str)}(h:Ap2 ts):chs ts=ts:=bXl ts [] h
theorem eQx{cs:List (List Str)}(hs:SrtT cs)(he:∀t∈cs,Srt t):pag cs []=cs:=by
 unfold pag;have e:cs.map (λt=>srS (t++[]))=cs:=by
  conv=>rhs;rw[<- gD cs]
  exact du λt d=>by rw[a7];exact dX9 (he t d)
 rw[e,cJk hs]
theorem bQq{m:Nat}{ts:List (List Str)}(h:m<=(chs ts).length):goW m ts=false:=by
 unfold goW;rw[decide_eq_false (by omega),Bool.false_and]
theorem cJq{m:Nat}:∀(f:Nat) (ts:List (List Str)),(wayS m f ts).2.length<=ts.length
 |0,_=>Nat.le_refl _
 |f+1,ts=>by
  cases g:goW m ts with
  |false=>rw[aZb g];exact Nat.le_refl _
  |true =>
   rw[bZk g];refine Nat.le_trans (cJq f _) ?_;rw[bZm];exact d5 _ _
theorem cQq{m f:Nat}{ts:List (List Str)}(h:ts.length<m):flW m (wayS m f ts)=none:=by
 unfold flW
 have:=cJq (m:=m) f ts
 have:=(aZx (wayS m f ts).2).length_le
 rw[if_pos (by omega)]
theorem bQ4{m f:Nat}{ts:List (List Str)}(hs:SrtT ts)(he:∀t∈ts,Srt t)(h:Ap2 ts)(hm:m<=ts.length):wayS m f ts=([],ts)/\flW m (wayS m f ts)=some (ts.take m):=by
 have e:=aZb (m:=m) (f:=f) (bQq (ts:=ts) (by rw[aZy h];exact hm))
 refine⟨e,?_⟩;rw[e];unfold flW;rw[aZy h,if_neg (by show ¬ ts.length<m;omega)]
 show some (pag (ts.take m) [])=_;rw[eQx (hs.sublist (c7 _ _)) λt d=>he t (bD d)]
theorem cJr{n:Str}:∀(ts:List (List Str)) (t:List Str),n∈t->(∀u∈ts,n∈u)->chF [t] ts=[t]
 |[],_,_,_=>rfl
 |u::ts,t,h,d=>by
  unfold chF;have hm:[t].any (λo=>mts u o)=true:=dY.mpr ⟨t,ay.mpr rfl,mts_iff.mpr ⟨n,h,d u aq⟩⟩;rw[if_pos hm];exact cJr ts t h λv i=>d v (au _ i)
theorem bJm{n:Str}{t:List Str}{ts:List (List Str)}(h:∀u∈t::ts,n∈u):chs (t::ts)=[t]:=by
 unfold chs chF;rw[if_neg (by simp)]
 exact cJr ts t (h t aq) λu d=>h u (au _ d)
theorem eQy{ts:List (List Str)}{n:Str}(h:∀u∈ts,n∈u):hmh ts n=ts.length:=by
 unfold hmh;rw[eG.mpr λu d=>decide_eq_true (h u d)]
theorem fQc(ts:List (List Str))(n:Str):hmh ts n<=ts.length:=d5 _ _
theorem eQz{ts:List (List Str)}{n:Str}(h:hmh ts n=ts.length):∀u∈ts,n∈u:=λu d=>by
 have e:(ts.filter λt=>decide (n∈t))=ts:=(List.filter_sublist).eq_of_length h
 have:u∈ts.filter λt=>decide (n∈t):=by rw[e];exact d
 exact of_decide_eq_true (bL.mp this).2
theorem eZ0{t:List Str}{ts:List (List Str)}(hs:Srt t){c:Str}{cs:List Str}(hc:Srt (c::cs))(hm:∀x,x∈c::cs↔∀u∈t::ts,x∈u):nmW (t::ts)=c:=by
 have i:=(hm c).mp aq;unfold nmW;rw[bJm i];have j:nms [t]=t:=(dXa (ts:=[t]) (out:=t) hs λx=>by simp).symm
 rw[j]
 symm
 refine fQa hs (i t aq) λy v=>?_;unfold pl;dsimp only;rw[eQy i]
 by_cases e:hmh (t::ts) y=(t::ts).length
 ·rw[e,if_pos rfl];have d:=(hm y).mpr (eQz e);rcases aK.mp d with z|z
  ·rw[z,HT.ltS_ir]
  ·exact HT.ltS_as ((aY.mp hc).1 y z)
 ·have:=fQc (t::ts) y
  rw[if_neg (by omega)]
  exact decide_eq_false (by omega)
theorem dZi{c:Str}{cs:List Str}(h:Srt (c::cs)):Srt cs:=(aY.mp h).2
theorem aJh{m:Nat}(m2:2<=m):∀(cs:List Str) (f:Nat) {ts:List (List Str)},SrtT ts->(∀t∈ts,Srt t)->ts≠[]->Srt cs->(∀x,x∈cs↔∀u∈ts,x∈u) ->
  wayS m (cs.length+f) ts=(cs.map (λn=>(1,n,ts.length))++(wayS m f (lnk ts cs)).1,(wayS m f (lnk ts cs)).2)
 |[],f,ts,U,he,L,O,hm=>by
  rw[cJp U];show wayS m (0+f) ts=_;rw[Nat.zero_add];rfl
 |c::cs,f,ts,U,he,L,O,hm=>by
  cases ts with
  |nil=>exact absurd rfl L
  |cons t ts =>
  have en:=eZ0 (ts:=ts) (he t aq) O hm;have B:=(hm c).mp aq;have g:goW m (t::ts)=true:=by
   unfold goW;rw[bJm B];have h1:decide ([t].length<m)=true:=decide_eq_true (by show 1<m;omega)
   have ht:=B t aq;rw[h1];cases t with
   |nil=>cases ht
   |cons a t=>rfl
  have e1:(c::cs).length+f=(cs.length+f)+1:=by rw[bA];omega
  have nd:=U.nodup;have s1:=aZ0 (T:=[c]) nd he;have D:∀u∈lnk (t::ts) [c],Srt u:=λu j=>by
   obtain⟨v,i,_,rfl⟩:=mem_lnk_row.mp j;exact cQn (he v i) _
  have len1:(lnk (t::ts) [c]).length=(t::ts).length:=by
   rw[bZm,eG.mpr λu j=>has1.mpr (B u j)]
  have N:c∉cs:=λh=>by
   have:=(aY.mp O).1 c h
   rw[HT.ltS_ir] at this;cases this
  have Y:∀x,x∈cs↔∀u∈lnk (t::ts) [c],x∈u:=λx=>by
   constructor
   ·intro d u j;obtain⟨v,i,_,rfl⟩:=mem_lnk_row.mp j;exact mem_wo.mpr ⟨(hm x).mp (au _ d) v i,λz=>N (by rw[ay] at z;exact z▸d)⟩
   ·intro h;have h0:∀v∈t::ts,x∈v/\x≠c:=λv i=>by
     have:=mem_wo.mp (h (wo v [c]) (mem_lnk_row.mpr ⟨v,i,λy hy=>by rw[ay.mp hy];exact B v i,rfl⟩))
     exact⟨this.1,λz=>this.2 (ay.mpr z)⟩
    rcases aK.mp ((hm x).mpr λu j=>(h0 u j).1) with z|z
    ·exact absurd z (h0 t aq).2
    ·exact z
  have J:lnk (t::ts) [c]≠[]:=λz=>by rw[z] at len1;cases len1
  have ih:=aJh m2 cs f s1 D J (dZi O) Y;have Z:lnk (lnk (t::ts) [c]) cs=lnk (t::ts) (c::cs):=by
   refine(aZ0 s1.nodup D).ext (aZ0 nd he) λu=>?_;rw[mem_lnk_row,mem_lnk_row];have ww:∀v:List Str,wo (wo v [c]) cs=wo v (c::cs):=λv=>by
    unfold wo;rw[List.filter_filter];refine ga λx _=>?_
    by_cases h1:x=c <;> by_cases h2:x∈cs <;> simp[h1,h2]
   constructor
   ·rintro⟨v,i,h2,rfl⟩;obtain⟨w,hw,h1,rfl⟩:=mem_lnk_row.mp i;refine⟨w,hw,λx d=>?_,(ww w).symm⟩;rcases aK.mp d with z|z
    ·rw[z];exact B w hw
    ·exact(mem_wo.mp (h2 x z)).1
   ·rintro⟨w,hw,h2,rfl⟩;refine⟨wo w [c],mem_lnk_row.mpr ⟨w,hw,λx d=>by rw[ay.mp d];exact B w hw,rfl⟩,λx d=>mem_wo.mpr ⟨h2 x (au _ d),λz=>N (by rw[ay] at z;exact z▸d)⟩,ww w⟩
  rw[e1,bZk g,en,ih,Z,len1,bJm B]
  rfl
theorem eZ1{m:Nat}(m2:2<=m){t:List Str}(ht:Srt t)(f:Nat):wayS m (t.length+f) [t]=(t.map (λn=>(1,n,1)),[[]]):=by
 have j:SrtT [t]:=a4 _ _
 have:=aJh m2 t f j (λu i=>by rw[ay.mp i];exact ht) (by simp) ht (λx=>by simp)
 rw[this];have el:lnk [t] t=[[]]:=by
  refine SrtT.ext (aZ0 j.nodup λu i=>by rw[ay.mp i];exact ht) (a4 _ _) λu=>?_
  rw[mem_lnk_row,ay];have z:wo t t=[]:=List.filter_eq_nil_iff.mpr λx d=>by simp[d]
  constructor
  ·rintro⟨v,B,_,rfl⟩;rw[ay.mp B,z]
  ·rintro rfl;exact⟨t,ay.mpr rfl,λx d=>d,z⟩
 rw[el,aZb (by unfold goW;rw[gg];exact .inr rfl),a7]
 rfl
theorem cJs{us:List (List Str)}(nd:us.Nodup)(h:∀a∈us,∀b∈us,(∀x∈a,x∈b)\/∀x∈b,x∈a):(chs us).length<=2:=by
 have ap:=dXb us;have L:=aZx us;have nc:=nd.sublist L;have two:∀a∈chs us,∀b∈chs us,a≠[]->b≠[]->a=b:=λa v b d na nb=>by
  by_cases e:a=b
  ·exact e
  ·exfalso;have dj:∀x∈a,x∉b:=by
    obtain⟨i,hi,Z⟩:=bd v;obtain⟨j,hj,Y⟩:=bd d;rcases Nat.lt_trichotomy i j with z|z|z
    ·have:=bQ.mp ap i j hi hj z
     rw[Z,Y] at this;exact this
    ·subst z;exact absurd (Z.symm.trans Y) e
    ·have:=bQ.mp ap j i hj hi z
     rw[Z,Y] at this;exact λx hx O=>this x O hx
   rcases h a (L.subset v) b (L.subset d) with z|z
   ·cases a with
    |nil=>exact na rfl
    |cons x a=>exact dj x aq (z x aq)
   ·cases b with
    |nil=>exact nb rfl
    |cons x b=>exact dj x (z x aq) aq
 generalize chs us=l at two nc
 match l with
 |[]=>exact Nat.zero_le _
 |[a]=>exact Nat.succ_le_succ (Nat.zero_le _)
 |[a,b]=>exact Nat.le_refl _
 |a::b::c::l =>
  exfalso;have N:=bM.mp nc;have n2:=bM.mp N.2;have J:a≠b:=λe=>N.1 (by rw[e];simp)
  have D:a≠c:=λe=>N.1 (by rw[e];simp)
  have B:b≠c:=λe=>n2.1 (by rw[e];simp)
  by_cases v:a=[]
  ·have d:b≠[]:=λe=>J (by rw[v,e])
   have U:c≠[]:=λe=>D (by rw[v,e])
   exact B (two b (by simp) c (by simp) d U)
  ·by_cases d:b=[]
   ·have U:c≠[]:=λe=>B (by rw[d,e])
    exact D (two a (by simp) c (by simp) v U)
   ·exact J (two a (by simp) b (by simp) v d)
theorem dZj{f m:Nat}(m3:3<=m){ts:List (List Str)}(hs:SrtT ts)(he:∀t∈ts,Srt t)(h:∀a∈ts,∀b∈ts,(∀x∈a,x∈b)\/∀x∈b,x∈a):flW m (wayS m f ts)=none:=by
 obtain⟨_,h2,_⟩:=dZf (m:=m) hs he f;unfold flW
 have:=cJs (us:=(wayS m f ts).2) (by rw[h2];exact(aZ0 hs.nodup he).nodup) (by
  rw[h2];rintro a j b i;obtain⟨B,h1,_,rfl⟩:=mem_lnk_row.mp j;obtain⟨v,h2,_,rfl⟩:=mem_lnk_row.mp i;rcases h B h1 v h2 with z|z
  ·exact .inl λx d=>mem_wo.mpr ⟨z x (mem_wo.mp d).1,(mem_wo.mp d).2⟩
  ·exact .inr λx d=>mem_wo.mpr ⟨z x (mem_wo.mp d).1,(mem_wo.mp d).2⟩)
 rw[if_pos (by omega)]
def cts(core:List Str)(bs:List (List Str)):List (List Str):=srT (bs.map λp=>srS (core++p))
structure CorP(core:List Str)(bs:List (List Str)):Prop where
 cor:Srt core
 srt:SrtT bs
 each:∀p∈bs,Srt p/\∀x∈p,x∉core
 ap:Ap2 bs
section
variable{core:List Str}{bs:List (List Str)}
theorem CorP.one(h:CorP core bs){p:List Str}(hp:p∈bs):Srt (srS (core++p))/\wo (srS (core++p)) core=p/\∀x,x∈srS (core++p)↔x∈core\/x∈p:=by
 have nd:(core++p).Nodup:=da.mpr ⟨h.cor.nodup,(h.each p hp).1.nodup,λa j b i e=>(h.each p hp).2 b i (e▸j)⟩;have mem:∀x,x∈srS (core++p)↔x∈core\/x∈p:=λx=>by rw[bQ3,aL]
 refine⟨aXw nd,(cQn (aXw nd) _).ext (h.each p hp).1 λx=>?_,mem⟩;rw[mem_wo,mem];exact⟨λ⟨h1,h2⟩=>h1.resolve_left h2,λd=>⟨.inr d,(h.each p hp).2 x d⟩⟩
theorem CorP.nodup(h:CorP core bs):(bs.map λp=>srS (core++p)).Nodup:=by
 unfold g6;rw[de];refine cQ ?_ h.srt.nodup;intro a b j i d e;exact d (by rw[<- (h.one j).2.1,e,(h.one i).2.1])
theorem CorP.ts(h:CorP core bs):SrtT (cts core bs):=bZh h.nodup
theorem CorP.len(core:List Str)(bs:List (List Str)):(cts core bs).length=bs.length:=by
 unfold cts;rw[(aX3 _).length_eq,am]
theorem CorP.mem{t:List Str}:t∈cts core bs↔∃p∈bs,srS (core++p)=t:=by
 unfold cts;rw[bJj,bW]
theorem CorP.tsE(h:CorP core bs):∀t∈cts core bs,Srt t:=λt d=>by
 obtain⟨p,i,rfl⟩:=CorP.mem.mp d;exact(h.one i).1
theorem CorP.lnk(h:CorP core bs):lnk (cts core bs) core=bs:=by
 refine(aZ0 h.ts.nodup h.tsE).ext h.srt λu=>?_;rw[mem_lnk_row];constructor
 ·rintro⟨t,v,_,rfl⟩;obtain⟨p,i,rfl⟩:=CorP.mem.mp v;rw[(h.one i).2.1];exact i
 ·intro d;exact⟨srS (core++u),CorP.mem.mpr ⟨u,d,rfl⟩,λx j=>((h.one d).2.2 x).mpr (.inl j),(h.one d).2.1⟩
theorem CorP.common(h:CorP core bs)(h2:2<=bs.length)(x:Str):x∈core↔∀u∈cts core bs,x∈u:=by
 constructor
 ·intro j u v;obtain⟨p,z,rfl⟩:=CorP.mem.mp v;exact((h.one z).2.2 x).mpr (.inl j)
 ·intro j;obtain⟨a,b,r,rfl⟩:∃a b r,bs=a::b::r:=by
   match bs,h2 with
   |a::b::r,_=>exact⟨a,b,r,rfl⟩
  have i:=((h.one (p:=a) (by simp)).2.2 x).mp (j _ (CorP.mem.mpr ⟨a,by simp,rfl⟩))
  have d:=((h.one (p:=b) (by simp)).2.2 x).mp (j _ (CorP.mem.mpr ⟨b,by simp,rfl⟩))
  rcases i with i|i
  ·exact i
  ·rcases d with d|d
   ·exact d
   ·exact absurd d ((aY.mp h.ap).1 b (by simp) x i)
theorem CorP.way(h:CorP core bs){m f:Nat}(m2:2<=m)(h2:2<=bs.length):wayS m (core.length+f) (cts core bs)=(core.map (λn=>(1,n,bs.length))++(wayS m f bs).1,(wayS m f bs).2):=by
 have:=aJh m2 core f h.ts h.tsE (λz=>by have:=CorP.len core bs;rw[z] at this;simp at this;omega) h.cor (h.common h2)
 rw[this,h.lnk,CorP.len]
theorem CorP.pag(h:CorP core bs)(m:Nat):pag (bs.take m) core=cts core (bs.take m):=by
 unfold L2.pag cts
 congr 1
 refine du λp d=>?_;have d:=bD d;have nd:(p++core).Nodup:=da.mpr ⟨(h.each p d).1.nodup,h.cor.nodup,λa j b i e=>(h.each p d).2 a j (e▸i)⟩;refine(aXw nd).ext (h.one d).1 λx=>?_;rw[bQ3,aL,(h.one d).2.2,Or.comm]
theorem CorP.fl(h:CorP core bs){m f:Nat}(m2:2<=m)(hm:m<=bs.length):wayS m (core.length+f) (cts core bs)=(core.map (λn=>(1,n,bs.length)),bs)/\flW m (wayS m (core.length+f) (cts core bs))=some (cts core (bs.take m)):=by
 have j:=(bQ4 (m:=m) (f:=f) h.srt (λt d=>(h.each t d).1) h.ap hm).1;have e:=h.way (m:=m) (f:=f) m2 (by omega)
 rw[j,a7] at e;refine⟨e,?_⟩;rw[e];unfold flW;rw[aZy h.ap,if_neg (by show ¬ bs.length<m;omega)]
 have i:tkW (core.map (λn=>((1:Nat),n,bs.length)),bs)=core:=by
  unfold tkW;rw[bS]
  conv=>rhs;rw[<- gD core]
  rfl
 rw[i,h.pag]
end
theorem bZn:∀(xs:List Str) (i j:Nat),i<j->j<=xs.length->HT.lexS (xs.take i) (xs.take j)=true
 |[],i,j,h,d=>by simp at d;omega
 |x::xs,0,j+1,_,_=>rfl
 |x::xs,i+1,j+1,h,d=>by
  rw[dw,dw];show(if x=x then HT.lexS (xs.take i) (xs.take j) else HT.ltS x x)=true
  rw[if_pos rfl];exact bZn xs i j (by omega) (by simpa using d)
def prs(xs:List Str)(c n:Nat):List (List Str):=(a6 n).map λi=>xs.take (i+c)
theorem bZo{xs:List Str}{c n:Nat}(h:n+c<=xs.length+1):SrtT (prs xs c n):=by
 unfold prs SrtT;rw[de];refine cQ ?_ (fZ (n:=n));intro i j hi d v
 have:=aX.mp d
 exact bZn xs _ _ (by omega) (by omega)
theorem mem_prs{xs:List Str}{c n:Nat}{t:List Str}:t∈prs xs c n↔∃i,i<n/\xs.take (i+c)=t:=by
 unfold prs;rw[bW];exact⟨λ⟨i,h,e⟩=>⟨i,aX.mp h,e⟩,λ⟨i,h,e⟩=>⟨i,aX.mpr h,e⟩⟩
theorem bJn(xs:List Str)(c n:Nat):(prs xs c n).length=n:=by
 unfold prs;rw[am,cj]
theorem cJt{xs:List Str}{c n:Nat}:∀a∈prs xs c n,∀b∈prs xs c n,(∀x∈a,x∈b)\/∀x∈b,x∈a:=λa B b v=>by
 obtain⟨i,_,rfl⟩:=mem_prs.mp B;obtain⟨j,_,rfl⟩:=mem_prs.mp v;rcases Nat.le_total i j with z|z
 ·exact .inl λx d=>(gP (by omega)).subset d
 ·exact .inr λx d=>(gP (by omega)).subset d
theorem cQr:∀(ts acc:List (List Str)),(∀t∈ts,∃o∈acc,∃x∈t,x∈o)->chF acc ts=acc
 |[],_,_=>rfl
 |t::ts,acc,h=>by
  obtain⟨o,v,x,i,d⟩:=h t aq;unfold chF;rw[if_pos (dY.mpr ⟨o,v,mts_iff.mpr ⟨x,d,i⟩⟩)];exact cQr ts acc λu j=>h u (au _ j)
theorem eZ2{x:Str}{xs:List Str}{n:Nat}(hs:Srt (x::xs))(hn:n<=xs.length+1):lnk (prs (x::xs) 1 n) [x]=prs xs 0 n:=by
 have he:∀t∈prs (x::xs) 1 n,Srt t:=λt j=>by
  obtain⟨i,_,rfl⟩:=mem_prs.mp j;exact gl (c7 _ _) hs
 have nx:x∉xs:=λz=>by
  have:=(aY.mp hs).1 x z
  rw[HT.ltS_ir] at this;cases this
 have v:∀i:Nat,wo ((x::xs).take (i+1)) [x]=xs.take i:=λi=>by
  rw[dw];unfold wo;rw[fA,if_neg (by simp)]
  exact eG.mpr λy d=>by
   have:y≠x:=λz=>nx (z▸bD d)
   simp[this]
 refine(aZ0 (bZo (by rw[bA];omega)).nodup he).ext (bZo (by omega)) λu=>?_
 rw[mem_lnk_row,mem_prs];constructor
 ·rintro⟨t,j,_,rfl⟩;obtain⟨i,hi,rfl⟩:=mem_prs.mp j;exact⟨i,hi,(v i).symm⟩
 ·rintro⟨i,hi,rfl⟩;exact⟨_,mem_prs.mpr ⟨i,hi,rfl⟩,λy d=>by rw[ay.mp d,dw];exact aq,v i⟩
theorem aJi(xs:List Str)(c n:Nat):prs xs c (n+1)=xs.take c::prs xs (c+1) n:=by
 unfold prs;rw[List.range_succ_eq_map,bz,bS,Nat.zero_add]
 congr 1
 refine du λi _=>?_;show xs.take (i+1+c)=xs.take (i+(c+1))
 congr 1
 omega
theorem eZ3{x y:Str}{xs:List Str}{n f:Nat}(hs:Srt (x::y::xs))(hn:n<=xs.length):wayS 2 (f+1) (prs (x::y::xs) 1 (n+2))=([(1,x,n+2)],prs (y::xs) 0 (n+2))/\flW 2 (wayS 2 (f+1) (prs (x::y::xs) 1 (n+2)))=some ((prs (x::y::xs) 1 (n+2)).take 2)/\(chs (prs (y::xs) 0 (n+2))).length=2:=by
 have he:∀t∈prs (x::y::xs) 1 (n+2),Srt t:=λt v=>by
  obtain⟨i,_,rfl⟩:=mem_prs.mp v;exact gl (c7 _ _) hs
 have ex:prs (x::y::xs) 1 (n+2)=[x]::[x,y]::prs (x::y::xs) 3 n:=by
  rw[aJi,aJi];rfl
 have L:prs (y::xs) 0 (n+2)=[]::[y]::prs (y::xs) 2 n:=by
  rw[aJi,aJi];rfl
 have N:∀z,z∈[x]↔∀u∈prs (x::y::xs) 1 (n+2),z∈u:=λz=>by
  constructor
  ·intro d u D;obtain⟨i,_,rfl⟩:=mem_prs.mp D;rw[ay.mp d,dw];exact aq
  ·intro h;exact h [x] (by rw[ex];exact aq)
 have h1:=aJh (m:=2) (by decide) [x] f (bZo (by rw[bA,bA];omega)) he (by rw[ex];exact List.cons_ne_nil _ _) (a4 _ _) N
 rw[eZ2 hs (by rw[bA];omega),bJn] at h1
 have B:chs (prs (y::xs) 0 (n+2))=[[],[y]]:=by
  rw[L];unfold chs chF;rw[if_neg (by simp)]
  unfold chF;rw[if_neg (by simp[mts])]
  refine cQr _ _ λt v=>?_;obtain⟨i,_,rfl⟩:=mem_prs.mp v;exact⟨[y],by simp,y,by rw[dw];exact aq,ay.mpr rfl⟩
 have g:goW 2 (prs (y::xs) 0 (n+2))=false:=bQq (by rw[B];exact Nat.le_refl 2)
 have J:[x].length+f=f+1:=by show 1+f=f+1;omega
 rw[aZb g,J] at h1;refine⟨h1,?_,by rw[B];rfl⟩
 rw[h1];unfold flW;rw[B,if_neg (show ¬ ([[],[y]]:List (List Str)).length<2 from Nat.lt_irrefl 2),ex]
 show some (pag [[],[y]] [x])=some [[x],[x,y]]
 congr 1
 have hxy:HT.ltS x y=true:=(aY.mp hs).1 y aq;have j:Srt [x,y]:=aY.mpr ⟨λz d=>by rw[ay.mp d];exact hxy,a4 _ _⟩
 have s1:srS ([]++[x])=[x]:=dX9 (a4 _ _);have ne:y≠x:=λz=>by rw[z,HT.ltS_ir] at hxy;cases hxy
 have s2:srS ([y]++[x])=[x,y]:=(aXw (show([y]++[x]).Nodup by simp[ne])).ext j λz=>by
  rw[bQ3];simp[Or.comm]
 unfold pag;rw[bz,bz,eU,s1,s2];refine cJk (aY.mpr ⟨λz d=>?_,a4 _ _⟩);rw[ay.mp d];exact bZn [x,y] 1 2 (by decide) (Nat.le_refl 2)
end L2
namespace Toy
open PySem L2
abbrev s_law_parted:Stmt:=top 19
theorem sc_law_parted:FnScope ["pile", "names", "most", "found", "name", "at"] ["pile", "names", "most"] (aQ3 s_law_parted):=fsc
def aZp:SpD:=λds S Q=>∃(a:Addr) (d:D) (names:List Str) (most:Nat),ds=[.ref a,d,.int most]/\fzIs d (names.map D.str)/\Pile S a/\Srt names/\names.length<=60/\∀(bs:List (List Str)) S',SrtT bs->Ap2 bs->(∀t∈bs,Srt t/\t.length<=most/\∀x∈t,x∈names)->1<=bs.length->bs.length<=14->Off a S S'->Pile S' a->Q (.lst (bs.map tupS)) S'
section
variable{P:aF}{w:aR}{K:av}{mg:Str->Option ad}{base:bj}{pt cc:Addr}
theorem bZp(T:Tx K mg "_law_parted" s_law_parted)(B:Bs mg)(d_law_next:Df P w K mg base 1 "_law_next" ["pile", "most"] (spU K aQt)):Df P w K mg base 2 "_law_parted" ["pile", "names", "most"] (spU K aZp):=by
 refine aZw T sc_law_parted (λF=>F.binds λ_ _ _ _ _ _=>us3 λ_ _ _=>rfl) ?_ λf cdv A outer s H E hr=>⟨_,(aQ2 (bJb (i:=3) rfl (bB rfl) (N':=["k"]) (oc:=none) (b:=false) [0] [] rfl sc_law_parted.nd (λ_ _ _=>aQd ..) (.own .nil) (aQh rfl) (aXh rfl B.range (aQ0 (aQw (k:=false) aQ4 (aQ6 d_law_next hr rfl (aQ0 (dv 0) (aQ0 aQ4 aQ1)))) aQ1)) (cg_name (i:=0)) (λ_ _ _ _ _=>aQg (i:=0) (nd_ ["k"]) rfl (bB rfl) (.inr rfl)) (λ_ _ _ _ _=>aQo) aQk (λ_ _ _ _ _ _=>aQj rfl (by exact PD.o (bXa (b:=true) aQ1))))
  (aQ2 (cQd fL rfl (aZm (dv 1)) (aZg (i:=4) sc_law_parted.nd rfl (bB rfl)) (aQ2 (aQe (i:=5) sc_law_parted.nd rfl (bB rfl) (aQ6 d_law_next hr rfl (aQ0 (dv 0) (aQ0 (aQw (k:=false) (aZ2 rfl B.len (aQ0 (dv 3) aQ1)) aQ4) aQ1))))
  (aQ5 (aZu (PWD.pt (cXr (bJ6 hr (dv 5) (aZ2 rfl B.len (aQ0 (dv 3) aQ1))) (bJ8 (bJ6 hr (aZ2 rfl B.len (aQ0 (e_ix (dv 3) (dv 5)) aQ1)) (dv 2))))) (aQ5 (bZ7 (aJe (e_ix (dv 3) (dv 5)) (aQ0 (dv 4) aQ1)))) aQq))))
  (aQ5 (aQf (bJe (b:=false) hr rfl B.sorted rfl B.set (aQy (N':=["one"]) (oc:=none) (b:=false) [0] [] rfl sc_law_parted.nd (λ_ _ _=>aQd ..) (.own .nil) (aQh rfl) (aZm (dv 3)) (cg_name (i:=0)) (λ_ _ _ _ _=>aQg (i:=0) (nd_ ["one"]) rfl (bB rfl) (.inr rfl)) (λ_ _ _ _ _=>aQo) aQk (λ_ _ _ _ _ _=>aQj rfl (by exact PD.o (aQm rfl B.tuple (aQ0 (dv 0) aQ1)))))))))),?_⟩
 ·rintro ds S Q ⟨a,d,names,most,rfl,_⟩;rfl
 ·rintro ds S Q ⟨a,d,names,most,rfl,hd,dk,hn,h60,q⟩;refine⟨a,14,rfl,dk,by decide,by decide,λr1 S1 r10 r11 off1 dk1=>?_⟩
  obtain⟨c,hc,c1,c14⟩:∃c:Nat,1+r1=c/\1<=c/\c<=14:=⟨(1+r1).toNat,by omega,by omega,by omega⟩
  refine⟨⟨by omega,by omega⟩,?_⟩
  rw[hc,cy];refine aX4 (λi acc S'=>∃ps:List Addr,acc=ps.map D.ref/\ps.length=i/\ps.Nodup/\(∀p∈ps,S' p=some (.lst [])/\S1 p=none)/\∀b o,S1 b=some o->S' b=some o) ⟨[],rfl,rfl,.nil,by simp,λ_ _ e=>e⟩ ?_ ?_
  ·rintro i x acc S' N Y ⟨ps,rfl,hl,nd,hp,hs⟩ hN;have hi:=(cJb Y).1;refine⟨trivial,aQ8 (by decide),λp hp'=>⟨aQ8 (by rw[am];omega),hN _ _ ⟨ps++[p],by rw[bE];rfl,by rw[aG,hl];rfl,?_,λb hb=>?_,Kps.new hs hp' _⟩⟩⟩
   ·rw[da];exact⟨nd,bM.mpr ⟨fw,eM⟩,λu hu v hv=>by rw[ay.mp hv];rintro rfl;rw[(hp u hu).1] at hp';cases hp'⟩
   ·rcases aL.mp hb with z|z
    ·exact⟨dZd hp' (hp b z).1,(hp b z).2⟩
    ·rw[ay.mp z];exact⟨aQ9,Kps.non hs hp'⟩
  rintro acc S2 ⟨ps,rfl,hl,nd,hp,hs⟩;rw[aZn] at hl;have gd:∀S':Sto,L2.guard d (names.map D.str) S':=λS'=>by rcases hd with rfl|rfl <;> trivial
  refine⟨trivial,names.map D.str,hd.sq,?_⟩;have pa:a∉ps:=λz=>by
   have:=(hp a z).2
   obtain⟨cs,i,r,s,c,hS,_⟩:=dk1;rw[hS] at this;cases this
  have dk2:Pile S2 a:=by
   obtain⟨cs,i,r,s,c,hS,h⟩:=dk1;exact⟨cs,i,r,s,c,hs _ _ hS,h⟩
  refine bZb (λi Γ S'=>∃(x4 x5:Option D) (f:Str->Nat),Γ=[some (.ref a),some d,some (.int most),some (.lst (ps.map D.ref)),x4,x5]/\(∀(j:Nat) p,ps[j]?=some p->S' p=some (.lst (((names.take i).filter λx=>decide (f x=j)).map D.str))/\((names.take i).filter λx=>decide (f x=j)).length<=most)/\Pile S' a/\∀b o,b≠a->S b=some o->S' b=some o) ⟨none,none,λ_=>0,rfl,λj p hj=>by rw[h8];exact⟨(hp p (ao hj)).1,Nat.zero_le _⟩,dk2,λb o hb e=>hs _ _ ((off1 b hb).trans e)⟩ ?_ ?_
  ·rintro i x Γ S' N Y ⟨x4,x5,f,rfl,hf,dk',off'⟩ hN;rw[aT,b8] at Y;obtain⟨n,hni,rfl⟩:=Y;have hi:=(aA.mp hni).1;have tk:names.take (i+1)=names.take i++[n]:=by rw[cL,hni];rfl
   have nin:n∉names.take i:=λhm'=>by
    obtain⟨j,hj,ej⟩:=bd hm';rw[aQ] at hj;rw[fc] at ej
    have:=(aA.mp hni).2
    exact absurd ((iC hn.nodup).mp (ej.trans this.symm)) (by omega)
   have fil:∀(k j:Nat),(names.take (i+1)).filter (λx=>decide ((if x=n then k else f x)=j))=(names.take i).filter (λx=>decide (f x=j))++if k=j then [n] else []:=λk j=>by
    rw[tk,List.filter_append]
    congr 1
    ·refine ga λx Y=>?_;rw[if_neg (λz:x=n=>nin (z▸Y))]
    ·by_cases e:k=j
     ·rw[if_pos e,fA,if_pos (by rw[if_pos rfl];exact decide_eq_true e)];rfl
     ·rw[if_neg e,fA,if_neg (by rw[if_pos rfl,decide_eq_false e];decide)];rfl
   refine⟨gd _,_,rfl,a,_,rfl,dk',by rw[am];omega,by rw[am];omega,λr2 S3 r20 r21 O dk3=>?_⟩
   have Z:∀(j:Nat) p,ps[j]?=some p->S3 p=some (.lst (((names.take i).filter λx=>decide (f x=j)).map D.str)):=λj p hj=>(O p (λz=>pa (z▸ao hj))).trans (hf j p hj).1;have off4:∀b o,b≠a->S b=some o->S3 b=some o:=λb o hb e=>(O b hb).trans (off' b o hb e);obtain⟨k,rfl⟩:∃k:Nat,r2=k:=⟨r2.toNat,by omega⟩
   have skip:(¬ k<ps.length\/∃p,ps[k]?=some p):=by
    by_cases h:k<ps.length
    ·exact .inr ⟨_,ag h⟩
    ·exact .inl h
   have U:N ([some (.ref a),some d,some (.int most),some (.lst (ps.map D.ref)),some (.str n),some (.int (k:Nat))]) S3:=hN _ _ ⟨_,_,λx=>if x=n then ps.length else f x,rfl,λj p hj=>by
    have hj':=(aA.mp hj).1;rw[fil,if_neg (by omega),a7]
    exact⟨Z j p hj,(hf j p hj).2⟩,dk3,off4⟩
   refine⟨_,rfl,_,rfl,?_⟩;rw[am];refine ite2 (λhk=>?_) λ_=>U;have hk:k<ps.length:=by have:=of_decide_eq_true hk;omega
   obtain⟨p,L⟩:∃p,ps[k]?=some p:=⟨_,ag hk⟩;have pat:atI (ps.map D.ref) ((k:Nat):Int)=some (.ref p):=aZe (by rw[aT,L];rfl)
   refine⟨_,_,rfl,pat,_,Z k p L,_,rfl,?_⟩;rw[am];refine ite2 (λhm=>?_) λ_=>U;have hm:=of_decide_eq_true hm;refine⟨_,_,rfl,pat,⟨_,Z k p L⟩,_,Z k p L,?_,hN _ _ ⟨_,_,λx=>if x=n then k else f x,rfl,λj p' hj=>?_,dk3.supd (λz=>pa (z▸ao L)),λb o hb e=>?_⟩⟩
   ·have:=d5 (λx=>decide (f x=k)) (names.take i)
    rw[aQ] at this;rw[am,bh];omega
   ·rw[fil]
    by_cases e:k=j
    ·subst e;rw[L] at hj;cases hj;rw[if_pos rfl,aQ9,bE,aG];exact⟨rfl,by show _+1<=_;omega⟩
    ·have ne:p'≠p:=λz=>by
      subst z;have h1:=aA.mp hj;have h2:=aA.mp L;exact e ((iC nd).mp (h2.2.trans h1.2.symm))
     rw[if_neg e,a7,aQb ne];exact⟨Z j p' hj,(hf j p' hj).2⟩
   ·have hpn:S1 p=none:=(hp p (ao L)).2
    have:=off4 b o hb e
    rw[aQb (λz=>by subst z;rw[off1 b hb,e] at hpn;cases hpn)];exact this
  rintro Γ S3 ⟨x4,x5,f,rfl,hf,dk3,O⟩;rw[am,dG] at hf;refine⟨gd _,ps.map D.ref,rfl,?_⟩;refine aX4 (λi acc S'=>S'=S3/\acc=((a6 i).map λj=>names.filter λx=>decide (f x=j)).map tupS) ⟨rfl,rfl⟩ ?_ ?_
  ·rintro i x acc S' N Y ⟨rfl,rfl⟩ hN;rw[aT,b8] at Y;obtain⟨p,hpi,rfl⟩:=Y;have hi:=(aA.mp hpi).1;refine⟨trivial,_,(hf i p hpi).1,aQ8 (by rw[am,am,cj];omega),hN _ _ ⟨rfl,?_⟩⟩
   rw[gG,bE,bE];rfl
  rintro acc S' ⟨rfl,rfl⟩;rw[am];have bm:∀t,t∈(a6 ps.length).map (λj=>names.filter λx=>decide (f x=j))->∃j,j<ps.length/\t=names.filter λx=>decide (f x=j):=λt ht=>by
   obtain⟨j,hj,rfl⟩:=bW.mp ht;exact⟨j,aX.mp hj,rfl⟩
  refine⟨trivial,_,rfl,by rw[am,cj];omega,λout ond J osrt=>?_⟩
  refine aXu (S':=λb=>if b=a then S' a else S b) (λb o e=>?_) (q out _ osrt ?_ (λt ht=>?_) ?_ ?_ (λb hb=>if_neg hb) (dk3.eq (if_pos rfl)))
  ·by_cases e':b=a
   ·subst e';rw[if_pos rfl] at e;exact e
   ·rw[if_neg e'] at e;exact O b o e' e
  ·refine cQ ?_ ond;intro u v hu hv hne x hxu hxv;obtain⟨j,_,rfl⟩:=bm u ((J u).mp hu);obtain⟨k,_,rfl⟩:=bm v ((J v).mp hv);have h1:=of_decide_eq_true (bL.mp hxu).2;have h2:=of_decide_eq_true (bL.mp hxv).2;exact hne (by rw[<- h1,<- h2])
  ·obtain⟨j,hj,rfl⟩:=bm t ((J t).mp ht);obtain⟨p,hpj⟩:∃p,ps[j]?=some p:=⟨_,ag hj⟩;exact⟨hn.filter _,(hf j p hpj).2,λx Y=>(bL.mp Y).1⟩
  ·have:names.filter (λx=>decide (f x=0))∈out:=(J _).mpr (bW.mpr ⟨0,aX.mpr (by omega),rfl⟩)
   exact List.length_pos_of_mem this
  ·have:=ond.length_le_of_subset λt ht=>(J t).mp ht
   rw[am,cj] at this;omega
end
abbrev s_meets:Stmt:=top 2
theorem sc_meets:FnScope ["one", "row"] ["one", "row"] (aQ3 s_meets):=fsc
section
variable{P:aF}{w:aR}{K:av}{mg:Str->Option ad}{base:bj}{pt cc:Addr}
theorem dZk(T:Tx K mg "meets" s_meets)(B:Bs mg):Df P w K mg base 1 "meets" ["one", "row"] (spU K cQm):=by
 refine aZw T sc_meets (λF=>F.binds λ_ _ _ _ _ _=>us2 λ_ _=>rfl) ?_ λf L A outer s H E z=>⟨_,(aQ5 (aQf (eJj rfl B.any (aQ0 (aQy (N':=["name", "one"]) (oc:=none) (b:=false) [0] [] rfl sc_meets.nd (λ_ _ _=>aQd ..) (.own (.cap (i:=0) rfl (by decide +kernel) .nil)) (aQh rfl) (aZm (dv 1)) (cg_name (i:=0)) (λ_ _ _ _ _=>aQg (i:=0) (nd_ ["name", "one"]) rfl (bB rfl) (.inr rfl)) (λ_ _ _ _ _=>aQo) aQk (λ_ _ _ _ _ _=>aQj rfl (by exact PD.o (e_in z (dv 0) (dv 1))))) aQ1)))),?_⟩
 ·rintro ds S Q ⟨α,dα,E,one,row,j,J,rfl,_⟩;rfl
 ·rintro ds S Q ⟨α,dα,E,one,row,j,J,rfl,O,h1,h2,N,q⟩;have go:∀Q':List D->Sto->Prop,Q' (row.map λd=>D.bl (decide (d∈one))) S->aZ5 (aZa 0) dYes (aJ8 (dOp (inD false) (dVar 0) (dVar 1))) (λ_=>True) [none,some j] (row.map E.e) [] S Q':=λQ' v =>
   aQs (f:=λd=>D.bl (decide (d∈one))) (λd hd Q q=>in_e (neg:=false) (E:=E) (by omega) h1.sq q) (aQ8 (by show 0+row.length<=_;omega)) v
  have e:(row.map λd=>decide (d∈one)).any id=mts one row:=by unfold mts;rw[jc];rfl
  rw[<- e] at q;rcases h2 with rfl|rfl
  ·exact⟨row.map E.e,rfl,go _ ⟨row.map λd=>decide (d∈one),by show _=_;rw[bS];rfl,aQl q⟩⟩
  ·exact⟨row.map E.e,rfl,go _ ⟨row.map λd=>decide (d∈one),by show _=_;rw[bS];rfl,aQl q⟩⟩
end
abbrev s_chosen_of:Stmt:=top 9
theorem sc_chosen_of:FnScope ["sets", "chosen", "one"] ["sets"] (aQ3 s_chosen_of):=fsc
def aJ3:SpD:=λds S Q=>∃(ts:List (List Str)),ds=[.tup (ts.map tupS)]/\ts.length<=1000/\(∀t∈ts,t.length<=9999)/\Q (.tup ((chs ts).map tupS)) S
section
variable{P:aF}{w:aR}{K:av}{mg:Str->Option ad}{base:bj}{pt cc:Addr}
theorem bXm(T:Tx K mg "chosen_of" s_chosen_of)(B:Bs mg)(d_meets:Df P w K mg base 1 "meets" ["one", "row"] (spU K cQm)):Df P w K mg base 2 "chosen_of" ["sets"] (spU K aJ3):=by
 refine aZw T sc_chosen_of (λF=>F.binds λ_ _ _ _ _ _=>us1 λ_=>rfl) ?_ λf cdv A outer s H E Z=>⟨_,(aQ2 (aQe (i:=1) sc_chosen_of.nd rfl (bB rfl) (bXa (b:=true) aQ1))
  (aQ2 (cQd fL rfl (aZm (dv 0)) (aZg (i:=2) sc_chosen_of.nd rfl (ie rfl)) (aQ5 (aZu (cQb (bQm (eJj rfl B.any (aQ0 (aQy (N':=["other", "one"]) (oc:=none) (b:=false) [0] [] rfl sc_chosen_of.nd (λ_ _ _=>aQd ..) (.own (.cap (i:=2) rfl (by decide +kernel) .nil)) (aQh rfl) (aZm (dv 1)) (cg_name (i:=0)) (λ_ _ _ _ _=>aQg (i:=0) (nd_ ["other", "one"]) rfl (bB rfl) (.inr rfl)) (λ_ _ _ _ _=>aQo) aQk (λ_ _ _ _ _ _=>aQj rfl (by exact PD.o (aQ6 d_meets Z rfl (aQ0 (dv 1) (aQ0 (dv 0) aQ1)))))) aQ1)))) (aQ5 (bZ7 (aJe (dv 1) (aQ0 (dv 2) aQ1)))) aQq)))
  (aQ5 (aQf (aQm rfl B.tuple (aQ0 (dv 1) aQ1)))))),?_⟩
 ·rintro ds S Q ⟨ts,rfl,_⟩;rfl
 ·rintro ds S Q ⟨ts,rfl,hl,he,q⟩;refine⟨aQ8 (by decide),λcp v=>⟨_,rfl,?_⟩⟩
  refine bZb (λi Γ S'=>∃(J:Option D) (acc:List (List Str)),Γ=[some (.tup (ts.map tupS)),some (.ref cp),J]/\S' cp=some (.lst (acc.map tupS))/\chF acc (ts.drop i)=chs ts/\acc.length<=i/\(∀t∈acc,t∈ts)/\∀b o,S b=some o->S' b=some o) ⟨none,[],rfl,aQ9,rfl,Nat.le_refl _,λt h=>(nomatch h),λb o e=>by rw[aQb (by rintro rfl;rw[v] at e;cases e)];exact e⟩ ?_ ?_
  ·rintro i x Γ S' N L ⟨J,acc,rfl,j,d,ha,hm,off⟩ O;rw[aT,b8] at L;obtain⟨t,z,rfl⟩:=L;have hi:=(aA.mp z).1;rw[cJ hi,(aA.mp z).2] at d;unfold chF at d;have Y:=he t (ao z);refine⟨trivial,acc.map tupS,j,eQt (f:=λo=>D.bl (mts t o)) j (λo ho Q q=>⟨Str,inferInstance,strE,t,o,tupS t,tupS o,rfl,by decide,.inl rfl,.inl rfl,he o (hm o ho),q⟩) (aQ8 (by show 0+acc.length<=_;omega)) ⟨acc.map λo=>mts t o,?_,cJo ?_⟩⟩
   ·rw[bN];show lsIs S' (.lst _) _;rw[bS];rfl
   ·have ea:(acc.map λo=>mts t o).any id=acc.any λo=>mts t o:=by rw[jc];rfl
    dsimp only;rw[ea];cases e:acc.any λo=>mts t o with
    |true =>
     rw[e,if_pos rfl] at d;exact ite2 (λh=>nomatch h) λ_=>O _ _ ⟨_,acc,rfl,j,d,by omega,hm,off⟩
    |false =>
     rw[e,if_neg (by simp)] at d
     refine ite2 (λ_=>?_) λh=>absurd rfl h;refine⟨⟨_,j⟩,_,j,by rw[am,bh];omega,O _ _ ⟨_,acc++[t],rfl,by rw[aQ9,bE];rfl,d,by rw[aG];show acc.length+1<=_;omega,λu U=>?_,λb o e=>?_⟩⟩
     ·rcases aL.mp U with h|h
      ·exact hm u h
      ·rw[ay.mp h];exact ao z
     ·have e':=off b o e;rw[aQb (by rintro rfl;rw[v] at e;cases e)];exact e'
  ·rintro Γ S' ⟨J,acc,rfl,j,d,ha,hm,off⟩;rw[am,eO] at d;refine⟨trivial,acc.map tupS,j,?_⟩;have d:acc=chs ts:=d;rw[d];exact aXu off q
end
abbrev s_how_many_have:Stmt:=top 11
theorem sc_how_many_have:FnScope ["sets", "name"] ["sets", "name"] (aQ3 s_how_many_have):=fsc
def aZr:SpD:=λds S Q=>∃(ts:List (List Str)) (n:Str),ds=[.tup (ts.map tupS),.str n]/\ts.length<=1000/\Q (.int (hmh ts n:Nat)) S
section
variable{P:aF}{w:aR}{K:av}{mg:Str->Option ad}{base:bj}{pt cc:Addr}
theorem aJ9(T:Tx K mg "how_many_have" s_how_many_have)(B:Bs mg):Df P w K mg base 1 "how_many_have" ["sets", "name"] (spU K aZr):=by
 refine aZw T sc_how_many_have (λF=>F.binds λ_ _ _ _ _ _=>us2 λ_ _=>rfl) ?_ λf v A outer s H E j=>⟨_,(aQ5 (aQf (aZ2 rfl B.len (aQ0 (aQy (N':=["one", "name"]) (oc:=none) (b:=false) [0] [] rfl sc_how_many_have.nd (λ_ _ _=>aQd ..) (.own (.cap (i:=1) rfl (by decide +kernel) .nil)) (aQh rfl) (aZm (dv 0)) (cg_name (i:=0)) (λ_ _ _ _ _=>aQg (i:=0) (nd_ ["one", "name"]) rfl (bB rfl) (.inr rfl)) (λ_ _ _ _ _=>bZ8 (by exact(fZ5 j (dv 1) (dv 0)))) aQk (λ_ _ _ _ _ _=>aQj rfl (by exact PD.o (dv 0)))) aQ1)))),?_⟩
 ·rintro ds S Q ⟨ts,n,rfl,_⟩;rfl
 ·rintro ds S Q ⟨ts,n,rfl,z,q⟩;refine⟨_,rfl,aXi (p:=λt=>decide (n∈t)) (f:=tupS) (λt d Q q=>in_t (E:=strE) (by decide) rfl q) (λt d _ Q q=>q) (aQ8 (by show 0+ts.length<=_;omega)) ⟨_,rfl,?_⟩⟩
  rw[bN,am];exact aQl q
end
end Toy
namespace L2
open PySem PySem.Spec PyProof.Rows
theorem cJu{P:aF}{w:aR}{K:av}{mg mb:Str->Option ad}{k:Nat}{fa a c pt:Addr}{fd:cT}{x:Str}{sp:Sp}{s₁:ah}{vs:List ad}{ns:List Int}
  (KX:K.In s₁.heap) (hns:s₁.heap.Ns aZ mg) (hb:s₁.heap.Ns gT mb) (hbb:∀x:Str,x ≠ "__name__"->mb x=cb x) (hlim:s₁.heap.NoLimit) (hg:s₁.gens=#[])
  (ha:s₁.heap.get? a=some {cls:=.type "list",data:=.seq vs.toArray}) (hi:gK vs ns) (hl:ns.length<=sizeLine) (hr:Room k callerA)
  (T:TabF s₁.heap mg c pt) (hpt:s₁.heap.get? pt=some (f9 #[])) (noP:K.lookup pt=none)
  (F:∀base:bj,K.In base->base.Ns aZ mg->TabF base mg c pt->FnOk P w K mg base CX0 k fa fd [x] sp) (hbind:∀(s:ah) (u:ad),BindsTo s fd ⟨[u],[]⟩ [(x,u)])
  (hsp:∀H:Hp,H pt=some (.tbl #[])->SqL K H a (ns.map V.int)->sp [.ref a] H (λv _=>v=.bl true) λ_ _ _=>False) :
  eF (aE P w) callerA (.call (.ref fa) ⟨[.ref a],[]⟩) (λr s'=>r=.ok (.ret (.bool true))/\OldK s₁.heap s'.heap/\s'.os=s₁.os/\ik s'.gens) s₁:=by
 have rv:=aJn hi;have L:=hi.length;have N:a≠pt:=λz=>by rw[z,hpt] at ha;cases ha
 have core:∀H:Hp,H pt=some (.tbl #[])->(∀b,b≠pt->H b=none\/∃o xs,H b=some (.frz o (.lst xs)))->SqL K H a (ns.map V.int)->HOk P w H s₁.heap->(∀b,H b≠none->b=a\/b=pt)->(H a≠none->K.lookup a=none) ->
   eF (aE P w) callerA (.call (.ref fa) ⟨[.ref a],[]⟩) (λr s'=>r=.ok (.ret (.bool true))/\OldK s₁.heap s'.heap/\s'.os=s₁.os/\ik s'.gens) s₁:=by
  intro H hP hO hS hok hA hK;have i:∀{b:Addr}{o:Obj},s₁.heap.get? b=some o->H b=none->(hidT s₁.heap H).get? b=some o:=λe n=>cJz e n;have free:∀{b:Addr}{o:Obj},s₁.heap.get? b=some o->(∀xs n,o.data≠.seq xs n)->o≠f9 #[]->H b=none:=λ{b o} e n1 n2=>by
   cases q:H b with
   |none=>rfl
   |some u =>
    rcases hA b (by rw[q];simp) with J|J
    ·subst J;rw[ha] at e;cases e;exact absurd rfl (n1 _ _)
    ·subst J;rw[hpt] at e;cases e;exact absurd rfl n2
  have Z:∀{b:Addr}{o:Obj}{es:Array DictEntry}{U:Nat},s₁.heap.get? b=some o->o.data=.dict es U->H b=none:=λ{b o es U} e d =>
   free e (λxs n z=>by rw[d] at z;cases z) λz=>by rw[z] at d;cases d
  have j:∀ {b:Addr} {m:Str->Option ad},s₁.heap.Ns b m->(hidT s₁.heap H).Ns b m:=λ{b m} ⟨o,es,U,e,d,r⟩=>⟨o,es,U,i e (Z e d),d,r⟩;have O:K.In (hidT s₁.heap H):=λb o e=>i (KX b o e) (by
   cases q:H b with
   |none=>rfl
   |some u =>
    rcases hA b (by rw[q];simp) with J|J
    ·subst J;rw[hK (by rw[q];simp)] at e;cases e
    ·subst J;rw[noP] at e;cases e)
  have hM:Mod K mg (hidT s₁.heap H):=⟨O,j hns,⟨mb,j hb,hbb⟩,let ⟨mc,h1,h2⟩:=hlim;⟨mc,j h1,h2⟩⟩
  have hT:TabF (hidT s₁.heap H) mg c pt:=by
   refine⟨?_,?_⟩
   ·obtain⟨o,us,file,tf,flags,tg,inF,text,tt,e,cl,d,r⟩:=T.hd;exact⟨o,us,file,tf,flags,tg,inF,text,tt,i e (free e (λxs n z=>by rw[d] at z;cases z) λz=>by rw[z] at cl;cases cl),cl,d,r⟩
   ·obtain⟨bm,Y,b1,b2,b3,b4,b5,b6⟩:=T.bm;exact⟨bm,Y,b1,b2,i b3 (free b3 (λxs n z=>by rw[b6] at z;cases z) λz=>by rw[z] at b6;cases b6),b4,b5,b6⟩
  have e0:Env0 P w K mg (hidT s₁.heap H) callerA [] s₁ H:=⟨rfl,rfl,hM,λb o e=>dXd e,Nat.le_of_eq (cZi _ _),trivial,λb hb=>absurd (show b∈([]:List Addr) from hb) (by simp),hok,.of_eq hg⟩
  refine gJ ((F _ O (j hns) hT).run callerA [] s₁ H ⟨[.ref a],[]⟩ [.ref a] [.ref a] _ _ hr e0 (hbind s₁ (.ref a)) (.cons rfl .nil) (hsp H hP hS)) λr s' h=>?_;cases r with
  |error e=>exact c6 h
  |ok fl =>
   cases fl with
   |next=>exact c6 h
   |brk=>exact c6 h
   |cont=>exact c6 h
   |ret u =>
    obtain⟨v,H',os,bare,un,D,r',q⟩:=h;have q':v=.bl true:=q;subst q';obtain rfl:u=ad.bool true:=r';have keep:∀b o,b≠pt->s₁.heap.get? b=some o->s'.heap.get? b=some o:=λb o nb e=>by
     cases q:H b with
     |none=>exact un.keep b o e q (by intro z;exact absurd (show b∈([]:List Addr) from z) (by simp)) (by simp)
     |some u =>
      rcases hO b nb with z|⟨Y,xs,z⟩
      ·rw[q] at z;cases z
      ·have z2:=un.frzs b Y _ z;obtain⟨e1,_⟩:=hok b _ z;obtain⟨e2,_⟩:=D b _ z2;rw[e] at e1;cases e1;exact e2
    obtain⟨more,em⟩:=un.tbls pt #[] hP;have gm:s'.heap.get? pt=some (f9 (#[]++more)):=D pt _ em;refine⟨rfl,⟨λb o e=>?_,λb o e=>?_⟩,os,bare⟩
    ·by_cases z:b=pt
     ·subst z;rw[hpt] at e;cases e;exact .inr (.inl ⟨(T.hd.tab hpt).isCodeTable,rfl,#[],more,rfl,gm⟩)
     ·exact .inl (keep b o z e)
    ·by_cases z:b=pt
     ·subst z;exact⟨_,gm⟩
     ·exact⟨o,keep b o z e⟩
 cases hk:K.lookup a with
 |some o =>
  have e:=KX a o hk;rw[ha] at e;cases e;refine core (λb=>if b=pt then some (.tbl #[]) else none) (if_pos rfl) (λb hb=>.inl (if_neg hb)) (.inr ⟨_,vs.toArray,_,hk,rfl,rfl,rfl,by rw[ar,L];exact hl,by simpa using rv⟩) (λb u z=>?_) (λb z=>?_) λz=>absurd (if_neg N) z
  ·by_cases hb:b=pt
   ·have z':=(if_pos hb).symm.trans z;cases z';subst hb;exact hpt
   ·have z':=(if_neg hb).symm.trans z;cases z'
  ·by_cases hb:b=pt
   ·exact .inr hb
   ·exact absurd (if_neg hb) z
 |none =>
  refine core (λb=>if b=pt then some (.tbl #[]) else if b=a then some (.frz {cls:=.type "list",data:=.seq vs.toArray} (.lst (ns.map V.int))) else none) (if_pos rfl) (λb B=>?_) (.inl (.inr ⟨{cls:=.type "list",data:=.seq vs.toArray},(if_neg N).trans (if_pos rfl)⟩)) (λb u z=>?_) (λb z=>?_) λ_=>hk
  ·by_cases hb:b=a
   ·exact .inr ⟨_,_,(if_neg B).trans (if_pos hb)⟩
   ·exact .inl ((if_neg B).trans (if_neg hb))
  ·by_cases B:b=pt
   ·have z':=(if_pos B).symm.trans z;cases z';subst B;exact hpt
   ·have z:=(if_neg B).symm.trans z
    by_cases hb:b=a
    ·have z':=(if_pos hb).symm.trans z;cases z';subst hb;exact⟨ha,by rw[am];exact hl,vs,_,rv,ha⟩
    ·have z':=(if_neg hb).symm.trans z;cases z'
  ·by_cases B:b=pt
   ·exact .inr B
   ·by_cases hb:b=a
    ·exact .inl hb
    ·exact absurd ((if_neg B).trans (if_neg hb)) z
def cQs(pt:Addr)(lp:Pos)(qual:Str)(n:Nat):SpD:=λds S Q=>∃ns:List Int,ds=[.lst (ns.map D.int)]/\ns.length<=n/\S pt=some (.tb lp qual)/\(∀a,a≠pt->S a=none)/\∀S',Q (.bl true) S'
theorem eZ4{K:Fg}{n:Nat}{H:Hp}{a pt:Addr}{lp:Pos}{qual:Str}{ns:List Int}(hl:ns.length<=n)(hP:H pt=some (.tbl #[]))(hS:SqL K H a (ns.map V.int)):spU K (cQs pt lp qual n) [.ref a] H (λv _=>v=.bl true) λ_ _ _=>False:=by
 have j:a≠pt\/SqL K (λ_=>none) a (ns.map V.int):=by
  rcases hS with r|z
  ·refine .inl λz=>?_;rcases r with r|⟨o,r⟩ <;> rw[z,hP] at r <;> cases r
  ·exact .inr (.inr z)
 refine⟨λ_=>False,λb=>if b=pt then some (.tb lp qual) else none,[.lst (ns.map D.int)],λd _=>d=.bl true,⟨λb o e=>?_,λ_ (h:False)=>h.elim⟩,RepL.cons ?_ RepL.nil,⟨ns,rfl,hl,if_pos rfl,λb i=>if_neg i,λ_=>rfl⟩,λv d H' S' _ _ h e=>by subst e;exact rbl h⟩
 ·by_cases i:b=pt
  ·rw[if_pos i] at e;cases e;subst i;exact⟨#[],hP,trivial,.inl rfl⟩
  ·rw[if_neg i] at e;cases e
 ·unfold RepV;refine⟨a,_,rfl,?_,eJs⟩;rcases j with j|z
  ·rcases hS with r|z
   ·exact .inl ⟨λz=>z.elim (λw=>w (if_neg j)) id,r⟩
   ·exact .inr (.inr z)
  ·exact .inr z
def cJv(K:av)(x:Str)(c:Addr):Prop:=∃f oc od fd sl,bF K aZ x=some (some (.ref f))/\K.lookup f=some ⟨oc,od,.func fd,sl⟩/\fd.code=.ref c
theorem codeIn_mk{K:av}{x:Str}{c f:Addr}{oc:ad}{od:Option Addr}{fd:cT}{sl:Array (Option ad)}(a:bF K aZ x=some (some (.ref f)))(l:K.lookup f=some ⟨oc,od,.func fd,sl⟩)(e:fd.code=.ref c):cJv K x c:=⟨f,oc,od,fd,sl,a,l,e⟩
theorem cJw{K:av}{h:bj}{mg:Str->Option ad}{x:Str}{c:Addr}(X:K.In h)(G:h.Ns aZ mg)(ht:cJv K x c):bXk K mg x c:=by
 obtain⟨j,oc,i,d,sl,a,l,e⟩:=ht;intro f o fd m lk hd;have e1:=jx X G a;rw[m] at e1;cases e1;rw[l] at lk;cases lk;cases hd;exact e
def fQd(st:Stmt):Pos:=match aZ3 st with
 |[.Return (some (.Call _ _ (⟨_,.Lambda _ _ _ p,_⟩::_) _)) _]=>p
 |_=>⟨0,0,0,0⟩
abbrev lamQual(x:Str):Str:=x ++ ".<locals>." ++ "<lambda>"
theorem walkT{l:PySem.W.OpenLaw}{q:aF}{loose:List Str}{XP:(Str->Option ad)->bj->Prop}{YP:aR->bj->Prop}{d:DefRec}{K:Params->av}{lp:Pos}{qual x:Str}{pt:Addr}(hn:l.most=some 63)(hdf:d.params.defaults=[])
  (hY:∀(w:aR) (h:bj),YP w h->(K w.params).In h/\h.get? pt=some (f9 #[]))
  (R:∃ c:Addr,(∀ p,cJv (K p) x c)/\(∀ p,PySem.W.codeHdIn (K p) c pt=true)/\(∀ p,(K p).lookup pt=none) /\
   ∀(w:aR) (mg:Str->Option ad) (fa:Addr) (h:bj),(K w.params).In h->h.Ns aZ mg->mg d.name=some (.ref fa)->bXk (K w.params) mg x c ->
   ∃fd:cT,(∀(s:ah) (u:ad),BindsTo s fd ⟨[u],[]⟩ [("script",u)])/\∀base:bj,(K w.params).In base->base.Ns aZ mg->TabF base mg c pt->FnOk l.prog w (K w.params) mg base CX0 50 fa fd ["script"] (spU (K w.params) (cQs pt lp qual 63))) :
  PySem.W.WalkO q loose XP YP l.row.toRowW d [] (λf vs=>PySem.call f vs):=by
 obtain⟨c,D,hh,v,F⟩:=R;refine Att.attach_call hn hdf λw s₀ B mg mb fa o pm cd doc a vs ns G Y ho hd N z i hints hlen L=>?_;obtain⟨j,J⟩:=hY w _ Y;obtain⟨fd,O,hF⟩:=F w mg fa _ j G.T.g z (cJw j G.T.g (D _));exact cJu j G.T.g G.T.b G.T.builtins G.T.nolimit L i hints (Nat.le_trans hlen (by decide)) ⟨rfl,by decide,by decide⟩ ⟨PySem.W.codeHd_of_K j (hh _),G.T.bmain⟩ J (v _) hF O λH Z U=>eZ4 hlen Z U
end L2
namespace Toy
open PySem L2
abbrev s_most_had:Stmt:=top 10
theorem bJo:FnScope ["sets", "names"] ["sets", "names"] (aQ3 s_most_had):=fsc
abbrev lposM:Pos:=fQd s_most_had
def bQ5(pt:Addr):SpD:=λds S Q=>∃(ts:List (List Str)) (ns:List Str),ds=[.tup (ts.map tupS),tupS ns]/\S pt=some (.tb lposM (lamQual "most_had"))/\ts.length<=1000/\ns≠[]/\Q (.str (mst ts ns)) S
section
variable{P:aF}{w:aR}{K:av}{mg:Str->Option ad}{base:bj}{pt cc:Addr}
theorem bJp(T:Tx K mg "most_had" s_most_had)(B:Bs mg)(CD:bXk K mg "most_had" cc)(TF:TabF base mg cc pt)(d_how_many_have:Df P w K mg base 1 "how_many_have" ["sets", "name"] (spU K aZr)):Df P w K mg base 4 "most_had" ["sets", "names"] (spU K (bQ5 pt)):=by
 refine fQ6 T CD bJo (λF=>F.binds λ_ _ _ _ _ _=>us2 λ_ _=>rfl) ?_ λf A outer s H E v=>⟨_,(aQ5 (aQf (fQ7 (z:="sets") v rfl B.max TF (dv 1) ⟨rfl,rfl,rfl,rfl,by decide,(show("name":Str)∉[("sets":Str), "names"] from by decide),rfl,rfl⟩ (λ_ _ _ _ _=>aQ6 d_how_many_have (v.in1.deeper _) rfl (aQ0 (dv 1) (aQ0 (dv 0) aQ1)))))),?_⟩
 ·rintro ds S Q ⟨ts,ns,rfl,_⟩;rfl
 ·rintro ds S Q ⟨ts,ns,rfl,N,L,J,q⟩;refine⟨N,ns.map D.str,λi=>(hmh ts (ns.getD i ⟨#[]⟩):Int),rfl,λz=>J (List.map_eq_nil_iff.mp z),λi x j=>?_,λx j=>?_⟩
  ·rw[aT,b8] at j;obtain⟨n,d,rfl⟩:=j;refine⟨ts,n,rfl,L,?_,rfl⟩;show D.int (hmh ts n:Nat)=D.int (hmh ts (ns.getD i ⟨#[]⟩):Nat);rw[ak,d];rfl
  ·rw[am,aT,b8] at j;obtain⟨n,d,rfl⟩:=j;have e:mst ts ns=n:=by
    unfold mst;rw[ak,d];rfl
   rw[e] at q;exact aQl q
end
abbrev s_names_of:Stmt:=top 5
theorem sc_names_of:FnScope ["sets"] ["sets"] (aQ3 s_names_of):=fsc
def aJ4:SpD:=λds S Q=>∃(ts:List (List Str)),ds=[.tup (ts.map tupS)]/\ts.length<=9999/\ts.flatten.length<=240/\Q (tupS (nms ts)) S
section
variable{P:aF}{w:aR}{K:av}{mg:Str->Option ad}{base:bj}{pt cc:Addr}
theorem bJq(T:Tx K mg "names_of" s_names_of)(B:Bs mg):Df P w K mg base 1 "names_of" ["sets"] (spU K aJ4):=by
 refine aZw T sc_names_of (λF=>F.binds λ_ _ _ _ _ _=>us1 λ_=>rfl) ?_ λf cdv A outer s H E U=>⟨_,(aQ5 (aQf (aQm rfl B.tuple (aQ0 (eQh (N':=["one", "name"]) (oc:=none) (b:=false) [0,1] [1] U rfl B.sorted rfl sc_names_of.nd (λ_ _ _=>cZa _ _ _ _ _ _ _ _ _ _ _ _) (.own (.own .nil)) (aQh rfl) (aZm (dv 0)) (cg_name (i:=0)) (λ_ _ _ _ _=>aQg (i:=0) (nd_ ["one", "name"]) rfl (bB rfl) (.inr rfl)) (λ_ _ _ _ _=>aQo) (cJg (cg_name (i:=1)) fQ4) (λ_ _ _ _ _ _=>dQc (m:=λacc=>emitOfS _ acc _) rfl rfl rfl (λ_=>cZb _ _ _ _ _ _ _ _ _ _ _ _) (by exact PID.o (aZm (dv 0))) (aQg (i:=1) (nd_ ["one", "name"]) rfl (bB rfl) (.inr rfl)) (aQo) (dZ4 (kn:=cZc _ _ _) rfl (lt10 U) rfl rfl rfl (by exact PD.o (dv 1))) (λ_=>rfl) (λ_=>rfl) (λ_=>rfl) (λ_=>rfl) (λ_=>rfl))) aQ1)))),?_⟩
 ·rintro ds S Q ⟨ts,rfl,_⟩;rfl
 ·rintro ds S Q ⟨ts,rfl,hl,hs,q⟩;have sub:∀i:Nat,((ts.take i).flatten).length<=240:=λi=>by have e:=congrArg (λl:List (List Str)=>l.flatten.length) (bg i ts);simp only[dr,aG] at e;omega
  refine⟨ts.map tupS,rfl,aX4 (λi acc S'=>S'=S/\acc=((ts.take i).flatten).map D.str) ⟨rfl,rfl⟩ ?_ ?_⟩
  ·rintro i x acc S' N v ⟨rfl,rfl⟩ hN;rw[aT,b8] at v;obtain⟨t,O,rfl⟩:=v;refine⟨trivial,t.map D.str,rfl,aX4 (λj acc J=>J=S'/\acc=((ts.take i).flatten++t.take j).map D.str) ⟨rfl,by rw[h8,a7]⟩ ?_ ?_⟩
   ·rintro j y acc J N2 L ⟨rfl,rfl⟩ z;rw[aT,b8] at L;obtain⟨n,Z,rfl⟩:=L;refine⟨trivial,n,rfl,?_,z _ _ ⟨rfl,?_⟩⟩
    ·have b1:=sub (i+1);rw[cL,O,dr,aG] at b1;have b2:(t.take j).length<=(Option.some t).toList.flatten.length:=by
      show _<=[t].flatten.length;rw[aQ];simp;omega
     rw[am,aG];omega
    ·rw[cL,Z];simp
   ·rintro acc J ⟨rfl,rfl⟩;rw[am,dG];refine⟨trivial,hN _ _ ⟨rfl,?_⟩⟩;rw[cL,O,dr];simp
  ·rintro acc S' ⟨rfl,rfl⟩;rw[am,dG];refine⟨trivial,ts.flatten,rfl,λout nd mem=>?_⟩;have d:∀x,x∈out↔∃t∈ts,x∈t:=λx=>(mem x).trans gv;refine⟨?_,λY=>?_⟩
   ·have:out.length<=ts.flatten.length:=nd.length_le_of_subset λx v=>(mem x).mp v
    omega
   ·rw[dXa Y d];exact⟨_,rfl,aQl q⟩
end
abbrev s_has_all:Stmt:=top 1
theorem sc_has_all:FnScope ["one", "row"] ["one", "row"] (aQ3 s_has_all):=fsc
section
variable{P:aF}{w:aR}{K:av}{mg:Str->Option ad}{base:bj}{pt cc:Addr}
theorem cZf(T:Tx K mg "has_all" s_has_all)(B:Bs mg):Df P w K mg base 1 "has_all" ["one", "row"] (spU K bQp):=by
 refine aZw T sc_has_all (λF=>F.binds λ_ _ _ _ _ _=>us2 λ_ _=>rfl) ?_ λf L A outer s H E z=>⟨_,(aQ5 (aQf (fZa rfl B.all (aQ0 (aQy (N':=["name", "one"]) (oc:=none) (b:=false) [0] [] rfl sc_has_all.nd (λ_ _ _=>aQd ..) (.own (.cap (i:=0) rfl (by decide +kernel) .nil)) (aQh rfl) (aZm (dv 1)) (cg_name (i:=0)) (λ_ _ _ _ _=>aQg (i:=0) (nd_ ["name", "one"]) rfl (bB rfl) (.inr rfl)) (λ_ _ _ _ _=>aQo) aQk (λ_ _ _ _ _ _=>aQj rfl (by exact PD.o (e_in z (dv 0) (dv 1))))) aQ1)))),?_⟩
 ·rintro ds S Q ⟨α,dα,E,one,row,j,J,rfl,_⟩;rfl
 ·rintro ds S Q ⟨α,dα,E,one,row,j,J,rfl,O,h1,h2,N,q⟩;have go:∀Q':List D->Sto->Prop,Q' (row.map λd=>D.bl (decide (d∈one))) S->aZ5 (aZa 0) dYes (aJ8 (dOp (inD false) (dVar 0) (dVar 1))) (λ_=>True) [none,some j] (row.map E.e) [] S Q':=λQ' v =>
   aQs (f:=λd=>D.bl (decide (d∈one))) (λd hd Q q=>in_e (neg:=false) (E:=E) (by omega) h1.sq q) (aQ8 (by show 0+row.length<=_;omega)) v
  have e:(row.map λd=>decide (d∈one)).all id=has one row:=by unfold has;rw[ja];rfl
  rw[<- e] at q;rcases h2 with rfl|rfl
  ·exact⟨row.map E.e,rfl,go _ ⟨row.map λd=>decide (d∈one),by show _=_;rw[bS];rfl,aQl q⟩⟩
  ·exact⟨row.map E.e,rfl,go _ ⟨row.map λd=>decide (d∈one),by show _=_;rw[bS];rfl,aQl q⟩⟩
end
abbrev s_without_names:Stmt:=top 3
theorem sc_without_names:FnScope ["one", "row"] ["one", "row"] (aQ3 s_without_names):=fsc
section
variable{P:aF}{w:aR}{K:av}{mg:Str->Option ad}{base:bj}{pt cc:Addr}
theorem aJa(T:Tx K mg "without_names" s_without_names)(B:Bs mg):Df P w K mg base 1 "without_names" ["one", "row"] (spU K aZq):=by
 refine aZw T sc_without_names (λF=>F.binds λ_ _ _ _ _ _=>us2 λ_ _=>rfl) ?_ λf N A outer s H E J=>⟨_,(aQ5 (aQf (aQm rfl B.tuple (aQ0 (aQy (N':=["name", "row"]) (oc:=none) (b:=false) [0] [] rfl sc_without_names.nd (λ_ _ _=>aQd ..) (.own (.cap (i:=1) rfl (by decide +kernel) .nil)) (aQh rfl) (aZm (dv 0)) (cg_name (i:=0)) (λ_ _ _ _ _=>aQg (i:=0) (nd_ ["name", "row"]) rfl (bB rfl) (.inr rfl)) (λ_ _ _ _ _=>bZ8 (by exact(dX2 J (dv 0) (dv 1)))) aQk (λ_ _ _ _ _ _=>aQj rfl (by exact PD.o (dv 0)))) aQ1)))),?_⟩
 ·rintro ds S Q ⟨α,dα,E,one,row,L,j,rfl,_⟩;rfl
 ·rintro ds S Q ⟨α,dα,E,one,row,L,j,rfl,U,h1,h2,O,q⟩;have go:∀Q':List D->Sto->Prop,Q' ((wo one row).map E.e) S->aZ5 (aZa 0) (aJ7 (dOp (inD true) (dVar 0) (dVar 1))) (aJ8 (dVar 0)) (λ_=>True) [none,some j] (one.map E.e) [] S Q':=λQ' v =>
   aXi (p:=λn=>!decide (n∈row)) (f:=E.e) (λx z Q q=>in_t (neg:=true) (E:=E) (by omega) h2.sq q) (λx z _ Q q=>q) (aQ8 (by show 0+one.length<=_;omega)) v
  rcases h1 with rfl|rfl
  ·exact⟨one.map E.e,rfl,go _ ⟨_,rfl,aQl q⟩⟩
  ·exact⟨one.map E.e,rfl,go _ ⟨_,rfl,aQl q⟩⟩
end
abbrev s_link_of:Stmt:=top 6
theorem sc_link_of:FnScope ["sets", "row"] ["sets", "row"] (aQ3 s_link_of):=fsc
def bQ6:SpD:=λds S Q=>∃(ts:List (List Str)) (row:List Str),ds=[.tup (ts.map tupS),tupS row]/\ts.length<=1000/\row.length<=9999/\(∀t∈ts,t.length<=9999)/\Q (.tup ((lnk ts row).map tupS)) S
section
variable{P:aF}{w:aR}{K:av}{mg:Str->Option ad}{base:bj}{pt cc:Addr}
theorem cZg(T:Tx K mg "link_of" s_link_of)(B:Bs mg)(d_has_all:Df P w K mg base 1 "has_all" ["one", "row"] (spU K bQp))(d_without_names:Df P w K mg base 1 "without_names" ["one", "row"] (spU K aZq)):Df P w K mg base 2 "link_of" ["sets", "row"] (spU K bQ6):=by
 refine aZw T sc_link_of (λF=>F.binds λ_ _ _ _ _ _=>us2 λ_ _=>rfl) ?_ λf v A outer s H E d=>⟨_,(aQ5 (aQf (aQm rfl B.tuple (aQ0 (aQz (b:=false) d rfl B.sorted (aQ0 (aQy (N':=["one", "row"]) (oc:=none) (b:=false) [0] [] rfl sc_link_of.nd (λ_ _ _=>aQd ..) (.own (.cap (i:=1) rfl (by decide +kernel) .nil)) (aQh rfl) (aZm (dv 0)) (cg_name (i:=0)) (λ_ _ _ _ _=>aQg (i:=0) (nd_ ["one", "row"]) rfl (bB rfl) (.inr rfl)) (λ_ _ _ _ _=>bZ8 (by exact(bQm (aQ6 d_has_all d rfl (aQ0 (dv 0) (aQ0 (dv 1) aQ1)))))) aQk (λ_ _ _ _ _ _=>aQj rfl (by exact PD.o (aQ6 d_without_names d rfl (aQ0 (dv 0) (aQ0 (dv 1) aQ1)))))) aQ1)) aQ1)))),?_⟩
 ·rintro ds S Q ⟨ts,row,rfl,_⟩;rfl
 ·rintro ds S Q ⟨ts,row,rfl,z,d,he,q⟩;refine⟨_,rfl,aXi (p:=λt=>has t row) (f:=λt=>tupS (wo t row)) (λt j Q q=>⟨Str,inferInstance,strE,t,row,tupS t,tupS row,rfl,by decide,.inl rfl,.inl rfl,d,q⟩) (λt j _ Q q=>⟨Str,inferInstance,strE,t,row,tupS t,tupS row,rfl,by decide,.inl rfl,.inl rfl,he t j,q⟩) (aQ8 (by show 0+ts.length<=_;omega)) ?_⟩
  exact .inr (.inr ⟨(ts.filter λt=>has t row).map λt=>wo t row,by rw[bN,bS];rfl,_,rfl,aQl q⟩)
end
abbrev s_put_again:Stmt:=top 12
theorem sc_put_again:FnScope ["chosen", "taken"] ["chosen", "taken"] (aQ3 s_put_again):=fsc
def aJ5:SpD:=λds S Q=>∃(cs:List (List Str)) (tk:List Str),ds=[.tup (cs.map tupS),tupS tk]/\cs.length<=1000/\(∀t∈cs,t.length<=1000)/\tk.length<=1000/\Q (.tup ((pag cs tk).map tupS)) S
section
variable{P:aF}{w:aR}{K:av}{mg:Str->Option ad}{base:bj}{pt cc:Addr}
theorem bXn(T:Tx K mg "put_again" s_put_again)(B:Bs mg):Df P w K mg base 1 "put_again" ["chosen", "taken"] (spU K aJ5):=by
 refine aZw T sc_put_again (λF=>F.binds λ_ _ _ _ _ _=>us2 λ_ _=>rfl) ?_ λf v A outer s H E j=>⟨_,(aQ5 (aQf (aQm rfl B.tuple (aQ0 (aQz (b:=false) j rfl B.sorted (aQ0 (aQy (N':=["one", "taken"]) (oc:=none) (b:=false) [0] [] rfl sc_put_again.nd (λ_ _ _=>aQd ..) (.own (.cap (i:=1) rfl (by decide +kernel) .nil)) (aQh rfl) (aZm (dv 0)) (cg_name (i:=0)) (λ_ _ _ _ _=>aQg (i:=0) (nd_ ["one", "taken"]) rfl (bB rfl) (.inr rfl)) (λ_ _ _ _ _=>aQo) aQk (λ_ _ _ _ _ _=>aQj rfl (by exact PD.o (aQm rfl B.tuple (aQ0 (aQz (b:=false) j rfl B.sorted (aQ0 (aQw (k:=false) (dv 0) (dv 1)) aQ1)) aQ1))))) aQ1)) aQ1)))),?_⟩
 ·rintro ds S Q ⟨cs,d,rfl,_⟩;rfl
 ·rintro ds S Q ⟨cs,d,rfl,D,he,z,q⟩;refine⟨_,rfl,aQs (f:=λt=>tupS (srS (t++d))) (λt h Q q=>⟨aQ8 (by rw[am,am];have:=he t h;omega),.inl ⟨t++d,by rw[bE];rfl,_,rfl,q⟩⟩) (aQ8 (by show 0+cs.length<=_;omega)) ?_⟩
  refine .inr (.inr ⟨cs.map λt=>srS (t++d),by rw[bN,bS];rfl,_,rfl,aQl q⟩)
end
end Toy
namespace L2
open PySem PySem.Spec PyProof.Rows
section
variable{prog:aF}{w:aR}{A:a8}{R:Result->ah->Prop}{s0:ah}{a I:Addr}{its:List ad}{bs:List Bool}
theorem cJx(hh:A.in1.handled=none)(haI:a≠I)(hI:s0.heap.objs.size<=I)(hl:bs.length=its.length)
  (tr:∀(i:Nat) v h,its[i]?=some v->Kp s0.heap h->∃b items,v=.ref b/\iB h b items/\(items.size:Int)<2^63/\bs[i]?=some (!items.isEmpty))
  (fin:∀h tk,Kp s0.heap h->R (.ok (.ret (.bool (bs.any id)))) {s0 with heap:=h,toks:=tk}) :
  ∀(left i:Nat) (h:bj) (tk:Nat),i+left=its.length->Kp s0.heap h->h.IsTupleIter I a i->h.IsTuple a its.toArray->(bs.take i).any id=false ->
   eF (aE prog w) A (.builtin "any.loop" ⟨[.ref I],[]⟩) R {s0 with heap:=h,toks:=tk}:=by
 have O:∀b o,s0.heap.get? b=some o->b∉[I]:=λb o e z=>absurd (aD e) (by rw[ay.mp z];exact Nat.not_lt.mpr hI)
 have W:=jp (prog:=prog) (w:=w) (A:=A.in1) hh I a haI its.toArray;have e1:its.toArray.size=its.length:=by simp
 rw[e1] at W;intro left
 induction left with
 |zero =>
  intro i h tk hi kp B j J;have e:i=its.length:=by omega
  subst e;rw[br (by omega)] at J
  refine ci F.entry_any_loop ?_;rw[bJ F.plain_any_loop _];show aH (aE prog w) A.in1 (fi (.ref I)>>=_) _ _ {s0 with heap:=h,toks:=tk}
  refine aa (W.done _ _ _ ⟨B,j⟩ λh1 d L=>aa (cS (ae ?_)))
  have:=fin h1 d λb o e=>L b o (O b o e) (kp b o e)
  rw[J] at this;exact this
 |succ left Y =>
  intro i h tk hi kp B j J;have N:i<its.length:=by omega
  refine ci F.entry_any_loop ?_;rw[bJ F.plain_any_loop _];show aH (aE prog w) A.in1 (fi (.ref I)>>=_) _ _ {s0 with heap:=h,toks:=tk}
  refine aa (W.item i _ _ _ N ⟨B,j⟩ λv h1 d hv st L=>?_);have D:Kp s0.heap h1:=λb o e=>L b o (O b o e) (kp b o e);obtain⟨b,items,rfl,tb,Z,U⟩:=tr i v h1 (by simpa using hv) D
  refine aa (bu (truthy_tuple tb Z (aa (iq ?_))));cases e:!items.isEmpty with
  |false =>
   rw[if_neg (by simp)]
   refine ae ⟨cZ F.plain_any_loop _,Y (i+1) h1 _ (by omega) D st.1 st.2 ?_⟩
   rw[cL,U,List.any_append,J,e];rfl
  |true =>
   rw[if_pos rfl];refine aa (cS (ae ?_))
   have:=fin h1 (d+1+1) D
   rw[show bs.any id=true from dY.mpr ⟨true,ao (by rw[U,e]),rfl⟩] at this
   exact this
end
section
variable{X:Cx}{K:Fg}
theorem cZh(hK:X.K=K:=by rfl)(hc:X.calm=true:=by rfl):CallR X (.builtin "any") (λxs H Q=>∃a us,∃bs:List Bool,xs=[.ref a]/\SqT K H a us/\bs.length=us.length/\(∀(i:Nat) u,us[i]?=some u->∃b ys,u=.ref b/\SqT K H b ys/\bs[i]?=some (!ys.isEmpty))/\Q (.bl (bs.any id)) H):=by
 subst hK;intro pins s σ H xs us Q I r h;obtain⟨a,vs,bs,rfl,O,Y,N,q⟩:=h;obtain⟨u,rfl,rx⟩:=aXc r;cases rx;obtain⟨its,j,pl,_⟩:=I.tuple O;obtain⟨o,U,_⟩:=id pl;have z:a<s.heap.objs.size:=aD U;refine call_function_tree F.kind_any F.plain_any F.entry_any (F.args_any1 _) ?_;unfold cx.«any»;refine aa (m:=oneArg "any" _) (ae ?_);refine aa (ig (show s.heap.IsTuple a its.toArray from pl) ?_)
 have B:Kp s.heap (s.heap.push {cls:=.type "tuple_iterator",data:=.fields #[.ref a,.int 0 0]}):=λb o e=>af _ e;refine ae ⟨cZ F.plain_any_loop _,cJx (s0:=s) (by have:=I.ok.hd hc;simp[this]) (Nat.ne_of_lt z) (Nat.le_refl _) (by rw[Y,j.length]) (λi v h D kp=>?_) (λh tk kp=>⟨.bl _,H,I.kept kp,rfl,q⟩) its.length 0 _ _ (Nat.zero_add _) B ⟨_,az _ rfl,rfl,rfl⟩ ((show s.heap.IsTuple a its.toArray from pl).at λo e=>B _ o e) rfl⟩
 have hi:i<vs.length:=by rw[j.length];exact(aA.mp D).1
 obtain⟨u,h1,h2⟩:=j.get (ag hi);rw[D] at h1;cases h1;obtain⟨b,ys,e,J,Z⟩:=N i _ (ag hi);rw[e] at h2;cases h2;obtain⟨ws,d,L,hw⟩:=(I.kept (t':=s.toks) kp).tuple J;have hn:=aJk;refine⟨b,ws.toArray,rfl,L,by simp only[ar];have:=d.length;omega,?_⟩
 rw[Z,aXm d]
def eZ5:RCD:=λds S Q=>∃xs:List (List D),ds=[.tup (xs.map D.tup)]/\Q (.bl (xs.any λx=>!x.isEmpty)) S
variable{e:Expr}{t:AD}{p pos:Pos}
theorem eZ6:bQa K (λxs H Q=>∃a us,∃bs:List Bool,xs=[.ref a]/\SqT K H a us/\bs.length=us.length/\(∀(i:Nat) u,us[i]?=some u->∃b ys,u=.ref b/\SqT K H b ys/\bs[i]?=some (!ys.isEmpty))/\Q (.bl (bs.any id)) H) eZ5:=by
 intro F S H ds L Q QD r l h c;obtain⟨xs,rfl,q⟩:=h;obtain⟨v,rfl,j⟩:=l.one;unfold RepV at j;obtain⟨a,us,rfl,ta,l⟩:=j;have el:us.length=xs.length:=by rw[l.length,am]
 refine⟨a,us,xs.map λx=>!x.isEmpty,rfl,ta.sq,by rw[am,el],λi u J=>?_,?_⟩
 ·obtain⟨d,hd,z⟩:=l.get' J;rw[aT,b8] at hd;obtain⟨x,D,rfl⟩:=hd;unfold RepV at z;obtain⟨b,ys,rfl,tb,B⟩:=z;refine⟨b,ys,rfl,tb.sq,?_⟩;rw[aT,D]
  have:=B.length
  cases x <;> cases ys <;> first|rfl|simp at this
 ·rw[jc];exact c.bl r q
theorem fQe(hg:Gl X "any")(hm:X.mg "any"=none)(ha:PAD K X [e] t)(hK:X.K=K:=by rfl)(hc:X.calm=true:=by rfl)(he:aC [e] X.env=(false,eval e X.env)::aC [] X.env:=by rfl)(hpl:(cD pos (aC [] X.env)).any (·.1)=false:=by rfl):PD K X (.Call (.Name "any" p) [e] [] pos) (dCB eZ5 t):=aXa (cZh hK hc) eZ6 hg hm dZo ha (by decide) (by decide) he hpl
end
end L2
namespace Toy
open PySem L2
abbrev s_flower_by_way:Stmt:=top 8
theorem sc_flower_by_way:FnScope ["sets", "many", "left", "taken", "trace", "chosen", "name"] ["sets", "many"] (aQ3 s_flower_by_way):=fsc
def bXo(pt:Addr):SpD:=λds S Q=>∃(ts:List (List Str)) (m:Nat),ds=[.tup (ts.map tupS),.int m]/\S pt=some (.tb lposM (lamQual "most_had"))/\Wc 6 ts/\m<=60/\Q (wayD m ts) S
section
variable{P:aF}{w:aR}{K:av}{mg:Str->Option ad}{base:bj}{pt cc:Addr}
theorem aJb(T:Tx K mg "flower_by_way" s_flower_by_way)(B:Bs mg)(d_chosen_of:Df P w K mg base 4 "chosen_of" ["sets"] (spU K aJ3))(d_most_had:Df P w K mg base 4 "most_had" ["sets", "names"] (spU K (bQ5 pt)))(d_names_of:Df P w K mg base 4 "names_of" ["sets"] (spU K aJ4))(d_link_of:Df P w K mg base 4 "link_of" ["sets", "row"] (spU K bQ6))(d_put_again:Df P w K mg base 4 "put_again" ["chosen", "taken"] (spU K aJ5)):Df P w K mg base 5 "flower_by_way" ["sets", "many"] (spU K (bXo pt)):=by
 refine aZw T sc_flower_by_way (λF=>F.binds λ_ _ _ _ _ _=>us2 λ_ _=>rfl) ?_ λf cdv A outer s H E L=>⟨_,(aQ2 (aQe (i:=2) sc_flower_by_way.nd rfl (bB rfl) (dv 0))
  (aQ2 (aQe (i:=3) sc_flower_by_way.nd rfl (bB rfl) (aZ8 aQ1))
  (aQ2 (aQe (i:=4) sc_flower_by_way.nd rfl (bB rfl) (bXa (b:=true) aQ1))
  (aQ2 (aQe (i:=5) sc_flower_by_way.nd rfl (bB rfl) (aQ6 d_chosen_of L rfl (aQ0 (dv 2) aQ1)))
  (aQ2 (dQw fL (PWD.pt (cXr (bJ6 L (aZ2 rfl B.len (aQ0 (dv 5) aQ1)) (dv 1)) (bJ8 (bQm (fQe rfl B.any (aQ0 (dv 5) aQ1)))))) (aQ2 (aQe (i:=6) sc_flower_by_way.nd rfl (bB rfl) (aQ6 d_most_had L rfl (aQ0 (dv 2) (aQ0 (aQ6 d_names_of L rfl (aQ0 (dv 5) aQ1)) aQ1))))
  (aQ2 (bZ7 (aJe (dv 4) (aQ0 (aZ8 (aQ0 (aZ2 rfl B.len (aQ0 (dv 5) aQ1)) (aQ0 (dv 6) (aQ0 (aZ2 rfl B.len (aQ0 (dv 2) aQ1)) aQ1)))) aQ1)))
  (aQ2 (aQe (i:=3) sc_flower_by_way.nd rfl (bB rfl) (aQw (k:=false) (dv 3) (aZ8 (aQ0 (dv 6) aQ1))))
  (aQ2 (aQe (i:=2) sc_flower_by_way.nd rfl (bB rfl) (aQ6 d_link_of L rfl (aQ0 (dv 2) (aQ0 (aZ8 (aQ0 (dv 6) aQ1)) aQ1))))
  (aQ5 (aQe (i:=5) sc_flower_by_way.nd rfl (bB rfl) (aQ6 d_chosen_of L rfl (aQ0 (dv 2) aQ1)))))))))
  (aQ2 (bZ7 (aJe (dv 4) (aQ0 (aZ8 (aQ0 (aZ2 rfl B.len (aQ0 (dv 5) aQ1)) (aQ0 aXf (aQ0 (aZ2 rfl B.len (aQ0 (dv 2) aQ1)) aQ1)))) aQ1)))
  (aQ2 (aZu (bJ6 L (aZ2 rfl B.len (aQ0 (dv 5) aQ1)) (dv 1)) (aQ5 (aQf (aZ8 (aQ0 aXf (aQ0 (aQm rfl B.tuple (aQ0 (dv 4) aQ1)) aQ1))))) aQq)
  (aQ5 (aQf (aZ8 (aQ0 (aQ6 d_put_again L rfl (aQ0 (e_sl (b:=false) (dv 5) aZl (aZ9 (dv 1))) (aQ0 (dv 3) aQ1))) (aQ0 (aQm rfl B.tuple (aQ0 (dv 4) aQ1)) aQ1)))))))))))),?_⟩
 ·rintro ds S Q ⟨ts,m,rfl,_⟩;rfl
 ·rintro ds S Q ⟨ts,m,rfl,hP,hW,hm,q⟩;refine⟨aQ8 (by decide),aQ8 (by decide),λlp J=>?_⟩
  have hpl:pt≠lp:=by rintro rfl;rw[J] at hP;cases hP
  have lim:∀{k:Nat}{us:List (List Str)},Wc k us->k<=6->∀t∈us,t.length<=9999:=λh hk t N=>by have:=(h.each t N).2;omega
  refine⟨ts,rfl,by have:=hW.len;omega,lim hW (Nat.le_refl _),?_⟩
  refine⟨λf Γ S'=>∃ (us:List (List Str)) (d:List (Nat × Str × Nat)) (Y:Option D),Γ=[some (.tup (ts.map tupS)),some (.int m),some (.tup (us.map tupS)),some (tupS (d.map λs=>s.2.1)),some (.ref lp),some (.tup ((chs us).map tupS)),Y]/\S' lp=some (.lst (d.map stD))/\Wc f us/\f + d.length<=6/\wayS m 6 ts=(d++(wayS m f us).1,(wayS m f us).2)/\∀ b o,S b=some o->S' b=some o,
   ⟨6,ts,[],none,rfl,aQ9,hW,Nat.le_refl _,rfl,λb o e=>by rw[aQb (by rintro rfl;rw[J] at e;cases e)];exact e⟩,?_⟩
  rintro f Γ S' ⟨us,d,Y,rfl,U,v,hf,hw,off⟩;have cl:(chs us).length<=130:=Nat.le_trans (aZx us).length_le v.len;have Z:∀Q:Bool->Sto->Prop,Q (goW m us) S'->dAnd (aJ7 (dOp ltD (dCB lenD (bJ3 (dVar 5) dNil)) (dVar 1))) (dTru (dCB eZ5 (bJ3 (dVar 5) dNil))) [some (.tup (ts.map tupS)),some (.int m),some (.tup (us.map tupS)),some (tupS (d.map λs=>s.2.1)),some (.ref lp),some (.tup ((chs us).map tupS)),Y] S' Q:=λQ j=>by
   refine⟨_,rfl,_,rfl,?_⟩;rw[am];have e1:decide (((chs us).length:Int)<(m:Int))=decide ((chs us).length<m):=decide_eq_decide.mpr (by omega)
   rw[e1];unfold goW at j;cases e:decide ((chs us).length<m) with
   |false =>
    rw[e] at j;exact ite2 (λh=>nomatch h) λ_=>j
   |true =>
    rw[e,iz] at j;refine ite2 (λ_=>⟨(chs us).map λt=>t.map D.str,by rw[bS];rfl,cJo ?_⟩) λh=>absurd rfl h
    have e2:((chs us).map λt=>t.map D.str).any (λx=>!x.isEmpty)=(chs us).any λt=>!t.isEmpty:=by
     rw[jc]
     congr 1
     funext t;cases t <;> rfl
    rw[e2];exact j
  refine Z _ (eQu (λg=>?_) λg=>?_)
  ·have gn:=cJn g;cases f with
   |zero=>rw[eQs v] at g;cases g
   |succ f =>
   have hl:=v.link (nmW us);have hn:=v.nms;refine⟨chs us,rfl,by omega,Nat.le_trans (dZb λt N=>(v.each t N).1) (by omega),us,nms (chs us),rfl,off _ _ hP,by have:=v.len;omega,gn,?_⟩
   refine⟨⟨_,U⟩,_,rfl,_,rfl,aQ8 (by show 3<=9999;decide),_,U,by rw[am,bh];omega,?_⟩
   refine⟨aQ8 (by show 1<=9999;decide),aQ8 (by rw[am,am];show d.length+1<=9999;omega),?_⟩
   refine⟨aQ8 (by show 1<=9999;decide),us,[nmW us],rfl,by have:=v.len;omega,by show 1<=9999;decide,lim v (by omega),?_⟩
   refine⟨lnk us [nmW us],rfl,by have:=hl.len;omega,lim hl (by omega),?_⟩
   refine⟨f,Nat.lt_succ_self f,lnk us [nmW us],d++[((chs us).length,nmW us,us.length)],some (.str (nmW us)),?_,?_,hl,by rw[aG];show f+(d.length+1)<=6;omega,?_,λb o e=>?_⟩
   ·rw[bE];unfold tupS;rw[bE];rfl
   ·rw[aQ9,bE,am,am];rfl
   ·rw[hw,bZk g,aU];rfl
   ·have e':=off b o e;rw[aQb (by rintro rfl;rw[J] at e;cases e)];exact e'
  ·have e:wayS m 6 ts=(d,us):=by rw[hw,aZb g,a7]
   refine⟨⟨_,U⟩,_,rfl,_,rfl,aQ8 (by show 3<=9999;decide),_,U,by rw[am,bh];omega,?_⟩
   have j:Q (.tup [opT (if (chs us).length<m then none else some (pag ((chs us).take m) (d.map λs=>s.2.1))),.tup (d.map stD++[laD us])]) S:=by
    have:=q
    unfold wayD flW trD tkW at this;rw[e] at this;exact this
   rw[am,am];have O:supd S' lp (.lst (d.map stD++[laD us])) lp=some (.lst (d.map stD++[laD us])):=aQ9;have back:∀a o,S a=some o->supd S' lp (.lst (d.map stD++[laD us])) a=some o:=λa o e=>by rw[aQb (by rintro rfl;rw[J] at e;cases e)];exact off a o e
   refine⟨_,rfl,_,rfl,ite2 (λc1=>?_) λc1=>?_⟩
   ·have c2:(chs us).length<m:=by have:=of_decide_eq_true c1;rw[am] at this;omega
    rw[if_pos c2] at j;refine⟨_,O,aQ8 (by show 2<=9999;decide),?_⟩
    exact aXu (S':=S) back j
   ·have c2:¬ (chs us).length<m:=λz=>c1 (decide_eq_true (by rw[am];omega))
    rw[if_neg c2] at j;have hm4:∀t∈(chs us).take m,t.length<=1000:=λt N=>by have:=(v.each t ((aZx us).subset (bD N))).2;omega
    refine⟨m,rfl,(chs us).take m,d.map λs:Nat×Str×Nat=>s.2.1,congrArg (λz:List D=>[D.tup z,tupS (d.map λs:Nat×Str×Nat=>s.2.1)]) (aJg (chs us) m),by rw[aQ];omega,hm4,by rw[am];omega,_,O,aQ8 (by show 2<=9999;decide),aXu (S':=S) back j⟩
end
end Toy
set_option maxHeartbeats 4000000
namespace L2
open PySem
theorem eZ7(xs:List D)(i:Nat):cutD xs none (some (i:Int))=xs.take i:=by
 show(xs.drop 0).take (HT.sIx xs.length xs.length (some ((i:Nat):Int))-0)=_;rw[HT.sIx_nat,fm,Nat.sub_zero];rcases Nat.le_total i xs.length with h|h
 ·rw[Nat.min_eq_left h]
 ·rw[Nat.min_eq_right h,dG,br h]
theorem bQ7{ts:List (List Str)}{N:List Str}(h:∀t∈ts,∀x∈t,x∈N):(nms ts).length<=N.length:=(bJk ts).nodup.length_le_of_subset λx i=>by
 obtain⟨t,j,d⟩:=mem_nms.mp i;exact h t j x d
end L2
set_option maxHeartbeats 1000000
namespace Toy
open PySem L2
abbrev s_law_apart_right:Stmt:=top 20
theorem sc_law_apart_right:FnScope ["pile", "names", "sets", "many", "told"] ["pile", "names"] (aQ3 s_law_apart_right):=fsc
def aX6(pt:Addr):SpD:=λds S Q=>∃(a:Addr) (names:List Str),ds=[.ref a,tupS names]/\S pt=some (.tb lposM (lamQual "most_had"))/\Pile S a/\Srt names/\names.length<=24/\∀S',Off a S S'->Pile S' a->Q (.bl true) S'
section
variable{P:aF}{w:aR}{K:av}{mg:Str->Option ad}{base:bj}{pt cc:Addr}
theorem aXj(T:Tx K mg "_law_apart_right" s_law_apart_right)(B:Bs mg)(d_law_parted:Df P w K mg base 5 "_law_parted" ["pile", "names", "most"] (spU K aZp))(d_flower_by_way:Df P w K mg base 5 "flower_by_way" ["sets", "many"] (spU K (bXo pt))):Df P w K mg base 6 "_law_apart_right" ["pile", "names"] (spU K (aX6 pt)):=by
 refine aZw T sc_law_apart_right (λF=>F.binds λ_ _ _ _ _ _=>us2 λ_ _=>rfl) ?_ λf cdv A outer s H E J=>⟨_,(aQ2 (aQe (i:=2) sc_law_apart_right.nd rfl (bB rfl) (aQ6 d_law_parted J rfl (aQ0 (dv 0) (aQ0 (dv 1) (aQ0 aQ4 aQ1)))))
  (aQ2 (cQd fL rfl (bXc rfl B.range (aQ0 aQ4 (aQ0 aQ4 aQ1))) (aZg (i:=3) sc_law_apart_right.nd rfl (bB rfl)) (aQ2 (aQe (i:=4) sc_law_apart_right.nd rfl (bB rfl) (aQ6 d_flower_by_way J rfl (aQ0 (aQm rfl B.tuple (aQ0 (dv 2) aQ1)) (aQ0 (dv 3) aQ1))))
  (aQ5 (aZu (eJ9 J (aZ2 rfl B.len (aQ0 (dv 2) aQ1)) (dv 3)) (aQ5 (aZu (dJu J (dv 4) (aZ8 (aQ0 (aQm rfl B.tuple (aQ0 (e_sl (b:=false) (dv 2) aZl (aZ9 (dv 3))) aQ1)) (aQ0 (aZ8 (aQ0 (aZ8 (aQ0 (aZ2 rfl B.len (aQ0 (dv 2) aQ1)) (aQ0 aXf (aQ0 (aZ2 rfl B.len (aQ0 (dv 2) aQ1)) aQ1)))) aQ1)) aQ1)))) (aQ5 (aQf e_bl)) aQq)) (aQ5 (aZu (bJ7 J (e_ix (dv 4) aQ4) aXf) (aQ5 (aQf e_bl)) aQq))))))
  (aQ5 (aQf e_bl)))),?_⟩
 ·rintro ds S Q ⟨a,names,rfl,_⟩;rfl
 ·rintro ds S Q ⟨a,names,rfl,hP,dk,hn,h24,q⟩;have U:pt≠a:=λz=>by obtain⟨cs,i,r,s,c,hS,_⟩:=dk;rw[z,hS] at hP;cases hP
  refine⟨a,_,names,6,rfl,.inl rfl,dk,hn,by omega,λbs S2 hs ap he l1 l14 d dk2=>?_⟩
  have hW:Wc 6 bs:=⟨hs,λt v=>⟨(he t v).1,(he t v).2.1⟩,by omega,Nat.le_trans (bQ7 λt v=>(he t v).2.2) (by omega)⟩
  have Y:S2 pt=some (.tb lposM (lamQual "most_had")):=(d pt U).trans hP;refine⟨⟨by decide,by decide,by decide,by decide⟩,?_⟩
  refine bZb (λk Γ S'=>∃(O L:Option D),Γ=[some (.ref a),some (tupS names),some (.lst (bs.map tupS)),O,L]/\S'=S2) ⟨none,none,rfl,rfl⟩ ?_ ?_
  ·rintro k x Γ S' N hx ⟨O,L,rfl,rfl⟩ hN;obtain⟨hk,rfl⟩:=aX2 5 2 k x hx;have hk:k<5:=hk;obtain⟨m,em,m2,m7⟩:∃m:Nat,(2:Int)+(k:Int)=m/\2<=m/\m<=6:=⟨2+k,by omega,by omega,by omega⟩
   rw[em];refine⟨trivial,_,rfl,bs,m,rfl,Y,hW,by omega,?_⟩
   refine⟨_,rfl,_,rfl,?_⟩;rw[am];refine ite2 (λh=>?_) λh=>?_
   ·have hm:m<=bs.length:=by have:=of_decide_eq_true h;omega
    obtain⟨e1,e2⟩:=bQ4 (m:=m) (f:=6) hs (λt v=>(he t v).1) ap hm;have Z:wayD m bs=.tup [.tup ((bs.take m).map tupS),.tup [.tup [.int (bs.length:Nat),.non,.int (bs.length:Nat)]]]:=by
     unfold wayD trD;rw[e2,e1];unfold laD;rw[aZy ap];rfl
    have wk:=(bZl m bs).ok (bZl m bs);rw[Z] at wk ⊢;refine⟨m,rfl,bs.map tupS,rfl,_,rfl,_,rfl,_,rfl,aQ8 (by show 3<=9999;decide),aQ8 (by show 1<=9999;decide),aQ8 (by show 2<=9999;decide),?_⟩
    rw[aJg,am];refine⟨wk,false,eQo rfl,?_⟩;exact ite2 (λh=>nomatch h) λ_=>hN _ _ ⟨_,_,rfl,rfl⟩
   ·have hm:bs.length<m:=Nat.lt_of_not_le λz=>h (decide_eq_true (by omega))
    have e1:flW m (wayS m 6 bs)=none:=cQq hm;have Z:wayD m bs=.tup [.non,trD (wayS m 6 bs)]:=by unfold wayD;rw[e1];rfl
    rw[Z];refine⟨_,_,rfl,aZe (j:=0) rfl,false,rfl,?_⟩;exact ite2 (λh=>nomatch h) λ_=>hN _ _ ⟨_,_,rfl,rfl⟩
  ·rintro Γ S' ⟨O,L,rfl,rfl⟩;exact⟨trivial,aQl (q _ d dk2)⟩
end
end Toy
namespace L2
open PySem
theorem eZ8(xs:List D)(i:Nat):cutD xs (some (i:Int)) none=xs.drop i:=by
 cases i with
 |zero =>
  show((xs.drop (HT.sIx xs.length 0 (some ((0:Nat):Int)))).take (HT.sIx xs.length xs.length none-_))=_;rw[HT.sIx_nat,HT.sIx_none,Nat.zero_min];simp
 |succ i=>exact dZa xs i
end L2
namespace Toy
open PySem L2
abbrev s_law_core_right:Stmt:=top 21
theorem sc_law_core_right:FnScope ["pile", "names", "core", "left", "petals", "sets", "many", "found", "trace", "steps", "bare", "due"] ["pile", "names"] (aQ3 s_law_core_right):=fsc
def aXk(pt:Addr):SpD:=λds S Q=>∃(a:Addr) (names:List Str),ds=[.ref a,tupS names]/\S pt=some (.tb lposM (lamQual "most_had"))/\Pile S a/\Srt names/\names.length<=24/\2<=names.length/\∀S',Off a S S'->Pile S' a->Q (.bl true) S'
section
variable{P:aF}{w:aR}{K:av}{mg:Str->Option ad}{base:bj}{pt cc:Addr}
theorem aXx(T:Tx K mg "_law_core_right" s_law_core_right)(B:Bs mg)(d_law_next:Df P w K mg base 5 "_law_next" ["pile", "most"] (spU K aQt))(d_law_set:Df P w K mg base 5 "_law_set" ["pile", "names", "many"] (spU K aXv))(d_law_parted:Df P w K mg base 5 "_law_parted" ["pile", "names", "most"] (spU K aZp))(d_flower_by_way:Df P w K mg base 5 "flower_by_way" ["sets", "many"] (spU K (bXo pt))):Df P w K mg base 6 "_law_core_right" ["pile", "names"] (spU K (aXk pt)):=by
 refine aZw T sc_law_core_right (λF=>F.binds λ_ _ _ _ _ _=>us2 λ_ _=>rfl) ?_ λf cdv A outer s H E j=>⟨_,(aQ2 (aQe (i:=2) sc_law_core_right.nd rfl (ie rfl) (aQ6 d_law_set j rfl (aQ0 (dv 0) (aQ0 (dv 1) (aQ0 (aQw (k:=false) aQ4 (aQ6 d_law_next j rfl (aQ0 (dv 0) (aQ0 aQ4 aQ1)))) aQ1)))))
  (aQ2 (bJb (i:=3) rfl (bB rfl) (N':=["name", "core"]) (oc:=none) (b:=false) [0] [] rfl sc_law_core_right.nd (λ_ _ _=>aQd ..) (.own (.cap (i:=2) rfl (by decide +kernel) .nil)) (aQh rfl) (aZm (dv 1)) (cg_name (i:=0)) (λ_ _ _ _ _=>aQg (i:=0) (nd_ ["name", "core"]) rfl (bB rfl) (.inr rfl)) (λ_ _ _ _ _=>bZ8 (by exact(dX2 j (dv 0) (dv 1)))) aQk (λ_ _ _ _ _ _=>aQj rfl (by exact PD.o (dv 0))))
  (aQ2 (aQe (i:=4) sc_law_core_right.nd rfl (bB rfl) (aQ6 d_law_parted j rfl (aQ0 (dv 0) (aQ0 (dv 3) (aQ0 (fZ3 aQ4 (aZ2 rfl B.len (aQ0 (dv 2) aQ1))) aQ1)))))
  (aQ2 (aQe (i:=5) sc_law_core_right.nd rfl (ie rfl) (aQz (b:=false) j rfl B.sorted (aQ0 (aQy (N':=["petal", "core"]) (oc:=none) (b:=false) [0] [] rfl sc_law_core_right.nd (λ_ _ _=>aQd ..) (.own (.cap (i:=2) rfl (by decide +kernel) .nil)) (aQh rfl) (aZm (dv 4)) (cg_name (i:=0)) (λ_ _ _ _ _=>aQg (i:=0) (nd_ ["petal", "core"]) rfl (bB rfl) (.inr rfl)) (λ_ _ _ _ _=>aQo) aQk (λ_ _ _ _ _ _=>aQj rfl (by exact PD.o (aQm rfl B.tuple (aQ0 (aQz (b:=false) j rfl B.sorted (aQ0 (aQw (k:=false) (dv 1) (dv 0)) aQ1)) aQ1))))) aQ1)))
  (aQ2 (aQe (i:=6) sc_law_core_right.nd rfl (bB rfl) (aQw (k:=false) aQ4 (aQ6 d_law_next j rfl (aQ0 (dv 0) (aQ0 aQ4 aQ1)))))
  (aQ2 (aXg (aQ6 d_flower_by_way j rfl (aQ0 (aQm rfl B.tuple (aQ0 (dv 5) aQ1)) (aQ0 (dv 6) aQ1))) (cXu rfl (aX1 (aZg (i:=7) sc_law_core_right.nd rfl (bB rfl)) (aX1 (aZg (i:=8) sc_law_core_right.nd rfl (bB rfl)) bJa))))
  (aQ2 (aZu (dJt j (aZ2 rfl B.len (aQ0 (dv 5) aQ1)) aQ4) (aQ5 (aQf (e_is j (dv 7) aXf))) aQq)
  (aQ2 (bJb (i:=9) rfl (bB rfl) (N':=["name", "sets"]) (oc:=none) (b:=false) [0] [] rfl sc_law_core_right.nd (λ_ _ _=>aQd ..) (.own (.cap (i:=5) rfl (by decide +kernel) .nil)) (aQh rfl) (aZm (dv 2)) (cg_name (i:=0)) (λ_ _ _ _ _=>aQg (i:=0) (nd_ ["name", "sets"]) rfl (bB rfl) (.inr rfl)) (λ_ _ _ _ _=>aQo) aQk (λ_ _ _ _ _ _=>aQj rfl (by exact PD.o (aZ8 (aQ0 aQ4 (aQ0 (dv 0) (aQ0 (aZ2 rfl B.len (aQ0 (dv 1) aQ1)) aQ1)))))))
  (bJc (aZu (dJu j (dX4 (b:=false) rfl B.list (aQ0 (e_sl (b:=false) (dv 8) aZl (aZ9 (aZ2 rfl B.len (aQ0 (dv 2) aQ1)))) aQ1)) (dv 9)) (aQ5 (aQf e_bl)) aQq)
  (bJc (aZu (bJ6 j (aZ2 rfl B.len (aQ0 (dv 5) aQ1)) (dv 6)) (aQ5 (aQf (e_is j (dv 7) aXf))) aQq)
  (aQ2 (aQe (i:=10) sc_law_core_right.nd rfl (bB rfl) (e_sl (b:=false) (dv 4) aZl (aZ9 (dv 6))))
  (aQ2 (aQe (i:=11) sc_law_core_right.nd rfl (bB rfl) (aQm rfl B.tuple (aQ0 (aQz (b:=false) j rfl B.sorted (aQ0 (aQy (N':=["petal", "core"]) (oc:=none) (b:=false) [0] [] rfl sc_law_core_right.nd (λ_ _ _=>aQd ..) (.own (.cap (i:=2) rfl (by decide +kernel) .nil)) (aQh rfl) (aZm (dv 10)) (cg_name (i:=0)) (λ_ _ _ _ _=>aQg (i:=0) (nd_ ["petal", "core"]) rfl (bB rfl) (.inr rfl)) (λ_ _ _ _ _=>aQo) aQk (λ_ _ _ _ _ _=>aQj rfl (by exact PD.o (aQm rfl B.tuple (aQ0 (aQz (b:=false) j rfl B.sorted (aQ0 (aQw (k:=false) (dv 1) (dv 0)) aQ1)) aQ1))))) aQ1)) aQ1)))
  (aQ5 (aQf (eJd (e_eq j (dv 7) (dv 11)) (eJc (e_eq j (e_sl (b:=false) (dv 8) (aZ9 (aZ2 rfl B.len (aQ0 (dv 2) aQ1))) aZl) (aZ8 (aQ0 (aZ8 (aQ0 (aZ2 rfl B.len (aQ0 (dv 5) aQ1)) (aQ0 aXf (aQ0 (aZ2 rfl B.len (aQ0 (dv 5) aQ1)) aQ1)))) aQ1))))))))))))))))))),?_⟩
 ·rintro ds S Q ⟨a,names,rfl,_⟩;rfl
 ·rintro ds S Q ⟨a,names,rfl,hP,dk,hn,h24,h2,q⟩;have L:pt≠a:=λz=>by obtain⟨cs,i,r,s,c,hS,_⟩:=dk;rw[z,hS] at hP;cases hP
  refine⟨a,5,rfl,dk,by decide,by decide,λr1 S1 r10 r11 Z dk1=>?_⟩
  obtain⟨c,hc,c1,c5⟩:∃c:Nat,1+r1=c/\1<=c/\c<=5:=⟨(1+r1).toNat,by omega,by omega,by omega⟩
  refine⟨a,names,c,congrArg (λz:Int=>[D.ref a,tupS names,.int z]) hc,dk1,hn.nodup,by omega,by omega,λcore S2 ho hol Y dk2=>?_⟩
  have hcs:Srt core:=cQk ho.1 ho.2.1;have l5:core.length<=5:=Nat.le_trans ho.2.2.2 c5;have l1:1<=core.length:=by omega
  have hsub:=ho.2.2.1;clear ho hol;refine⟨names.map D.str,rfl,aXi (p:=λn=>!decide (n∈core)) (f:=D.str) (λn hn' Q q=>in_t (E:=strE) (neg:=true) (by decide) rfl q) (λn hn' _ Q q=>q) (aQ8 (by show 0+names.length<=9999;omega)) ?_⟩
  rw[bN];have hl:Srt (names.filter λn=>!decide (n∈core)):=hn.filter _;have hl2:∀x∈names.filter (λn=>!decide (n∈core)),x∉core:=λx hx=>by simpa using (bL.mp hx).2
  have hl3:∀x∈names.filter (λn=>!decide (n∈core)),x∈names:=λx hx=>(bL.mp hx).1;have hl4:(names.filter λn=>!decide (n∈core)).length<=24:=Nat.le_trans (d5 _ _) h24;generalize names.filter (λn=>!decide (n∈core))=left at hl hl2 hl3 hl4;refine⟨_,rfl,?_⟩;obtain⟨mo,hmo,mo6⟩:∃mo:Nat,(6:Int)-((core.map D.str).length:Nat)=mo/\mo=6-core.length:=⟨6-core.length,by rw[am];omega,rfl⟩
  refine⟨a,.lst (left.map D.str),left,mo,congrArg (λz:Int=>[D.ref a,D.lst (left.map D.str),.int z]) hmo,.inr rfl,dk2,hl,by omega,λbs S3 hs ap he lb1 lb14 U dk3=>?_⟩
  have cp:CorP core bs:=⟨hcs,hs,λp J=>⟨(he p J).1,λx hx=>hl2 x ((he p J).2.2 x hx)⟩,ap⟩;have v:=CorP.len core bs;have ts6:∀t∈cts core bs,t.length<=6:=λt ht=>by
   obtain⟨p,J,rfl⟩:=CorP.mem.mp ht
   have:=(he p J).2.1
   rw[(aZo _).length_eq,aG];omega
  have hW:Wc 6 (cts core bs):=⟨cp.ts,λt ht=>⟨cp.tsE t ht,ts6 t ht⟩,by omega,Nat.le_trans (bQ7 (N:=names) λt ht x hx=>by
   obtain⟨p,J,rfl⟩:=CorP.mem.mp ht;rcases((cp.one J).2.2 x).mp hx with z|z
   ·exact hsub x z
   ·exact hl3 x ((he p J).2.2 x z)) (by omega)⟩
  have hP3:S3 pt=some (.tb lposM (lamQual "most_had")):=(U pt L).trans ((Y pt L).trans ((Z pt L).trans hP));have offA:Off a S S3:=Z.trans (Y.trans U);refine⟨bs.map tupS,rfl,aQs (f:=λp=>tupS (srS (core++p))) (λp J Q q=>⟨aQ8 (by rw[am,am];have:=(he p J).2.1;omega),.inl ⟨core++p,by rw[bE];rfl,_,rfl,q⟩⟩) (aQ8 (by show 0+bs.length<=9999;omega)) ?_⟩
  refine .inr (.inr ⟨bs.map λp=>srS (core++p),by rw[bN];show _=_;rw[bS];rfl,?_⟩)
  rw[show srT (bs.map λp=>srS (core++p))=cts core bs from rfl]
  refine⟨a,5,rfl,dk3,by decide,by decide,λr2 S4 r20 r21 O dk4=>?_⟩
  obtain⟨m,hm,m2,m6⟩:∃m:Nat,2+r2=m/\2<=m/\m<=6:=⟨(2+r2).toNat,by omega,by omega,by omega⟩
  have hP4:S4 pt=some (.tb lposM (lamQual "most_had")):=(O pt L).trans hP3;refine⟨_,rfl,cts core bs,m,congrArg (λz:Int=>[D.tup ((cts core bs).map tupS),.int z]) hm,hP4,hW,by omega,?_⟩
  have fin:∀b,b=true->rtD Q (.bl b) S4:=λb hb=>by rw[hb];exact aQl (q _ (offA.trans O) dk4)
  have f6:6=core.length+(6-core.length):=by omega
  show eJl _ _ (.tup [opT (flW m (wayS m 6 (cts core bs))),trD (wayS m 6 (cts core bs))]) _ S4 _;refine⟨rfl,rfl,?_⟩;refine⟨_,rfl,rfl,_,rfl,?_⟩;rw[am,v];rw[if_neg (show ¬ (false=true) by decide),show decide (D.int (bs.length:Nat)=D.int 1)=decide (bs.length=1) from decide_eq_decide.mpr ⟨λe=>by injection e;omega,λe=>by rw[e];rfl⟩]
  have few:bs.length<m->opT (flW m (wayS m 6 (cts core bs)))=.non:=λz=>by rw[cQq (by rw[v];exact z)];rfl
  have tell:bs.length<m->∀Q':DK,Q' (.bl true) S4->isD false (opT (flW m (wayS m 6 (cts core bs)))) .non S4 Q':=λz Q' hq=>by rw[few z];exact hq
  refine ite2 (λh=>tell (by have:=of_decide_eq_true h;omega) _ (fin _ rfl)) λh=>?_
  have b2:2<=bs.length:=by have:¬ bs.length=1:=λz=>h (decide_eq_true z);omega
  have way:=cp.way (m:=m) (f:=6-core.length) m2 b2;rw[<- f6] at way;have etr:trD (wayS m 6 (cts core bs))=.tup (core.map (λn=>stD (1,n,bs.length))++((wayS m (6-core.length) bs).1.map stD++[laD (wayS m (6-core.length) bs).2])):=by
   rw[way];unfold trD;rw[bE,bS,aU];rfl
  rw[etr];have rla:=dZh (wayS m (6-core.length) bs).1 (wayS m (6-core.length) bs).2;have rel:m<=bs.length->(wayS m (6-core.length) bs).1.map stD++[laD (wayS m (6-core.length) bs).2]=[.tup [.int (bs.length:Nat),.non,.int (bs.length:Nat)]]:=λz=>by
   rw[(bQ4 (m:=m) (f:=6-core.length) hs (λt ht=>(he t ht).1) ap z).1];unfold laD;rw[aZy ap];rfl
  generalize (wayS m (6-core.length) bs).1.map stD++[laD (wayS m (6-core.length) bs).2]=rest at rla rel;refine⟨core.map D.str,rfl,aQs (f:=λn=>stD (1,n,bs.length)) (λn hn' Q q=>⟨_,rfl,aQ8 (by show 3<=9999;decide),?_⟩) (aQ8 (by show 0+core.length<=9999;omega)) ?_⟩
  ·rw[am,v];exact q
  rw[bN];have stA:∀d∈core.map (λn=>stD (1,n,bs.length)),StpD d:=λd hd=>by
   obtain⟨n,_,rfl⟩:=bW.mp hd;exact⟨_,_,_,rfl,.inr ⟨_,rfl⟩⟩
  have lA:((core.map D.str).length:Int)=((core.map λn=>stD (1,n,bs.length)).length:Int):=by rw[am,am]
  refine⟨fun Γ' S'=>S'=S4/\Γ'=[some (.ref a),some (tupS names),some (tupS core),some (.lst (left.map D.str)),some (.lst (bs.map tupS)),some (.lst ((cts core bs).map tupS)),some (.int (2+r2)),some (opT (flW m (wayS m 6 (cts core bs)))),some (.tup (core.map (λn=>stD (1,n,bs.length))++rest)),some (.lst (core.map λn=>stD (1,n,bs.length))),none,none],?_,?_⟩
  ·refine⟨_,rfl,?_⟩;refine⟨_,rfl,?_⟩;dsimp only[slD];rw[lA,eZ7,List.take_left];refine⟨_,rfl,?_⟩;have okl:okE 9 (.lst (core.map λn=>stD (1,n,bs.length))) (.lst (core.map λn=>stD (1,n,bs.length)))=true:=cQp _ _ stA stA 8 (by decide)
   refine⟨okl,false,eQo rfl,?_⟩;exact ite2 (λh=>nomatch h) λ_=>⟨rfl,rfl⟩
  rintro Γ S' ⟨rfl,rfl⟩
  by_cases bm:m<=bs.length
  ·refine⟨fun Γ' S2=>S2=S'/\Γ'=[some (.ref a),some (tupS names),some (tupS core),some (.lst (left.map D.str)),some (.lst (bs.map tupS)),some (.lst ((cts core bs).map tupS)),some (.int (2+r2)),some (opT (flW m (wayS m 6 (cts core bs)))),some (.tup (core.map (λn=>stD (1,n,bs.length))++rest)),some (.lst (core.map λn=>stD (1,n,bs.length))),none,none],?_,?_⟩
   ·refine⟨_,rfl,_,rfl,?_⟩;rw[am,v,decide_eq_false (by omega)]
    exact ite2 (λh=>nomatch h) λ_=>⟨rfl,rfl⟩
   rintro Γ S2 ⟨rfl,rfl⟩;have fl:=(cp.fl (m:=m) (f:=6-core.length) m2 bm).2;rw[<- f6] at fl;rw[fl,rel bm];refine⟨m,congrArg D.int hm,bs.map tupS,rfl,?_⟩;rw[aJg];refine⟨(bs.take m).map tupS,rfl,aQs (f:=λp=>tupS (srS (core++p))) (λp J Q q=>⟨aQ8 (by rw[am,am];have:=(he p (bD J)).2.1;omega),.inl ⟨core++p,by rw[bE];rfl,_,rfl,q⟩⟩) (aQ8 (by show 0+(bs.take m).length<=9999;rw[aQ];omega)) ?_⟩
   refine .inr (.inr ⟨(bs.take m).map λp=>srS (core++p),by rw[bN];show _=_;rw[bS];rfl,_,rfl,?_⟩)
   rw[show srT ((bs.take m).map λp=>srS (core++p))=cts core (bs.take m) from rfl]
   refine⟨flE.ok 9 (cts core (bs.take m)) (cts core (bs.take m)) (by decide),true,fQ8 rfl,?_⟩
   refine ite2 (λ_=>?_) λh=>absurd rfl h;refine⟨_,rfl,?_⟩;refine⟨_,rfl,?_⟩;dsimp only[slD,bJ9];rw[lA,eZ8,List.drop_left];refine⟨_,rfl,_,rfl,aQ8 (by show 3<=9999;decide),aQ8 (by show 1<=9999;decide),?_⟩
   rw[am,v];refine⟨rfl,?_⟩;refine fin _ ?_;rw[if_neg (show ¬ (false=true) by decide)]
   exact decide_eq_true rfl
  ·refine⟨fun Γ' S2=>False,?_,λ_ _ h=>h.elim⟩;refine⟨_,rfl,_,rfl,?_⟩;rw[am,v,decide_eq_true (by omega)]
   exact ite2 (λh=>tell (by omega) _ (fin _ rfl)) λh=>absurd rfl h
end
abbrev s_law_chain_right:Stmt:=top 22
theorem sc_law_chain_right:FnScope ["names", "sets", "many", "found", "trace"] ["names"] (aQ3 s_law_chain_right):=fsc
def aX7(pt:Addr):SpD:=λds S Q=>∃(names:List Str),ds=[tupS names]/\S pt=some (.tb lposM (lamQual "most_had"))/\Srt names/\names.length<=24/\2<=names.length/\Q (.bl true) S
section
variable{P:aF}{w:aR}{K:av}{mg:Str->Option ad}{base:bj}{pt cc:Addr}
theorem aXl(T:Tx K mg "_law_chain_right" s_law_chain_right)(B:Bs mg)(d_flower_by_way:Df P w K mg base 5 "flower_by_way" ["sets", "many"] (spU K (bXo pt))):Df P w K mg base 6 "_law_chain_right" ["names"] (spU K (aX7 pt)):=by
 refine aZw T sc_law_chain_right (λF=>F.binds λ_ _ _ _ _ _=>us1 λ_=>rfl) ?_ λf cdv A outer s H E d=>⟨_,(aQ2 (aQe (i:=1) sc_law_chain_right.nd rfl (bB rfl) (aQm rfl B.tuple (aQ0 (aQy (N':=["k", "names"]) (oc:=none) (b:=false) [0] [] rfl sc_law_chain_right.nd (λ_ _ _=>aQd ..) (.own (.cap (i:=0) rfl (by decide +kernel) .nil)) (aQh rfl) (bXc rfl B.range (aQ0 aQ4 (aQ0 (eJh rfl B.min (aQ0 aQ4 (aQ0 (aQw (k:=false) (aZ2 rfl B.len (aQ0 (dv 0) aQ1)) aQ4) aQ1))) aQ1))) (cg_name (i:=0)) (λ_ _ _ _ _=>aQg (i:=0) (nd_ ["k", "names"]) rfl (bB rfl) (.inr rfl)) (λ_ _ _ _ _=>aQo) aQk (λ_ _ _ _ _ _=>aQj rfl (by exact PD.o (e_sl (b:=false) (dv 1) aZl (aZ9 (dv 0)))))) aQ1)))
  (aQ2 (aQe (i:=2) sc_law_chain_right.nd rfl (bB rfl) (aZ2 rfl B.len (aQ0 (dv 1) aQ1)))
  (aQ2 (aZu (bJ7 d (e_ix (aQ6 d_flower_by_way d rfl (aQ0 (dv 1) (aQ0 aQ4 aQ1))) aQ4) aXf) (aQ5 (aQf e_bl)) aQq)
  (aQ2 (aXg (aQ6 d_flower_by_way d rfl (aQ0 (dv 1) (aQ0 aQ4 aQ1))) (cXu rfl (aX1 (aZg (i:=3) sc_law_chain_right.nd rfl (bB rfl)) (aX1 (aZg (i:=4) sc_law_chain_right.nd rfl (bB rfl)) bJa))))
  (aQ2 (aZu (dJt d (dv 2) aQ4) (aQ5 (aQf (e_is d (dv 3) aXf))) aQq)
  (aQ5 (aQf (eJd (e_eq d (dv 3) (e_sl (b:=false) (dv 1) aZl (aZ9 aQ4))) (eJc (e_eq d (dv 4) (aZ8 (aQ0 (aZ8 (aQ0 aQ4 (aQ0 (e_ix (dv 0) aQ4) (aQ0 (dv 2) aQ1)))) (aQ0 (aZ8 (aQ0 aQ4 (aQ0 aXf (aQ0 (dv 2) aQ1)))) aQ1))))))))))))),?_⟩
 ·rintro ds S Q ⟨names,rfl,_⟩;rfl
 ·rintro ds S Q ⟨names,rfl,Y,O,h24,h2,q⟩;obtain⟨L,hL,l2,l6,ln⟩:∃L:Nat,(if ((names.length:Nat):Int)+1<7 then ((names.length:Nat):Int)+1 else 7)=((L+1:Nat):Int)/\2<=L/\L<=6/\L<=names.length:=by
   split
   ·exact⟨names.length,by omega,h2,by omega,Nat.le_refl _⟩
   ·exact⟨6,by omega,by omega,by omega,by omega⟩
  refine⟨_,rfl,?_⟩;rw[am];dsimp only[dC,dNil,addD,i2D];rw[hL];refine⟨⟨by decide,by decide,by omega,by omega⟩,?_⟩
  have eL:(((L+1:Nat):Int)-1).toNat=L:=by omega
  rw[eL];refine aX4 (λi acc S'=>S'=S/\acc=((a6 i).map λi=>names.take (i+1)).map tupS) ⟨rfl,rfl⟩ ?_ ?_
  ·rintro i x acc S' N hx ⟨rfl,rfl⟩ hN;obtain⟨hi,rfl⟩:=aX2 L 1 i x hx;refine⟨trivial,_,rfl,?_⟩;show(hU tupS (hU (λi=>jv (i+1) names) (a6 i))).length<sizeLine/\N (hU tupS (hU (λi=>jv (i+1) names) (a6 i))++[D.tup (cutD (names.map D.str) none (some (((1:Nat):Int)+(i:Int))))]) S';rw[show((1:Nat):Int)+(i:Int)=((i+1:Nat):Int) by omega,aJf,HT.sIx_none,HT.sIx_nat,fm,Nat.sub_zero,Nat.min_eq_left (show i+1<=names.length by omega)]
   refine⟨aQ8 (by rw[am,am,cj];omega),hN _ _ ⟨rfl,?_⟩⟩
   rw[gG,bE,bE];rfl
  rintro acc S' ⟨rfl,rfl⟩;rw[aZn];rw[show(a6 L).map (λi=>names.take (i+1))=prs names 1 L from rfl]
  obtain⟨x,y,xs,rfl⟩:∃x y xs,names=x::y::xs:=by
   match names,h2 with
   |x::y::xs,_=>exact⟨x,y,xs,rfl⟩
  obtain⟨n,rfl⟩:∃n,L=n+2:=⟨L-2,by omega⟩
  have he:∀t∈prs (x::y::xs) 1 (n+2),Srt t/\t.length<=6:=λt v=>by
   obtain⟨i,hi,rfl⟩:=mem_prs.mp v;exact⟨gl (c7 _ _) O,by rw[aQ];omega⟩
  have J:SrtT (prs (x::y::xs) 1 (n+2)):=bZo (by omega)
  have hl:=bJn (x::y::xs) 1 (n + 2);have U:Wc 6 (prs (x::y::xs) 1 (n + 2)):=⟨J,he,by omega,Nat.le_trans (bQ7 (N:=x::y::xs) λt v=>by
   obtain⟨i,hi,rfl⟩:=mem_prs.mp v;exact λz hz=>bD hz) (by omega)⟩
  obtain⟨w1,w2,w3⟩:=eZ3 (f:=5) O (show n<=xs.length by simp at ln;omega)
  have w0:=dZj (f:=6) (m:=3) (by decide) J (λt v=>(he t v).1) cJt
  refine⟨trivial,_,rfl,_,rfl,?_⟩;rw[am,hl];refine⟨_,3,rfl,Y,U,by decide,?_⟩
  rw[show wayD 3 (prs (x::y::xs) 1 (n+2))=.tup [.non,trD (wayS 3 6 (prs (x::y::xs) 1 (n+2)))] by unfold wayD;rw[w0];rfl]
  refine⟨_,_,rfl,aZe (j:=0) rfl,false,rfl,?_⟩;refine ite2 (λh=>nomatch h) λ_=>?_
  refine⟨_,2,rfl,Y,U,by decide,?_⟩
  have ew:wayD 2 (prs (x::y::xs) 1 (n+2))=.tup [.tup (((prs (x::y::xs) 1 (n+2)).take 2).map tupS),.tup [.tup [.int 1,.str x,.int ((n+2:Nat):Int)],.tup [.int 2,.non,.int ((n+2:Nat):Int)]]]:=by
   unfold wayD trD;rw[w2,w1];unfold laD;rw[w3];dsimp only;rw[bJn];rfl
  have Z:=(bZl 2 (prs (x::y::xs) 1 (n+2))).ok (bZl 2 (prs (x::y::xs) 1 (n+2)));rw[ew] at Z ⊢;refine⟨rfl,?_⟩;refine⟨rfl,?_⟩;have n1:decide (D.int ((n+2:Nat):Int)=D.int 1)=false:=decide_eq_false λz=>by injection z;omega
  refine⟨rfl,false,congrArg D.bl ((if_neg (by decide)).trans n1),?_⟩
  refine ite2 (λh=>nomatch h) λ_=>?_
  refine⟨_,rfl,?_⟩;dsimp only[slD,bJ9];rw[show cutD (hU tupS (prs (x::y::xs) 1 (n+2))) none (some 2)=(jv 2 (prs (x::y::xs) 1 (n+2))).map tupS from aJg _ 2]
  refine⟨flE.ok 9 (jv 2 (prs (x::y::xs) 1 (n+2))) (jv 2 (prs (x::y::xs) 1 (n+2))) (by decide),true,fQ8 rfl,?_⟩
  refine ite2 (λ_=>?_) λh=>absurd rfl h;refine⟨_,_,rfl,aZe (xs:=(x::y::xs).map D.str) (j:=0) rfl,?_⟩;refine⟨aQ8 (show 3<=9999 by decide),aQ8 (show 3<=9999 by decide),aQ8 (show 2<=9999 by decide),rfl,aQl ?_⟩
  rw[if_neg (show ¬ (false=true) by decide),show decide (_=_)=true from decide_eq_true rfl]
  exact q
end
abbrev bZq:Stmt:=top 23
theorem sc_law:FnScope ["script", "pile", "turn", "names", "one", "many", "found", "trace"] ["script"] (aQ3 bZq):=fsc
section
variable{P:aF}{w:aR}{K:av}{mg:Str->Option ad}{base:bj}{pt cc:Addr}
theorem fQf{f:Addr}{fd:cT}(Fn:Fun K "law" "law" bZq f fd)(B:Bs mg)(d_law_pile:Df P w K mg base 49 "_law_pile" ["script"] (spU K bQ1))(d_law_next:Df P w K mg base 49 "_law_next" ["pile", "most"] (spU K aQt))(d_law_names:Df P w K mg base 49 "_law_names" ["pile", "many"] (spU K aJ2))(d_law_set:Df P w K mg base 49 "_law_set" ["pile", "names", "many"] (spU K aXv))(d_law_apart_right:Df P w K mg base 49 "_law_apart_right" ["pile", "names"] (spU K (aX6 pt)))(d_law_core_right:Df P w K mg base 49 "_law_core_right" ["pile", "names"] (spU K (aXk pt)))(d_law_chain_right:Df P w K mg base 49 "_law_chain_right" ["names"] (spU K (aX7 pt)))(d_flower_by_way:Df P w K mg base 49 "flower_by_way" ["sets", "many"] (spU K (bXo pt))):FnOk P w K mg base CX0 50 f fd ["script"] (spU K (cQs pt lposM (lamQual "most_had") 63)):=by
 refine e_fn Fn sc_law ?_ λcdv A outer s H E J=>⟨_,(aQ2 (aQe (i:=1) sc_law.nd rfl (bB rfl) (aQ6 d_law_pile J rfl (aQ0 (dv 0) aQ1)))
  (aQ2 (cQd fL rfl (aXh rfl B.range (aQ0 aQ4 aQ1)) (aZg (i:=2) sc_law.nd rfl (bB rfl)) (aQ2 (aQe (i:=3) sc_law.nd rfl (bB rfl) (aQ6 d_law_names J rfl (aQ0 (dv 1) (aQ0 (aQw (k:=false) aQ4 (aQ6 d_law_next J rfl (aQ0 (dv 1) (aQ0 (e_ix (bXa (b:=false) (aQ0 aQ4 (aQ0 aQ4 aQ1))) (aQ6 d_law_next J rfl (aQ0 (dv 1) (aQ0 aQ4 aQ1)))) aQ1)))) aQ1))))
  (aQ2 (aZu (PWD.pt (dJw (cQb (bQm (aQ6 d_law_apart_right J rfl (aQ0 (dv 1) (aQ0 (dv 3) aQ1))))) (dJw (cQb (bQm (aQ6 d_law_core_right J rfl (aQ0 (dv 1) (aQ0 (dv 3) aQ1))))) (dX3 (cQb (bQm (aQ6 d_law_chain_right J rfl (aQ0 (dv 3) aQ1)))))))) (aQ5 (aQf e_bl)) aQq)
  (aQ2 (aQe (i:=4) sc_law.nd rfl (bB rfl) (aQ6 d_law_set J rfl (aQ0 (dv 1) (aQ0 (dv 3) (aQ0 (aQ6 d_law_next J rfl (aQ0 (dv 1) (aQ0 aQ4 aQ1))) aQ1)))))
  (aQ2 (aQe (i:=5) sc_law.nd rfl (bB rfl) (aQw (k:=false) aQ4 (aQ6 d_law_next J rfl (aQ0 (dv 1) (aQ0 aQ4 aQ1)))))
  (aQ2 (aXg (aQ6 d_flower_by_way J rfl (aQ0 (aZ8 (aQ0 (dv 4) aQ1)) (aQ0 (dv 5) aQ1))) (cXu rfl (aX1 (aZg (i:=6) sc_law.nd rfl (bB rfl)) (aX1 (aZg (i:=7) sc_law.nd rfl (bB rfl)) bJa))))
  (aQ5 (aZu (PWD.pt (dJw (bJ7 J (dv 6) aXf) (dX3 (dJu J (dv 7) (aQm rfl B.tuple (aQ0 (aQw (k:=false) (aQy (N':=["name"]) (oc:=none) (b:=false) [0] [] rfl sc_law.nd (λ_ _ _=>aQd ..) (.own .nil) (aQh rfl) (aZm (dv 4)) (cg_name (i:=0)) (λ_ _ _ _ _=>aQg (i:=0) (nd_ ["name"]) rfl (bB rfl) (.inr rfl)) (λ_ _ _ _ _=>aQo) aQk (λ_ _ _ _ _ _=>aQj rfl (by exact PD.o (aZ8 (aQ0 aQ4 (aQ0 (dv 0) (aQ0 aQ4 aQ1))))))) (bXa (b:=false) (aQ0 (aZ8 (aQ0 aQ4 (aQ0 aXf (aQ0 aQ4 aQ1)))) aQ1))) aQ1)))))) (aQ5 (aQf e_bl)) aQq))))))))
  (aQ5 (aQf (e_eq J (aQ6 d_flower_by_way J rfl (aQ0 (aZ8 aQ1) (aQ0 aQ4 aQ1))) (aZ8 (aQ0 aXf (aQ0 (aZ8 (aQ0 (aZ8 (aQ0 aQ4 (aQ0 aXf (aQ0 aQ4 aQ1)))) aQ1)) aQ1)))))))),?_⟩
 ·rintro ds S Q ⟨ns,rfl,_⟩;rfl
 ·rintro ds S Q ⟨ns,rfl,h63,hP,hS,q⟩;refine⟨ns,rfl,h63,λp S1 hp off dk=>⟨⟨by decide,by decide⟩,?_⟩⟩
  have j:pt≠p:=by rintro rfl;rw[hp] at hP;cases hP
  have hP1:S1 pt=some (.tb lposM (lamQual "most_had")):=(off pt j).trans hP;refine bZb (λi Γ S'=>∃(x2 x3 x4 x5 x6 x7:Option D),Γ=[some (.lst (ns.map D.int)),some (.ref p),x2,x3,x4,x5,x6,x7]/\Pile S' p/\S' pt=some (.tb lposM (lamQual "most_had"))) ⟨none,none,none,none,none,none,rfl,dk,hP1⟩ ?_ ?_
  ·rintro i x Γ S2 N hx ⟨x2,x3,x4,x5,x6,x7,rfl,dk2,O⟩ hN;obtain⟨hi,rfl⟩:=cJb hx;refine⟨trivial,aQ8 (by decide),p,2,rfl,dk2,by decide,by decide,λr0 S2a r00 r01 L dk2a=>?_⟩
   obtain⟨v,hv,v1,v2⟩:∃v:Nat,atI [D.int 11,.int 23] r0=some (.int (v:Nat))/\1<=v/\v<=23:=by
    have h:r0=0\/r0=1:=by omega
    rcases h with rfl|rfl
    ·exact⟨11,rfl,by decide,by decide⟩
    ·exact⟨23,rfl,by decide,by decide⟩
   refine⟨_,_,rfl,hv,p,v,rfl,dk2a,by omega,by omega,λr1 S3 r10 r11 off3 dk3=>?_⟩
   obtain⟨nn,hn,n24,n2⟩:∃nn:Nat,2+r1=nn/\nn<=24/\2<=nn:=⟨(2+r1).toNat,by omega,by omega,by omega⟩
   refine⟨p,nn,congrArg (λz:Int=>[D.ref p,.int z]) hn,dk3,n24,λnames S4 nd pw hl h1 off4 dk4=>?_⟩;have hs:Srt names:=cQk nd pw;have hP4:S4 pt=some (.tb lposM (lamQual "most_had")):=by
    rw[off4 pt j,off3 pt j,L pt j];exact O
   refine⟨p,names,rfl,hP4,dk4,hs,by omega,λS5 off5 dk5=>cJo (ite2 (λh=>nomatch h) λ_=>?_)⟩
   have hP5:S5 pt=some (.tb lposM (lamQual "most_had")):=(off5 pt j).trans hP4;refine⟨p,names,rfl,hP5,dk5,hs,by omega,by omega,λS6 off6 dk6=>cJo (ite2 (λh=>nomatch h) λ_=>?_)⟩
   have hP6:S6 pt=some (.tb lposM (lamQual "most_had")):=(off6 pt j).trans hP5;refine⟨names,rfl,hP6,hs,by omega,by omega,cJo (ite2 (λh=>nomatch h) λ_=>?_)⟩
   refine⟨p,7,rfl,dk6,by decide,by decide,λr2 S7 r20 r21 off7 dk7=>?_⟩
   obtain⟨sz,hsz,s6⟩:∃sz:Nat,r2=sz/\sz<=6:=⟨r2.toNat,by omega,by omega⟩
   refine⟨p,names,sz,congrArg (λz:Int=>[D.ref p,tupS names,.int z]) hsz,dk7,nd,by omega,by omega,λone S8 ho hol Z dk8=>?_⟩
   have hos:Srt one:=cQk ho.1 ho.2.1;have l6:one.length<=6:=Nat.le_trans ho.2.2.2 s6;refine⟨p,5,rfl,dk8,by decide,by decide,λr3 S9 r30 r31 Y dk9=>?_⟩
   obtain⟨m,hm,m2,m6⟩:∃m:Nat,2+r3=m/\2<=m/\m<=6:=⟨(2+r3).toNat,by omega,by omega,by omega⟩
   have hP9:S9 pt=some (.tb lposM (lamQual "most_had")):=(Y pt j).trans ((Z pt j).trans ((off7 pt j).trans hP6));have hW:Wc 6 [one]:=⟨a4 _ _,λt ht=>by rw[ay.mp ht];exact⟨hos,l6⟩,by show 1<=_;decide,Nat.le_trans (bQ7 (N:=one) λt ht x hx=>by rw[ay.mp ht] at hx;exact hx) (by omega)⟩
   dsimp only[addD,aZa];rw[hm];refine⟨aQ8 (show 1<=9999 by decide),[one],m,rfl,hP9,hW,by omega,?_⟩
   obtain⟨f,hf⟩:∃f:Nat,6=one.length+f:=⟨6-one.length,by omega⟩
   have w1:=eZ1 (m:=m) m2 hos f;rw[<- hf] at w1;have ew:wayD m [one]=.tup [.non,.tup (one.map (λn=>stD (1,n,1))++[.tup [.int 1,.non,.int 1]])]:=by
    unfold wayD;rw[cQq (show [one].length<m by show 1<m;omega),w1]
    unfold trD;rw[bS];rfl
   rw[ew];refine⟨rfl,?_⟩;refine⟨rfl,?_⟩;refine⟨false,rfl,?_⟩;refine ite2 (λh=>nomatch h) λ_=>?_
   refine⟨one.map D.str,rfl,aQs (f:=λn=>stD (1,n,1)) (λn hn' Q q=>⟨aQ8 (show 3<=9999 by decide),q⟩) (aQ8 (by show 0+one.length<=9999;omega)) ?_⟩
   rw[bN];refine⟨aQ8 (show 3<=9999 by decide),aQ8 (show 1<=9999 by decide),?_⟩
   have okT:okE 9 (.tup (one.map (λn=>stD (1,n,1))++[.tup [.int 1,.non,.int 1]])) (.tup (one.map (λn=>stD (1,n,1))++[.tup [.int 1,.non,.int 1]]))=true:=by
    have U:∀d∈one.map (λn=>stD (1,n,1))++[.tup [.int 1,.non,.int 1]],StpD d:=λd hd=>by
     rcases aL.mp hd with z|z
     ·obtain⟨n,_,rfl⟩:=bW.mp z;exact⟨_,_,_,rfl,.inr ⟨_,rfl⟩⟩
     ·rw[ay.mp z];exact⟨_,_,_,rfl,.inl rfl⟩
    exact cQp _ _ U U 8 (by decide)
   refine⟨_,_,rfl,rfl,aQ8 (by rw[am];show one.length+1<=9999;omega),_,rfl,okT,false,eQo rfl,?_⟩
   exact ite2 (λh=>nomatch h) λ_=>hN _ _ ⟨_,_,_,_,_,_,rfl,dk9,hP9⟩
  ·rintro Γ S2 ⟨x2,x3,x4,x5,x6,x7,rfl,dk2,O⟩;have hW:Wc 6 ([]:List (List Str)):=⟨e9,λt ht=>(by cases ht),(by decide),Nat.le_trans (bQ7 (N:=[]) λt ht=>by cases ht) (by decide)⟩
   refine⟨trivial,aQ8 (show 0<=9999 by decide),[],2,rfl,O,hW,by decide,?_⟩
   have ew:wayD 2 []=.tup [.non,.tup [.tup [.int 0,.non,.int 0]]]:=by
    unfold wayD;rw[cQq (show([]:List (List Str)).length<2 by decide),aZb (show goW 2 ([]:List (List Str))=false by rfl)]
    rfl
   rw[ew];refine⟨aQ8 (show 3<=9999 by decide),aQ8 (show 1<=9999 by decide),aQ8 (show 2<=9999 by decide),rfl,?_⟩
   rw[if_neg (show ¬ (false=true) by decide),show decide (_=_)=true from decide_eq_true rfl]
   exact aXu (λ_ _ e=>e) (q _)
end
end Toy
set_option maxHeartbeats 4000000
namespace Toy
open PySem L2
theorem fin{l:PySem.W.OpenLaw}{w:aR}{K:av}{h:bj}{mg:Str->Option ad}{fa f3:Addr}(X:K.In h)(G:h.Ns aZ mg)(hfa:mg "law"=some (.ref fa))(B:Bs mg){cc pt:Addr}(CD:bXk K mg "most_had" cc)(AB:mg "abs"=none)
  (T1:Tx K mg "has_all" s_has_all) (T2:Tx K mg "meets" s_meets) (T3:Tx K mg "without_names" s_without_names) (T4:Tx K mg "names_of" s_names_of) (T5:Tx K mg "link_of" s_link_of) (T6:Tx K mg "flower_by_way" s_flower_by_way) (T7:Tx K mg "chosen_of" s_chosen_of) (T8:Tx K mg "most_had" s_most_had) (T9:Tx K mg "how_many_have" s_how_many_have) (T10:Tx K mg "put_again" s_put_again) (T11:Tx K mg "_law_pile" s_law_pile) (T12:Tx K mg "_law_next" s_law_next) (T13:Tx K mg "_law_names" s_law_names) (T14:Tx K mg "_law_set" s_law_set) (T15:Tx K mg "_law_parted" s_law_parted) (T16:Tx K mg "_law_apart_right" s_law_apart_right) (T17:Tx K mg "_law_core_right" s_law_core_right) (T18:Tx K mg "_law_chain_right" s_law_chain_right)
  {od3 an3:Option Addr}{sl3:Array (Option ad)}{oc3 kV3 dc3 pm3 cd3 ct3:ad}
  (a3:bF K aZ "law"=some (some (.ref f3))) (l3:K.lookup f3=some ⟨oc3,od3,.func (er "law" "law" (aX8 bZq) (aZ3 bZq) (aQ3 bZq) .none kV3 dc3 pm3 an3 cd3 ct3),sl3⟩) (c3:fU K cd3 "law"=true) (k3:fj K (.ref f3)=true) :
  ∃fd:cT,(∀(s:ah) (v:ad),BindsTo s fd ⟨[v],[]⟩ [("script",v)])/\∀base:bj,K.In base->base.Ns aZ mg->TabF base mg cc pt->FnOk l.prog w K mg base CX0 50 fa fd ["script"] (spU K (cQs pt lposM (lamQual "most_had") 63)):=by
 have e:=hfa.symm.trans (jx X G a3);cases e;refine⟨er "law" "law" (aX8 bZq) (aZ3 bZq) (aQ3 bZq) .none kV3 dc3 pm3 an3 cd3 ct3,λs v=>.of_eq rfl,λbase XB GB TF=>?_⟩;have F3:=dZm (st:=bZq) l3 c3 k3;have d_law_pile:=bJh (P:=l.prog) (w:=w) (base:=base) T11 B;have i:=bJi (P:=l.prog) (w:=w) (base:=base) T12 B AB;have Y:=bXj (P:=l.prog) (w:=w) (base:=base) T13 B (i.mono (by decide))
 have O:=cZe (P:=l.prog) (w:=w) (base:=base) T14 B (i.mono (by decide))
 have j:=bZp (P:=l.prog) (w:=w) (base:=base) T15 B (i.mono (by decide))
 have d_meets:=dZk (P:=l.prog) (w:=w) (base:=base) T2 B;have Z:=bXm (P:=l.prog) (w:=w) (base:=base) T7 B (d_meets.mono (by decide))
 have N:=aJ9 (P:=l.prog) (w:=w) (base:=base) T9 B;have d_most_had:=bJp (P:=l.prog) (w:=w) (base:=base) T8 B CD TF (N.mono (by decide))
 have d_names_of:=bJq (P:=l.prog) (w:=w) (base:=base) T4 B;have d_has_all:=cZf (P:=l.prog) (w:=w) (base:=base) T1 B;have L:=aJa (P:=l.prog) (w:=w) (base:=base) T3 B;have d_link_of:=cZg (P:=l.prog) (w:=w) (base:=base) T5 B (d_has_all.mono (by decide)) (L.mono (by decide))
 have U:=bXn (P:=l.prog) (w:=w) (base:=base) T10 B;have d:=aJb (P:=l.prog) (w:=w) (base:=base) T6 B (Z.mono (by decide)) (d_most_had.mono (by decide)) (d_names_of.mono (by decide)) (d_link_of.mono (by decide)) (U.mono (by decide))
 have D:=aXj (P:=l.prog) (w:=w) (base:=base) T16 B (j.mono (by decide)) (d.mono (by decide))
 have J:=aXx (P:=l.prog) (w:=w) (base:=base) T17 B (i.mono (by decide)) (O.mono (by decide)) (j.mono (by decide)) (d.mono (by decide))
 have z:=aXl (P:=l.prog) (w:=w) (base:=base) T18 B (d.mono (by decide))
 exact fQf F3 B (d_law_pile.mono (by decide)) (i.mono (by decide)) (Y.mono (by decide)) (O.mono (by decide)) (D.mono (by decide)) (J.mono (by decide)) (z.mono (by decide)) (d.mono (by decide))
end Toy
namespace PySem.W.Fast
theorem tw350514626142565809:True:=⟨⟩
theorem tw5351939120193996720:True:=⟨⟩
theorem tw4059410615272372811:True:=⟨⟩
theorem tw10940217751803149772:True:=⟨⟩
theorem tw846135955214225567:True:=⟨⟩
theorem tw11283812759323209729:True:=⟨⟩
theorem tw5169579247831795604:True:=⟨⟩
theorem tw8945782372213514912:True:=⟨⟩
theorem tw14488459405040905870:True:=⟨⟩
theorem tw10138679755677071350:True:=⟨⟩
theorem tw11157647096083896333:True:=⟨⟩
theorem tw14721258783424391447:True:=⟨⟩
end PySem.W.Fast
open PySem PySem.W PyProof.Rows
set_option maxRecDepth 100000 in
set_option maxHeartbeats 0 in
theorem PySem.Challenge.cw_corepetals_k14_way_at_its_edges_holds : PySem.Challenge.rw_corepetals_k14_way_at_its_edges.Holds := by
 w_on;o_law;k_head;(case hw=>w_witness2)
 k_fill
 refine L2.walkT (l:=PySem.Challenge.rw_corepetals_k14_way_at_its_edges) (x:="most_had") (lp:=Toy.lposM) (qual:=L2.lamQual "most_had") rfl rfl (λw h Y=>⟨PySem.W.km_in_of Y,PySem.W.km_tabs_of Y _ aq⟩) ?R;refine' ⟨_,?ht,?hh,?hno,?F⟩
 case ht =>
  intro p;refine' L2.codeIn_mk ?a ?l ?e
  (case a=>k_is);(case l=>k_is);(case e=>rfl)
 case hh=>intro p;kernel_rfl
 case hno=>intro p;first|rfl|kernel_rfl
 case F =>
  intro w mg fa h KX G hmg CD;have B:L2.Bs mg:=by
   refine' L2.bs_mk KX G (L2.bs_all ?z1 ?z2 ?z3 ?z4 ?z5 ?z6 ?z7 ?z8 ?z9 ?z10 ?z11 ?z12 ?z13 ?z14 ?z15 ?z16 ?z17) <;> k_is
  have AB:mg "abs"=none:=by
   refine' PySem.W.mg_none_of KX G ?z
   k_is
  have T1:L2.Tx (L2.KOf KX) mg "has_all" Toy.s_has_all:=by
   dsimp only[L2.KOf];exact L2.tx_mk KX G (by k_is) (by k_is) (by k_is) (by k_is)
  have T2:L2.Tx (L2.KOf KX) mg "meets" Toy.s_meets:=by
   dsimp only[L2.KOf];exact L2.tx_mk KX G (by k_is) (by k_is) (by k_is) (by k_is)
  have T3:L2.Tx (L2.KOf KX) mg "without_names" Toy.s_without_names:=by
   dsimp only[L2.KOf];exact L2.tx_mk KX G (by k_is) (by k_is) (by k_is) (by k_is)
  have T4:L2.Tx (L2.KOf KX) mg "names_of" Toy.s_names_of:=by
   dsimp only[L2.KOf];exact L2.tx_mk KX G (by k_is) (by k_is) (by k_is) (by k_is)
  have T5:L2.Tx (L2.KOf KX) mg "link_of" Toy.s_link_of:=by
   dsimp only[L2.KOf];exact L2.tx_mk KX G (by k_is) (by k_is) (by k_is) (by k_is)
  have T6:L2.Tx (L2.KOf KX) mg "flower_by_way" Toy.s_flower_by_way:=by
   dsimp only[L2.KOf];exact L2.tx_mk KX G (by k_is) (by k_is) (by k_is) (by k_is)
  have T7:L2.Tx (L2.KOf KX) mg "chosen_of" Toy.s_chosen_of:=by
   dsimp only[L2.KOf];exact L2.tx_mk KX G (by k_is) (by k_is) (by k_is) (by k_is)
  have T8:L2.Tx (L2.KOf KX) mg "most_had" Toy.s_most_had:=by
   dsimp only[L2.KOf];exact L2.tx_mk KX G (by k_is) (by k_is) (by k_is) (by k_is)
  have T9:L2.Tx (L2.KOf KX) mg "how_many_have" Toy.s_how_many_have:=by
   dsimp only[L2.KOf];exact L2.tx_mk KX G (by k_is) (by k_is) (by k_is) (by k_is)
  have T10:L2.Tx (L2.KOf KX) mg "put_again" Toy.s_put_again:=by
   dsimp only[L2.KOf];exact L2.tx_mk KX G (by k_is) (by k_is) (by k_is) (by k_is)
  have T11:L2.Tx (L2.KOf KX) mg "_law_pile" Toy.s_law_pile:=by
   dsimp only[L2.KOf];exact L2.tx_mk KX G (by k_is) (by k_is) (by k_is) (by k_is)
  have T12:L2.Tx (L2.KOf KX) mg "_law_next" Toy.s_law_next:=by
   dsimp only[L2.KOf];exact L2.tx_mk KX G (by k_is) (by k_is) (by k_is) (by k_is)
  have T13:L2.Tx (L2.KOf KX) mg "_law_names" Toy.s_law_names:=by
   dsimp only[L2.KOf];exact L2.tx_mk KX G (by k_is) (by k_is) (by k_is) (by k_is)
  have T14:L2.Tx (L2.KOf KX) mg "_law_set" Toy.s_law_set:=by
   dsimp only[L2.KOf];exact L2.tx_mk KX G (by k_is) (by k_is) (by k_is) (by k_is)
  have T15:L2.Tx (L2.KOf KX) mg "_law_parted" Toy.s_law_parted:=by
   dsimp only[L2.KOf];exact L2.tx_mk KX G (by k_is) (by k_is) (by k_is) (by k_is)
  have T16:L2.Tx (L2.KOf KX) mg "_law_apart_right" Toy.s_law_apart_right:=by
   dsimp only[L2.KOf];exact L2.tx_mk KX G (by k_is) (by k_is) (by k_is) (by k_is)
  have T17:L2.Tx (L2.KOf KX) mg "_law_core_right" Toy.s_law_core_right:=by
   dsimp only[L2.KOf];exact L2.tx_mk KX G (by k_is) (by k_is) (by k_is) (by k_is)
  have T18:L2.Tx (L2.KOf KX) mg "_law_chain_right" Toy.s_law_chain_right:=by
   dsimp only[L2.KOf];exact L2.tx_mk KX G (by k_is) (by k_is) (by k_is) (by k_is)
  refine' Toy.fin KX G hmg B CD AB T1 T2 T3 T4 T5 T6 T7 T8 T9 T10 T11 T12 T13 T14 T15 T16 T17 T18 ?a ?l ?c ?k
  (case a=>k_is);(case l=>k_is);(case c=>k_is);(case k=>k_is)
