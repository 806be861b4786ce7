import PyProof.Rows.All
import Wide.All
import OpenK.AllK
import Wide.FinOn
import Lean
import PyProof.EqAt
import PyProof.EqKinds
import PyProof.TupleCall
import PySem.SetOps
import KE.KSortTup
import PyProof.Rows.SortShellK
import KE.KDictSum
import PyProof.Rows.StrJoin2
import PyProof.Rows.SumAny
import KE.KxText
import PyProof.ZipIter
import PyProof.Rows.FactsT2
import PyProof.Rows.ZipGen
import PyProof.StrOps2
import PyProof.ListRange
import PyProof.ListStr
import PyProof.FString5
import PyProof.AutoSeq1
import PyProof.MinMaxWalk
import PyProof.WalksMore
import PyProof.Rows.CallKwBuiltin
import KE.KMinKey
import PyProof.Rows.BitMore
import KE.KLam
import PyProof.TupleIter
import PyProof.MaxThree
import PySem.Challenge.RW_corepetals_k11_whole_enough_and_found
open And renaming intro->iG
open Array renaming filterMap->jc,getD->gw,getD_eq_getD_getElem?->bO,getElem?_eq_some_iff->dl,getElem?_replicate->iu,getElem?_setIfInBounds_ne->gj,getElem?_setIfInBounds_self_of_lt->fh,getElem?_toList->aL,length_toList->aM,mem_of_getElem?->e9,mem_toList_iff->dN,perm_iff_toList_perm->cQ,replicate->fJ,size_append->dP,size_map->jl,size_push->dD,toList_append->cr,toList_push->ca,toList_reverse->fq,toList_setIfInBounds->h8
open Array.Perm renaming refl->je
open Bool renaming and_eq_true->a6,eq_false_iff->eB,eq_iff_iff->jd,false_eq_true->aN,false_ne_true->dH,not_eq_true'->dw,not_false->jn,not_true->fE,true_and->iy
open Classical renaming byContradiction->aY
open False renaming elim->dh
open ForInStep renaming done->ba,yield->bh
open Int renaming toNat_natCast->b8
open LawfulBEq renaming eq_of_beq->fQ
open LawfulMonad renaming pure_bind->iF
open List renaming Nodup->fL,Pairwise->jB,Perm->jv,all_eq_true->bF,all_map->gP,any_eq_true->d3,any_map->jb,append_assoc->aV,append_nil->bB,drop_append->fy,drop_append_of_le_length->eU,drop_eq_getElem_cons->cS,drop_eq_nil_of_le->cb,drop_length->eP,drop_zero->f7,eq_nil_of_length_eq_zero->bX,ext_getElem->iR,ext_getElem?->ff,filterMap_append->gk,filterMap_cons->cq,filter_congr->iq,flatMap_cons->gi,flatten_append->dz,flatten_cons->io,flatten_singleton->dX,forIn_cons->fG,getD_eq_getElem?_getD->ah,getElem?_append_left->dG,getElem?_append_right->bU,getElem?_cons_succ->iH,getElem?_cons_zero->iP,getElem?_drop->g7,getElem?_eq_getElem->ag,getElem?_eq_none->bV,getElem?_eq_some_iff->aC,getElem?_map->aJ,getElem?_range->gJ,getElem?_set_ne->fi,getElem?_take_of_lt->fB,getElem_drop->f9,getElem_map->iS,getElem_mem->db,getElem_of_mem->be,getElem_take->f8,isEmpty_nil->iM,length->fN,length_append->aA,length_cons->bG,length_drop->bo,length_eq_zero_iff->eN,length_eraseIdx_of_lt->hU,length_map->am,length_nil->dQ,length_pos_iff->dy,length_range->b9,length_singleton->d6,length_take->aR,lookup_cons->cG,lookup_cons_self->gu,mapM_toArray->ik,map_append->cu,map_congr_left->eH,map_cons->bC,map_map->bW,map_nil->fw,mem_append->aP,mem_append_left->cy,mem_append_right->a8,mem_cons->aK,mem_cons_of_mem->ay,mem_cons_self->aq,mem_filter->bH,mem_filterMap->eW,mem_flatten->d4,mem_map->bI,mem_of_getElem?->ao,mem_of_mem_drop->da,mem_of_mem_take->cL,mem_range->aZ,mem_reverse->iO,mem_singleton->aU,mergeSort_perm->gK,nil_append->bS,nodup_append->eC,nodup_cons->bZ,nodup_nil->eM,not_mem_nil->gv,of_mem_zip->dA,pairwise_append->a9,pairwise_cons->bz,pairwise_iff_getElem->bE,pairwise_lt_range->ga,pairwise_map->cV,pairwise_mergeSort->fV,pairwise_reverse->gq,pairwise_singleton->cv,perm_append_comm->cY,perm_append_singleton->g8,perm_middle->fx,range->a7,replicate->gX,reverse_perm->im,size_toArray->ar,take_add_one->bT,take_append_drop->bb,take_append_of_le_length->cW,take_length->dJ,take_of_length_le->bi,take_sublist->dj,take_zero->jp,zip_cons_cons->eX,zip_nil_right->hJ
open List.Pairwise renaming filter->gF,imp_of_mem->cg,nil->fZ
open List.Perm renaming append_left->d7,append_right->dW,refl->dq
open List.Sublist renaming append->jx,refl->jF
open MonadExcept renaming tryCatch->jr
open Ne renaming symm->cz
open Option renaming getD_none->iD,isSome_iff_exists->cF,map_eq_some_iff->bR
open Option.some renaming inj->aQ
open Or renaming inl->bA,inr->ic
open PyProof.Rows renaming AllBare->ij,IntsAre->gL,IsTup->iA,Keyed->aH,SortKind->eO,SortSt->cN,StrsAre->ja,arrOf->aO,callWith_type1->fc,elem'->d5,envOfC->gY,failedOf->fm,get?_update_seq->eg,lt_str->jw,mirror->dF,pairsOf->gD,pairsOf_toList->h9,pendingOf->bJ,reverseSlice'_eq->dg,seqObj->bY,setArr->cJ,setPending->ft,slot_tuple_getitem->ci,sortedHeap->gy,wpS_bind->ax,wpS_forRange->bL,wpS_get->gQ,wpS_lift->hZ,wpS_modify->cO,wpS_mono->de,wpS_pure->aB
open PyProof.Rows.F renaming entry_set_update_loop->cU,plain_set_update_loop->bN
open PyProof.Rows.SortSt renaming mk'->hX
open PySem renaming Around->a4,Builtin->cR,Comprehension->eE,Fin->iQ,FuncData->c8,Heap->bd,Keyword->gM,NameKind->eZ,Paired->br,Program->aF,SetTable->aT,Shared->ak,Value->ad,World->aS,argBest->cX,assign->iV,assignEach->eD,attributeBase->gz,backTo->cx,backToKw->iE,behindInMarks->dZ,binaryOp->er,bootBuiltins->cj,builtinsNs->gU,cLine->cB,cellsFrom->eJ,closureFor->g6,codeAmong->gT,codeAny->ew,codeAny_builtin->bM,codeAny_mono->fv,codeAny_of_tree->fH,compEnvC->gE,compTurn->eK,compareOp->cD,concat_meets->iX,foldedSetIterable->b7,getItem->iY,holding->fb,keywordEach->fR,letOwnedTupleGo->eY,mainGlobals->aX,mem_of_lookup->dR,model->aE,noFill_tuple_add->iC,ofAClassStatement->fg,pickOrder->gS,plainId_quiet->cZ,pushCells->fT,putSet_of->gx,pyIter->ir,pyNext->eV,rawInt->e8,recursionLimit->gW,relayAll->iJ,setAddHashed->iZ,setField->jo,setsByText->i9,sizeLine_eq->bf,sliceBounds->eQ,standAt->fF,starEach->az,strKind->dM,swapsWith->iB,unsupported->eR,wpAny->aG,wpAny_Call_Name_kw->fK,wpAny_askSetting->c9,wpAny_bind->aa,wpAny_callSpecial?_slot->fP,wpAny_call_entry->d0,wpAny_execs_nil->gG,wpAny_forIn_list->iI,wpAny_holding->bn,wpAny_ite_split->gI,wpAny_letGo->ip,wpAny_mono->cT,wpAny_newObj_type->bu,wpAny_passesOwn->ef,wpAny_pure->af,wpAny_pyIter_list->gg,wpAny_pyIter_tuple->fM,wpAny_rule->c7,wpAny_seqItems->eL,wpAny_setField_rec->cM,wpAny_setState_of->dr,wpAny_standAt->e7,wpAny_storeSet_of->gb,wpAny_truthy_bool->dO,wpAny_tryCatch->fu,wpAny_typeOf->fY,wpAny_updateSeq->e6
open PySem.Around renaming under_plainId->bq
open PySem.Builtin.Builtins renaming bindParams->gR
open PySem.Builtin.Frozenset renaming addrOf->iw,updateFrom->gH
open PySem.Builtin.List renaming listExtendWith->gO,listLengthHint->gN,listSameRef->ix,listTooLong->fD
open PySem.Builtin.Slice renaming sliceAdjust->fA,sliceApplied->fk,slicePlaces->d8
open PySem.Builtin.Str renaming strSliceIndices->bQ
open PySem.Builtin.Tuple renaming tupleExact->cf,tupleItemsOf->gZ
open PySem.Calls renaming Name_function_global->gV,call_function_entry->ig
open PySem.Code renaming compLoop->gC,compStart->f6
open PySem.F renaming args_tuple_add_2->fC,args_tuple_lt_2->iL,called_set->bj,entry_extend_loop->ie,entry_set_init->i7,entry_tuple_add->fO,entry_tuple_lt->i8,entry_type_call->iK,plainAttrs_list->fU,plain_extend_loop->d9,plain_list_iadd->iN,plain_set_new->jh,slot_set_iter->ji,slot_tuple_add->fX,slot_tuple_lt->gp,typeCall_set_1->i6
open PySem.Heap renaming SameBut->dU,get?_push_of_some->ae,get?_push_size->av,get?_update_other->bg,get?_update_self->cI,lt_size->aD,size_push->cC
open PySem.Heap.SameBut renaming refl->jD,update->cH
open PySem.NameKind renaming cell->gA,free->aW
open PySem.Obj renaming mapSeq->bK,putSet->dI
open PySem.Paired renaming length->cw
open PySem.PassesOwn renaming never->dE
open PySem.SeqAt renaming EqAt->c5,RcNeAt->cA
open PySem.SeqAt.EqAt renaming of_refs->jC,same->jf,str_str->g9
open PySem.SetTable renaming fill->jA,fits->jz,fresh->jj,grown->du
open PySem.Value renaming int->jt,isStrOf->dY,isStrOf_shape->eG,none->cK,ref->ju,str->iz,type->c6
open PySem.W renaming Frag->au,cellsFrom_some->iW,codeIn->fW,fnOf->eA,keepIn->fj,kla_fn->js,kla_obj->jg,methodObj->ii,mg_of->jy,nsIn->bD,tabObj->gh
open PySem.Walks renaming tuple->jq
open PySem.pickOrder renaming go->jE
open Sum renaming inl->iT,inr->iU
set_option Elab.async false
set_option linter.all false
set_option maxRecDepth 100000
namespace L2
open PySem PySem.Spec PyProof.Rows
abbrev Key:=Sum Int Str
def dQ1:Key->ad->Bool
 |.inl k,v=>ad.isInt k v
 |.inr x,v=>dY x v
def keyH(w:aS):Key->Int
 |.inl k=>hashInt k
 |.inr x=>hashStr w x
theorem aQh:∀{k:Key}{v:ad},dQ1 k v=true->(∃i t,k=iT i/\v=jt i t)\/(∃x t,k=iU x/\v=iz x t)
 |.inl i,v,h=>by
  obtain⟨t,e⟩:=ad.isInt_shape (k:=i) (v:=v) h;exact .inl ⟨i,t,rfl,e⟩
 |.inr x,v,h=>by
  obtain⟨t,e⟩:=eG (x:=x) (v:=v) h;exact .inr ⟨x,t,rfl,e⟩
theorem eZi(a b:Int):decide ((iT a:Key)=iT b)=(a==b):=by
 by_cases e:a=b
 ·subst e;simp
 ·have h:¬ (iT a:Key)=iT b:=λq=>e (iT.inj q);rw[decide_eq_false h];exact(beq_eq_false_iff_ne.mpr e).symm
theorem eZj(a b:Str):decide ((iU a:Key)=iU b)=decide (a=b):=by
 by_cases e:a=b
 ·subst e;simp
 ·have h:¬ (iU a:Key)=iU b:=λq=>e (iU.inj q);rw[decide_eq_false h,decide_eq_false e]
theorem eZk(a:Int)(b:Str):decide ((iT a:Key)=iU b)=false:=decide_eq_false (λq=>nomatch q)
theorem eZl(a:Str)(b:Int):decide ((iU a:Key)=iT b)=false:=decide_eq_false (λq=>nomatch q)
def aJc(prog:aF)(w:aS):PySem.KeyKind prog w Key where
 is:=dQ1
 hash:=keyH w
 inj:=λv a b ha hb=>by
  rcases aQh ha with⟨i,t,rfl,rfl⟩|⟨x,t,rfl,rfl⟩
  ·rcases aQh hb with⟨j,u,rfl,e⟩|⟨y,u,rfl,e⟩
   ·injection e with e1 _;rw[e1]
   ·exact nomatch e
  ·rcases aQh hb with⟨j,u,rfl,e⟩|⟨y,u,rfl,e⟩
   ·exact nomatch e
   ·injection e with e1 _;rw[e1]
 byValue:=λk v h=>by
  rcases aQh h with⟨i,t,rfl,rfl⟩|⟨x,t,rfl,rfl⟩ <;> rfl
 pyHash:=λhv h=>by
  rcases aQh hv with⟨i,t,rfl,rfl⟩|⟨x,t,rfl,rfl⟩
  ·exact wpAny_pyHash_int h
  ·exact wpAny_pyHash_str h
 eqBool:=λhu hv h=>by
  rcases aQh hu with⟨i,t,rfl,rfl⟩|⟨x,t,rfl,rfl⟩
  ·rcases aQh hv with⟨j,u,rfl,rfl⟩|⟨y,u,rfl,rfl⟩
   ·rw[eZi] at h;exact wpAny_eqBool_int h
   ·rw[eZk] at h;exact c5.int_str i t y u _ _ _ _ h
  ·rcases aQh hv with⟨j,u,rfl,rfl⟩|⟨y,u,rfl,rfl⟩
   ·rw[eZl] at h;exact c5.str_int x t j u _ _ _ _ h
   ·rw[eZj] at h;exact wpAny_eqBool_str h
 «strs»:=λk x t v h=>by
  rcases aQh h with⟨i,u,rfl,e⟩|⟨y,u,rfl,e⟩
  ·exact nomatch e
  ·injection e with e1 _
   subst e1;cases v <;> rfl
inductive V where
 |non|bl (b:Bool)|int (i:Int)|str (x:Str)|byt (b:Array UInt8)|flt (b:UInt64)|ref (a:Addr)|ty (n:String)
 deriving DecidableEq
def RelV:V->ad->Prop
 |.non,u=>u=cK
 |.bl b,u=>u=ad.bool b
 |.int i,u=>∃t,u=jt i t
 |.str x,u=>∃t,u=iz x t
 |.byt b,u=>∃t,u=ad.bytes b t
 |.flt b,u=>∃t,u=ad.float b t
 |.ref a,u=>u=ju a
 |.ty n,u=>u=c6 n
abbrev Vals:List V->List ad->Prop:=br RelV
theorem Vals.length{xs:List V}{us:List ad}(r:Vals xs us):xs.length=us.length:=cw r
theorem Vals.get:∀{xs:List V}{us:List ad}{i:Nat}{x:V},Vals xs us->xs[i]?=some x->∃u,us[i]?=some u/\RelV x u
 |_,_,_,_,.nil,e=>by simp at e
 |_,_,0,_,.cons r _,e=>by simp at e;subst e;exact⟨_,rfl,r⟩
 |_,_,i+1,x,.cons _ t,e=>by
  obtain⟨u,h1,h2⟩:=Vals.get (i:=i) (x:=x) t (by simpa using e)
  exact⟨u,by simpa using h1,h2⟩
theorem Vals.set{x:V}{u:ad}(r:RelV x u):∀{xs:List V}{us:List ad}(i:Nat),Vals xs us->Vals (xs.set i x) (us.set i u)
 |_,_,_,.nil=>.nil
 |_,_,0,.cons _ t=>.cons r t
 |_,_,i+1,.cons q t=>.cons q (Vals.set r i t)
theorem Vals.append:∀{xs ys:List V}{us ws:List ad},Vals xs us->Vals ys ws->Vals (xs++ys) (us++ws)
 |_,_,_,_,.nil,s=>s
 |_,_,_,_,.cons r t,s=>.cons r (Vals.append t s)
theorem Vals.take:∀{xs:List V}{us:List ad}(n:Nat),Vals xs us->Vals (xs.take n) (us.take n)
 |_,_,0,_=>.nil
 |_,_,_+1,.nil=>.nil
 |_,_,n+1,.cons r t=>.cons r (Vals.take n t)
theorem Vals.drop:∀{xs:List V}{us:List ad}(n:Nat),Vals xs us->Vals (xs.drop n) (us.drop n)
 |_,_,0,r=>r
 |_,_,_+1,.nil=>.nil
 |_,_,n+1,.cons _ t=>Vals.drop n t
def RelO:Option V->Option ad->Prop
 |some v,some u=>RelV v u
 |none,none=>True
 |_,_=>False
def KV{κ:Type}:List (κ×V)->List (κ×ad)->Prop:=br λ(p:κ×V) (q:κ×ad)=>p.1=q.1/\RelV p.2 q.2
def kV:Key->V
 |.inl i=>.int i
 |.inr x=>.str x
inductive HO where
 |lst (xs:List V)
 |tup (xs:List V)
 |dK (kvs:List (Key×V))|dT (kvs:List (List Key×V))
 |set (S:Int->Bool) (n:Nat)
 |ins (C dx:Addr) (fs:List (Str×V))
 |own (x:Addr)
 |xd (fs:List (Str×V))
 |met (f x:Addr)
 |rng (lo hi:Int)
 |frz (o:Obj) (u:HO)
 |tbl (ps:Array ad)
 |ext (φ:bd->Prop)
abbrev Hp:=Addr->Option HO
def upd(H:Hp)(a:Addr)(o:HO):Hp:=λb=>if b=a then some o else H b
theorem aQ7{H:Hp}{a:Addr}{o:HO}:upd H a o a=some o:=by unfold upd;rw[if_pos rfl]
theorem upd_ne{H:Hp}{a b:Addr}{o:HO}(h:b≠a):upd H a o b=H b:=by unfold upd;rw[if_neg h]
theorem aZd{H:Hp}{a b:Addr}{o:HO}(h:H a=some o)(h':H b=none):a≠b:=by
 intro e;subst e;rw[h] at h';cases h'
section
variable(P:aF)(w:aS)
def ObjOk(H:Hp)(h:bd)(a:Addr):HO->Prop
 |.lst xs=>xs.length<=sizeLine/\∃(its:List ad) (n:Nat),Vals xs its/\h.get? a=some {cls:=.type "list",data:=.seq its.toArray n}
 |.tup xs=>xs.length<=sizeLine/\∃its:List ad,Vals xs its/\iA h a its.toArray/\∀o,h.get? a=some o->o.dict=none
 |.dK kvs=>kvs.length<=sizeLine/\(a==sysModules)=false/\∃vs,KV kvs vs/\h.DictOf (aJc P w) a vs
 |.dT kvs=>kvs.length<=sizeLine/\(a==sysModules)=false/\∃xs:List (List Key×Addr×ad),
   br (λ(p:List Key×V) (q:List Key×Addr×ad)=>p.1=q.1/\H q.2.1=some (.tup (p.1.map kV))/\RelV p.2 q.2.2) kvs xs /\
   ∃o es ep,h.get? a=some o/\o.ExactDict/\o.data=.dict es ep/\es.toList=xs.map (entryOfKey (tupleKind (aJc P w)))/\(xs.map (·.1)).Nodup
 |.set S n=>h.SetOf (intKind P w) a S n
 |.ins C dx fs=>H dx=some (.own a)/\fs.length<=1000/\dx≠a/\h.get? a=some (PySem.W.instObj C dx) /\
   ∃mA,h.Ns1 dx mA/\(∀f,RelO (fs.lookup f) (mA f))/\PySem.Within mA (fs.map (·.1))
 |.own _=>∃o,h.get? a=some o
 |.xd fs=>∃mA,h.Ns1 a mA/\∀f,RelO (fs.lookup f) (mA f)
 |.rng lo hi=>∃t u v,h.get? a=some {cls:=.type "range",data:=.fields #[.int lo t,.int hi u,.int 1 v]}
 |.frz o u=>h.get? a=some o/\ObjOk H h a u
 |.tbl ps=>h.get? a=some {cls:=.none,data:=.fields ps}
 |.met f x=>h.get? a=some (ii (.ref f) (.ref x))
 |.ext φ=>φ h/\(∃o,h.get? a=some o)/\∀h1 h2:bd,φ h1->(∀o,h1.get? a=some o->h2.get? a=some o)->φ h2
def HOk(H:Hp)(h:bd):Prop:=∀a o,H a=some o->ObjOk P w H h a o
end
section
variable{P:aF}{w:aS}{H H':Hp}{h h':bd}{a:Addr}{o:HO}
theorem ObjOk.lt(x:ObjOk P w H h a o):a<h.objs.size:=by
 cases o with
 |lst xs=>obtain⟨_,_,_,_,e⟩:=x;exact aD e
 |tup xs=>obtain⟨_,_,_,p⟩:=x;exact p.1.lt
 |dK i=>obtain⟨_,_,_,_,o,_,_,e,_⟩:=x;exact aD e
 |dT i=>obtain⟨_,_,_,_,o,_,_,e,_⟩:=x;exact aD e
 |set S n=>obtain⟨o,_,_,_,e,_⟩:=x;exact aD e
 |ins C v fs=>obtain⟨_,_,_,e,_⟩:=x;exact aD e
 |own y=>obtain⟨_,e⟩:=x;exact aD e
 |xd fs=>obtain⟨_,⟨_,_,_,e,_⟩,_⟩:=x;exact aD e
 |rng lo hi=>obtain⟨_,_,_,e⟩:=x;exact aD e
 |frz j u=>obtain⟨e,_⟩:=x;exact aD e
 |tbl ps=>exact aD (show h.get? a=some _ from x)
 |met f y=>exact aD (show h.get? a=some _ from x)
 |ext φ=>obtain⟨_,⟨_,e⟩,_⟩:=x;exact aD e
theorem Paired.mapP{α β:Type}{F G:α->β->Prop}:∀{l₁:List α}{l₂:List β},br F l₁ l₂->(∀a b,F a b->G a b)->br G l₁ l₂
 |_,_,.nil,_=>.nil
 |_,_,.cons r t,f=>.cons (f _ _ r) (Paired.mapP t f)
theorem ObjOk.stay(x:ObjOk P w H h a o)(k:∀b u,(b=a\/H b=some (.own a))->h.get? b=some u->h'.get? b=some u)
  (ho:∀b,H b=some (.own a)->H' b=some (.own a)) (ht:∀b xs,H b=some (.tup xs)->H' b=some (.tup xs)):ObjOk P w H' h' a o:=by
 induction o with
 |lst xs=>obtain⟨z,its,n,r,e⟩:=x;exact⟨z,its,n,r,k _ _ (.inl rfl) e⟩
 |tup xs =>
  obtain⟨z,its,r,⟨i,e,c⟩,nd⟩:=x;exact⟨z,its,r,⟨i,k _ _ (.inl rfl) e,c⟩,λo q=>by rw[k _ _ (.inl rfl) e] at q;cases q;exact nd _ e⟩
 |dK J=>obtain⟨z,y,L,r,i,es,j,e,c⟩:=x;exact⟨z,y,L,r,i,es,j,k _ _ (.inl rfl) e,c⟩
 |dT J =>
  obtain⟨z,y,xs,r,i,es,j,e,c⟩:=x;exact⟨z,y,xs,Paired.mapP r λp q z=>⟨z.1,ht _ _ z.2.1,z.2.2⟩,i,es,j,k _ _ (.inl rfl) e,c⟩
 |set S n=>obtain⟨i,es,j,t,e,c⟩:=x;exact⟨i,es,j,t,k _ _ (.inl rfl) e,c⟩
 |ins C U fs =>
  obtain⟨d,z,ne,e,D,⟨B,es,j,O,c⟩,r⟩:=x;exact⟨ho _ d,z,ne,k _ _ (.inl rfl) e,D,⟨B,es,j,k _ _ (.inr d) O,c⟩,r⟩
 |own y=>obtain⟨i,e⟩:=x;exact⟨i,k _ _ (.inl rfl) e⟩
 |xd fs=>obtain⟨D,⟨B,es,j,e,c⟩,r⟩:=x;exact⟨D,⟨B,es,j,k _ _ (.inl rfl) e,c⟩,r⟩
 |rng lo hi=>obtain⟨t,u,v,e⟩:=x;exact⟨t,u,v,k _ _ (.inl rfl) e⟩
 |frz i u N=>obtain⟨e,q⟩:=x;exact⟨k _ _ (.inl rfl) e,N q⟩
 |tbl ps =>
  have e:h.get? a=some {cls:=.none,data:=.fields ps}:=x;show h'.get? a=some {cls:=.none,data:=.fields ps};exact k a _ (.inl rfl) e
 |met f y =>
  have e:h.get? a=some (ii (.ref f) (.ref y)):=x;show h'.get? a=some (ii (.ref f) (.ref y));exact k a _ (.inl rfl) e
 |ext φ=>obtain⟨p,⟨o,e⟩,st⟩:=x;exact⟨st _ _ p λo q=>k _ _ (.inl rfl) q,⟨o,k _ _ (.inl rfl) e⟩,st⟩
theorem bJp{g:bd}{arr:Array ad}{n:Nat}:∀o,(g.push {cls:=.type "tuple",data:=.seq arr n}).get? g.objs.size=some o->o.dict=none:=λo e=>by
 rw[av _ rfl] at e;cases e;rfl
theorem HOk.lt(x:HOk P w H h)(e:H a=some o):a<h.objs.size:=(x a o e).lt
theorem HOk.fresh(x:HOk P w H h)(e:h.objs.size<=a):H a=none:=by
 cases q:H a with
 |none=>rfl
 |some u=>exact absurd (Nat.lt_of_lt_of_le (x.lt q) e) (Nat.lt_irrefl _)
theorem HOk.kept(x:HOk P w H h)(k:∀b u,h.get? b=some u->h'.get? b=some u):HOk P w H h':=λa o e =>
 (x a o e).stay (λb u _ q=>k b u q) (λ_ q=>q) λ_ _ q=>q
theorem HOk.laid(x:HOk P w H h)(k:∀b u,h.get? b=some u->h'.get? b=some u)(hp:h.objs.size<=a)(new:ObjOk P w (upd H a o) h' a o):HOk P w (upd H a o) h':=λb u e=>by
 have i:=x.fresh hp
 by_cases j:b=a
 ·subst j;rw[aQ7] at e;cases e;exact new
 ·rw[upd_ne j] at e;exact(x b u e).stay (λc v _ q=>k c v q) (λc q=>by rw[upd_ne (aZd q i)];exact q) λc xs q=>by rw[upd_ne (aZd q i)];exact q
end
def Rd(H:Hp)(a:Addr)(u:HO):Prop:=H a=some u\/∃o,H a=some (.frz o u)
theorem Rd.ok{P:aF}{w:aS}{H:Hp}{h:bd}{a:Addr}{u:HO}(r:Rd H a u)(x:HOk P w H h):ObjOk P w H h a u:=by
 rcases r with r|⟨o,r⟩
 ·exact x a u r
 ·obtain⟨_,q⟩:=x a _ r;exact q
def Mut:Option HO->Prop
 |some (.lst _)=>True
 |some (.dK _)=>True
 |some (.dT _)=>True
 |some (.set _ _)=>True
 |some (.ins _ _ _)=>True
 |some (.ext _)=>True
 |_=>False
section
variable{P:aF}{w:aS}{H:Hp}{h h':bd}{x e:Addr}{o':HO}
theorem HOk.write(ok:HOk P w H h)(mu:Mut (H x))(he:e=x\/H e=some (.own x))(k:∀b u,b≠e->h.get? b=some u->h'.get? b=some u)(heo:∃u,h'.get? e=some u)
  (new:ObjOk P w (upd H x o') h' x o'):HOk P w (upd H x o') h':=λb u q=>by
 have j:∀c y,H c=some (.own y)->c≠x:=λc y r z=>by subst z;rw[r] at mu;exact mu
 have ntup:∀c xs,H c=some (.tup xs)->c≠x:=λc xs r z=>by subst z;rw[r] at mu;exact mu
 by_cases D:b=x
 ·subst D;rw[aQ7] at q;cases q;exact new
 ·rw[upd_ne D] at q
  by_cases i:b=e
  ·have q':H b=some (.own x):=by
    rcases he with z|z
    ·exact absurd (i.trans z) D
    ·rw[i];exact z
   rw[q] at q';cases q';obtain⟨v,J⟩:=heo;exact⟨v,by rw[i];exact J⟩
  ·refine(ok b u q).stay (λc v B r=>k c v ?_ r) (λc r=>by rw[upd_ne (j c b r)];exact r) λc xs r=>by rw[upd_ne (ntup c xs r)];exact r
   rcases B with rfl|B
   ·exact i
   ·rintro rfl;rcases he with z|z
    ·exact j c b B z
    ·rw[B] at z;cases z;exact D rfl
end
structure Un(fs ex:List Addr)(H H':Hp)(h h':bd):Prop where
 keep:∀b o,h.get? b=some o->H b=none->b∉fs->b∉ex->h'.get? b=some o
 slot:∀b o,h.get? b=some o->H b=none->b∈fs->b∉ex->∃sl,h'.get? b=some {o with slots:=sl}
 free:∀b o,h.get? b=some o->H b=none->b∉ex->H' b=none
 there:∀b o,h.get? b=some o->b∉ex->∃o',h'.get? b=some o'
 tups:∀b xs,H b=some (.tup xs)->H' b=some (.tup xs)
 frzs:∀b o u,H b=some (.frz o u)->H' b=some (.frz o u)
 tbls:∀b ps,H b=some (.tbl ps)->∃more,H' b=some (.tbl (ps++more))
section
variable{fs fs' ex ex':List Addr}{H H1 H2:Hp}{h h1 h2 h':bd}{a x e:Addr}{o:HO}
theorem Un.any(u:Un fs ex H H1 h h1){b:Addr}{ob:Obj}(q:h.get? b=some ob)(n:H b=none)(hx:b∉ex):∃sl,h1.get? b=some {ob with slots:=sl}:=by
 by_cases i:b∈fs
 ·exact u.slot b ob q n i hx
 ·exact⟨ob.slots,u.keep b ob q n i hx⟩
theorem Un.kept(k:∀b u,h.get? b=some u->h'.get? b=some u):Un fs ex H H h h' :=
 ⟨λb i q _ _ _=>k b i q,λb i q _ _ _=>⟨i.slots,k b i q⟩,λ_ _ _ n _=>n,λb i q _=>⟨i,k b i q⟩,λ_ _ q=>q,λ_ _ _ q=>q,λ_ ps q=>⟨#[],by rw[q];simp⟩⟩
theorem Un.refl:Un fs ex H H h h:=Un.kept λ_ _ q=>q
theorem Un.laid(k:∀b u,h.get? b=some u->h'.get? b=some u)(hp:h.objs.size<=a)(hn:H a=none):Un fs ex H (upd H a o) h h' where
 keep:=λb u q _ _ _=>k b u q
 slot:=λb u q _ _ _=>⟨u.slots,k b u q⟩
 free:=λb u q n _=>by rw[upd_ne (Nat.ne_of_lt (Nat.lt_of_lt_of_le (aD q) hp))];exact n
 there:=λb u q _=>⟨u,k b u q⟩
 tups:=λb xs q=>by rw[upd_ne (aZd q hn)];exact q
 frzs:=λb u xs q=>by rw[upd_ne (aZd q hn)];exact q
 tbls:=λb ps q=>⟨#[],by rw[upd_ne (aZd q hn),q];simp⟩
theorem Un.write(mu:Mut (H x))(he:e=x\/H e=some (.own x))(k:∀b u,b≠e->h.get? b=some u->h'.get? b=some u)(heo:∃u,h'.get? e=some u):Un fs ex H (upd H x o) h h':=by
 have j:∀b,H b=none->b≠x:=λb n z=>by subst z;rw[n] at mu;exact mu
 have v:∀b,H b=none->b≠e:=λb n z=>by
  subst z;rcases he with r|r
  ·exact j b n r
  ·rw[n] at r;cases r
 have hm:∀b u,H b=some u->¬ Mut (some u)->b≠x:=λb u q nm z=>by subst z;rw[q] at mu;exact nm mu
 refine⟨λb u q n _ _=>k b u (v b n) q,λb u q n _ _=>⟨u.slots,k b u (v b n) q⟩,λb u q n _=>by rw[upd_ne (j b n)];exact n,λb u q _=>?_,
  λb xs q=>by rw[upd_ne (hm b _ q λz=>z)];exact q,λb u xs q=>by rw[upd_ne (hm b _ q λz=>z)];exact q,λb ps q=>⟨#[],by rw[upd_ne (hm b _ q λz=>z),q];simp⟩⟩
 by_cases i:b=e
 ·subst i;exact heo
 ·exact⟨u,k b u i q⟩
end
def trk(h:bd)(H:Hp):List Addr:=(a7 h.objs.size).filter λa=>(H a).isSome
def hidT(h:bd)(H:Hp):bd:=PySem.W.hideAll h (trk h H)
theorem cZg(h:bd)(H:Hp):(hidT h H).objs.size=h.objs.size:=PySem.W.hideAll_size _ _
theorem dQ2{h:bd}{H:Hp}{b:Addr}{o:Obj}(e:h.get? b=some o)(n:H b=none):(hidT h H).get? b=some o :=
 PySem.W.hideAll_get _ e λhm=>by
  have q:(H b).isSome=true:=(bH.mp hm).2;rw[n] at q;simp at q
theorem dXm{h:bd}{H:Hp}{b:Addr}{o:Obj}(e:(hidT h H).get? b=some o):h.get? b=some o/\H b=none:=by
 have i:h.get? b=some o:=PySem.W.of_hideAll (trk h H) e;refine⟨i,?_⟩;cases q:H b with
 |none=>rfl
 |some x =>
  have hm:b∈trk h H:=bH.mpr ⟨aZ.mpr (aD i),by simp[q]⟩
  have z:(hidT h H).get? b=none:=PySem.W.hideAll_none (trk h H) hm;rw[z] at e;cases e
structure Mod(K:au)(mg:Str->Option ad)(base:bd):Prop where
 kin:K.In base
 glob:base.Ns aX mg
 blt:∃mb,base.Ns gU mb/\∀x:Str,x ≠ "__name__"->mb x=cj x
 nolimit:base.NoLimit
structure Cx where
 prog:aF
 w:aS
 K:au
 mg:Str->Option ad
 base:bd
 A:a4
 N:List Str
 s₀:ak
 H₀:Hp
 env:Env
 outer:List Env
 stack:List Env
 ex:List Addr
 fn:Str->Bool
 calm:Bool
 pn:List (Addr×Obj)
 xe:ad->ak->Prop
def frs(l:List Env):List Addr:=l.filterMap (·.frame)
abbrev Cx.fs(X:Cx):List Addr:=frs X.outer
def Vis(sc:Scope)(x:Str):Prop:=sc.names.lookup x=some .local\/sc.names.lookup x=some .cell\/sc.names.lookup x=some .free
def Loc(sc:Scope)(x:Str):Prop:=sc.names.lookup x=some .local\/sc.names.lookup x=some .cell
def Look(env:Env)(h:bd)(m:Str->Option ad)(x:Str)(u:ad):Prop :=
 (env.kindOf x=some .local/\m x=some u)\/((env.kindOf x=some .cell\/env.kindOf x=some .free)/\∃c,env.cells.lookup x=some c/\h.IsCell c (some u))
structure Cx.Ok(X:Cx):Prop where
 mod:Mod X.K X.mg X.base
 kind:X.env.scope.kind=.function
 glob:X.env.globals=aX
 blt:X.env.builtins=gU
 above:X.s₀.heap.objs.size<=X.env.locals
 inj:∀x y c,X.env.cells.lookup x=some c->X.env.cells.lookup y=some c->x=y
 has:∀x,(X.env.kindOf x=some .cell\/X.env.kindOf x=some .free)->∃c,X.env.cells.lookup x=some c
 cab:∀x c,X.fn x=true->X.env.cells.lookup x=some c->X.s₀.heap.objs.size<=c
 hd:X.calm=true->X.A.handled=none
 frames:X.A.frames=some X.stack
 gd:X.A.guards=some []
 stk:X.stack=X.outer\/(X.stack=X.env::X.outer/\X.env.frame=some X.env.locals)
 exf:∀b∈X.ex,b≠X.env.locals/\∀x c,X.env.cells.lookup x=some c->c≠b
 bs:∀b o,X.base.get? b=some o->X.s₀.heap.get? b=some o/\X.H₀ b=none
 bsz:X.base.objs.size<=X.s₀.heap.objs.size
 noex:∀b o,X.base.get? b=some o->b∉X.ex
 exfs:∀b∈X.ex,b∉X.fs
 funs:X.s₀.heap.FunFrames X.base X.outer
 frf:∀b∈X.fs,X.H₀ b=none
structure Inv(X:Cx)(pins:List (Addr×Obj))(σ:List (Option V))(H:Hp)(s:ak):Prop where
 ok:X.Ok
 os:s.os=X.s₀.os
 bare:ij s.gens
 base:Un X.fs X.ex X.H₀ H X.s₀.heap s.heap
 loc:∃m,s.heap.Ns X.env.locals m/\∀(i:Nat) (x:Str) (v:V),X.N[i]?=some x->σ[i]?=some (some v)->Vis X.env.scope x->∃u,RelV v u/\Look X.env s.heap m x u
 cell:∀x c,X.env.cells.lookup x=some c->∃v,s.heap.IsCell c v
 free:H X.env.locals=none
 freeC:∀x c,X.env.cells.lookup x=some c->H c=none
 pin:∀p∈X.pn++pins,s.heap.get? p.1=some p.2/\H p.1=none/\p.1≠X.env.locals/\p.1∉X.fs/\∀v,p.2.data≠.cell v
 hok:HOk X.prog X.w H s.heap
 len:σ.length=X.N.length
section
variable{X:Cx}{pins:List (Addr×Obj)}{σ:List (Option V)}{H H':Hp}{s:ak}{h':bd}
theorem Cx.Ok.nofr(ok:X.Ok){b:Addr}{o:Obj}(e:X.base.get? b=some o):b∉X.fs:=λi=>by
 have:=(ok.funs.mem i).1
 rw[e] at this;cases this
theorem Inv.bs(I:Inv X pins σ H s):∀b o,X.base.get? b=some o->s.heap.get? b=some o/\H b=none:=λb o e =>
 ⟨I.base.keep b o (I.ok.bs b o e).1 (I.ok.bs b o e).2 (I.ok.nofr e) (I.ok.noex b o e),I.base.free b o (I.ok.bs b o e).1 (I.ok.bs b o e).2 (I.ok.noex b o e)⟩
theorem Inv.bk(I:Inv X pins σ H s):∀b o,X.base.get? b=some o->s.heap.get? b=some o:=λb o e=>(I.bs b o e).1
theorem Inv.mod(I:Inv X pins σ H s):Mod X.K X.mg X.base:=I.ok.mod
theorem Inv.kIn(I:Inv X pins σ H s):X.K.In s.heap:=I.ok.mod.kin.keeps I.bk
theorem Inv.nolimit(I:Inv X pins σ H s):s.heap.NoLimit:=I.ok.mod.nolimit.keeps I.bk
theorem Inv.lt(I:Inv X pins σ H s):X.env.locals<s.heap.objs.size:=let ⟨_,i,_⟩:=I.loc;i.lt
theorem Inv.sz(I:Inv X pins σ H s):X.s₀.heap.objs.size<=s.heap.objs.size:=Nat.le_trans I.ok.above (Nat.le_of_lt I.lt)
theorem Inv.nofs(I:Inv X pins σ H s){a:Addr}(h:s.heap.objs.size<=a):a∉X.fs:=λj=>by
 obtain⟨_,o,i,_⟩:=I.ok.funs.mem j;exact absurd (Nat.lt_of_lt_of_le (aD i) (Nat.le_trans I.sz h)) (Nat.lt_irrefl _)
theorem Inv.cne(I:Inv X pins σ H s):∀x c,X.env.cells.lookup x=some c->c≠X.env.locals:=λx c e z=>by
 obtain⟨v,o,ho,hd⟩:=I.cell x c e;obtain⟨m,⟨o',es,B,i,j,_⟩,_⟩:=I.loc;rw[z,i] at ho;cases ho;rw[j] at hd;cases hd
theorem Inv.funs(I:Inv X pins σ H s):s.heap.FunFrames X.base X.outer:=by
 have all:∀(l:List Env),(∀b∈frs l,b∈X.fs)->X.s₀.heap.FunFrames X.base l->s.heap.FunFrames X.base l:=by
  intro l
  induction l with
  |nil=>intro _ _;trivial
  |cons env r B =>
   intro v hl;obtain⟨O,⟨L,o,hf,N,J,hd⟩,D⟩:=hl;have j:L∈X.fs:=v L (by unfold frs;rw[cq,hf];exact aq)
   obtain⟨sl,e⟩:=I.base.slot L o J (I.ok.frf L j) j λz=>I.ok.exfs L z j;exact⟨O,⟨L,_,hf,N,e,hd⟩,B (λb i=>v b (by unfold frs;rw[cq,hf];exact ay _ i)) D⟩
 exact all X.outer (λ_ i=>i) I.ok.funs
theorem Inv.stack(I:Inv X pins σ H s):s.heap.FunFrames X.base X.stack:=by
 rcases I.ok.stk with e|⟨e,hf⟩
 ·rw[e];exact I.funs
 ·rw[e];obtain⟨m,i,_⟩:=I.loc;refine .cons (by rw[I.ok.kind];decide) hf i ?_ I.funs
  exact bd.get?_none_of_le (Nat.le_trans I.ok.bsz I.ok.above)
theorem Inv.stkSub(I:Inv X pins σ H s):∀b∈frs X.stack,b∈X.env.locals::X.fs:=λb i=>by
 rcases I.ok.stk with e|⟨e,hf⟩
 ·rw[e] at i;exact ay _ i
 ·rw[e] at i;unfold frs at i;rw[cq,hf] at i;exact i
theorem Inv.stkFree(I:Inv X pins σ H s):∀b∈frs X.stack,H b=none:=λb i=>by
 rcases aK.mp (I.stkSub b i) with e|i
 ·rw[e];exact I.free
 ·obtain⟨_,o,j,_⟩:=I.ok.funs.mem i;exact I.base.free b o j (I.ok.frf b i) λz=>I.ok.exfs b z i
theorem Inv.step{g':Array GenState}{t':Nat}{d':Drawn}{ch:List Addr}(I:Inv X pins σ H s)
  (hch:∀b∈ch,(b∈X.ex\/X.s₀.heap.objs.size<=b)/\b≠X.env.locals/\(∀x c,X.env.cells.lookup x=some c->c≠b)/\∀p∈X.pn++pins,p.1≠b)
  (keep:∀b o,b≠X.env.locals->b∉X.fs->b∉ch->s.heap.get? b=some o->H b=none->h'.get? b=some o)
  (slot:∀b o,b≠X.env.locals->b∈X.fs->b∉ch->s.heap.get? b=some o->H b=none->∃sl,h'.get? b=some {o with slots:=sl}) (free:∀b o,b∉ch->s.heap.get? b=some o->H b=none->H' b=none)
  (there:∀b o,b∉ch->s.heap.get? b=some o->∃o',h'.get? b=some o')
  (tups:∀b xs,H b=some (.tup xs)->H' b=some (.tup xs)) (frzs:∀b o u,H b=some (.frz o u)->H' b=some (.frz o u)) (tbls:∀b ps,H b=some (.tbl ps)->∃more,H' b=some (.tbl (ps++more)))
  (ns:∀m,s.heap.Ns X.env.locals m->h'.Ns X.env.locals m) (hok:HOk X.prog X.w H' h') (hg:ij g') :
  Inv X pins σ H' {s with heap:=h',gens:=g',drawn:=d',toks:=t'}:=by
 have O:∀b o,X.s₀.heap.get? b=some o->b≠X.env.locals:=λb o e=>Nat.ne_of_lt (Nat.lt_of_lt_of_le (aD e) I.ok.above);have D:∀b o,X.s₀.heap.get? b=some o->b∉X.ex->b∉ch:=λb o e j L=>by
  rcases(hch b L).1 with z|z
  ·exact j z
  ·exact absurd (Nat.lt_of_lt_of_le (aD e) z) (Nat.lt_irrefl _)
 have cellK:∀x c,X.env.cells.lookup x=some c->∀v,s.heap.IsCell c v->h'.IsCell c v:=λx c e v ⟨o,N,hd⟩=>by
  have B:c∉ch:=λz=>(hch c z).2.2.1 x c e rfl
  by_cases hc:c∈X.fs
  ·obtain⟨sl,q⟩:=slot c o (I.cne x c e) hc B N (I.freeC x c e);exact⟨_,q,hd⟩
  ·exact⟨o,keep c o (I.cne x c e) hc B N (I.freeC x c e),hd⟩
 refine⟨I.ok,I.os,hg,⟨λb o e n L j=>?_,λb o e n L j=>?_,λb o e n j=>?_,λb o e j=>?_,λb xs e=>tups b xs (I.base.tups b xs e),λb o xs e=>frzs b o xs (I.base.frzs b o xs e),λb ps e=>?_⟩,?_,λx c e=>?_,?_,λx c e=>?_,λp hp=>?_,hok,I.len⟩
 ·exact keep b o (O b o e) L (D b o e j) (I.base.keep b o e n L j) (I.base.free b o e n j)
 ·obtain⟨sl,J⟩:=I.base.slot b o e n L j;obtain⟨Y,U⟩:=slot b _ (O b o e) L (D b o e j) J (I.base.free b o e n j);exact⟨Y,U⟩
 ·obtain⟨o',J⟩:=I.base.there b o e j;exact free b o' (D b o e j) J (I.base.free b o e n j)
 ·obtain⟨o',J⟩:=I.base.there b o e j;exact there b o' (D b o e j) J
 ·obtain⟨m1,J⟩:=I.base.tbls b ps e;obtain⟨m2,U⟩:=tbls b _ J;exact⟨m1++m2,by rw[U,Array.append_assoc]⟩
 ·obtain⟨m,hn,hl⟩:=I.loc;refine⟨m,ns m hn,λi x v J U e3=>?_⟩;obtain⟨u,r,l⟩:=hl i x v J U e3;refine⟨u,r,?_⟩;rcases l with l|⟨k,c,e,z⟩
  ·exact .inl l
  ·exact .inr ⟨k,c,e,cellK x c e _ z⟩
 ·obtain⟨v,z⟩:=I.cell x c e;exact⟨v,cellK x c e v z⟩
 ·obtain⟨m,⟨o,_,_,N,_⟩,_⟩:=I.loc;exact free _ o (λz=>(hch _ z).2.1 rfl) N I.free
 ·obtain⟨v,o,N,hd⟩:=I.cell x c e;exact free c o (λz=>(hch c z).2.2.1 x c e rfl) N (I.freeC x c e)
 ·obtain⟨e,n,ne,Z,d⟩:=I.pin p hp;have B:p.1∉ch:=λz=>(hch p.1 z).2.2.2 p hp rfl;exact⟨keep p.1 p.2 ne Z B e n,free p.1 p.2 B e n,ne,Z,d⟩
theorem Inv.un{t':Nat}(I:Inv X pins σ H s)(u:Un X.fs [] H H' s.heap h')(hok:HOk X.prog X.w H' h'):Inv X pins σ H' {s with heap:=h',toks:=t'}:=by
 obtain⟨m,⟨o,es,N,B,r⟩,_⟩:=id I.loc;obtain⟨sl,J⟩:=u.any B I.free (by simp)
 exact I.step (g':=s.gens) (d':=s.drawn) (ch:=[]) (λ_ z=>nomatch z) (λb o _ i _ e n=>u.keep b o e n i (by simp)) (λb o _ i _ e n=>u.slot b o e n i (by simp)) (λb o _ e n=>u.free b o e n (by simp)) (λb o _ e=>u.there b o e (by simp)) u.tups u.frzs u.tbls (λL hm=>by
  obtain⟨o',j,v,ho',D⟩:=hm;rw[B] at ho';cases ho';exact⟨_,j,v,J,D⟩) hok I.bare
theorem Inv.call{g':Array GenState}{t':Nat}{d':Drawn}{ch:List Addr}(I:Inv X pins σ H s)(u:Un (frs X.stack) ch H H' s.heap h')(hok:HOk X.prog X.w H' h')(hg:ij g')
  (hch:∀b∈ch,(b∈X.ex\/X.s₀.heap.objs.size<=b)/\b≠X.env.locals/\(∀x c,X.env.cells.lookup x=some c->c≠b)/\∀p∈X.pn++pins,p.1≠b) :
  Inv X pins σ H' {s with heap:=h',gens:=g',drawn:=d',toks:=t'}:=by
 obtain⟨m,⟨o,es,O,D,r⟩,_⟩:=id I.loc;obtain⟨sl,j⟩:=u.any D I.free λz=>(hch _ z).2.1 rfl;exact I.step (ch:=ch) hch (λb o j L i e n=>u.keep b o e n (λz=>(aK.mp (I.stkSub b z)).elim j L) i) (λb o _ _ i e n=>u.any e n i) (λb o i e n=>u.free b o e n i) (λb o i e=>u.there b o e i) u.tups u.frzs u.tbls (λN hm=>by
  obtain⟨o',v,B,ho',J⟩:=hm;rw[D] at ho';cases ho';exact⟨_,v,B,j,J⟩) hok hg
theorem Inv.turned{t':Nat}{it:Addr}(I:Inv X pins σ H s)(k:∀b o,b≠it->s.heap.get? b=some o->h'.get? b=some o)(hn:H it=none)(hL:it≠X.env.locals)
  (h1:it∈X.ex\/X.s₀.heap.objs.size<=it) (h2:∀x c,X.env.cells.lookup x=some c->c≠it) (h3:∀p∈X.pn++pins,p.1≠it):Inv X pins σ H {s with heap:=h',toks:=t'}:=by
 have j:∀b u,H b=some u->b≠it:=λb u e z=>by rw[z,hn] at e;cases e
 refine I.step (g':=s.gens) (d':=s.drawn) (ch:=[it]) (λb D=>?_) (λb o _ _ i e _=>k b o (λz=>i (by simp[z])) e) (λb o _ _ i e _=>⟨o.slots,k b o (λz=>i (by simp[z])) e⟩) (λ_ _ _ _ n=>n)
  (λb o i e=>⟨o,k b o (λz=>i (by simp[z])) e⟩) (λ_ _ e=>e) (λ_ _ _ e=>e) (λb ps e=>⟨#[],by rw[e];simp⟩) (λm hm=>?_) (λb u e=>?_) I.bare
 ·have e:b=it:=by simpa using D
  subst e;exact⟨h1,hL,h2,h3⟩
 ·obtain⟨o,es,J,B,r⟩:=hm;exact⟨o,es,J,k _ o (cz hL) B,r⟩
 ·refine(I.hok b u e).stay (λc v i q=>k c v ?_ q) (λ_ q=>q) λ_ _ q=>q;rcases i with z|z
  ·rw[z];exact j b u e
  ·exact j c _ z
theorem Inv.tok(I:Inv X pins σ H s)(t:Nat):Inv X pins σ H {s with toks:=t}:=I.un (h':=s.heap) (t':=t) Un.refl I.hok
theorem Inv.kept{t':Nat}(I:Inv X pins σ H s)(k:∀b u,s.heap.get? b=some u->h'.get? b=some u):Inv X pins σ H {s with heap:=h',toks:=t'}:=I.un (Un.kept k) (I.hok.kept k)
theorem Inv.laid{a:Addr}{o:HO}{t':Nat}(I:Inv X pins σ H s)(k:∀b u,s.heap.get? b=some u->h'.get? b=some u)(hp:s.heap.objs.size<=a)(new:ObjOk X.prog X.w (upd H a o) h' a o) :
  Inv X pins σ (upd H a o) {s with heap:=h',toks:=t'}:=I.un (Un.laid k hp (I.hok.fresh hp)) (I.hok.laid k hp new)
theorem Inv.write{x e:Addr}{o:HO}{t':Nat}(I:Inv X pins σ H s)(mu:Mut (H x))(he:e=x\/H e=some (.own x))(k:∀b u,b≠e->s.heap.get? b=some u->h'.get? b=some u)(heo:∃u,h'.get? e=some u)
  (new:ObjOk X.prog X.w (upd H x o) h' x o):Inv X pins σ (upd H x o) {s with heap:=h',toks:=t'}:=I.un (Un.write mu he k heo) (I.hok.write mu he k heo new)
theorem Inv.weak{σ':List (Option V)}(I:Inv X pins σ H s)(hl:σ'.length=σ.length)(w:∀(i:Nat) v,σ'[i]?=some (some v)->σ[i]?=some (some v)):Inv X pins σ' H s :=
 ⟨I.ok,I.os,I.bare,I.base,let ⟨m,z,j⟩:=I.loc;⟨m,z,λi x v J D B=>j i x v J (w i v D) B⟩,I.cell,I.free,I.freeC,I.pin,I.hok,hl.trans I.len⟩
theorem Inv.pins_of{pins':List (Addr×Obj)}(I:Inv X pins σ H s)(h:∀p∈pins',s.heap.get? p.1=some p.2/\H p.1=none/\p.1≠X.env.locals/\p.1∉X.fs/\∀v,p.2.data≠.cell v):Inv X pins' σ H s :=
 ⟨I.ok,I.os,I.bare,I.base,I.loc,I.cell,I.free,I.freeC,λp i=>(aP.mp i).elim (λz=>I.pin p (cy _ z)) (h p),I.hok,I.len⟩
theorem nodup_ix{N:List Str}(hN:N.Nodup){i j:Nat}{x:Str}(a:N[i]?=some x)(b:N[j]?=some x):i=j:=by
 obtain⟨h1,z⟩:=aC.mp a;obtain⟨h2,v⟩:=aC.mp b;exact(List.getElem_inj hN).mp (z.trans v.symm)
theorem bZi{M:Model}{A:a4}{E:ad->ak->Prop}{i:Nat}{x:Str}{v:V}{u:ad}{Q:Unit->ak->Prop}(I:Inv X pins σ H s)(hN:X.N.Nodup)(hi:X.N[i]?=some x)(hx:Loc X.env.scope x)(r:RelV v u)
  (h:∀s',Inv X pins (σ.set i (some v)) H s'->(∃a,dU a s.heap s'.heap/\(a=X.env.locals\/X.env.cells.lookup x=some a))->Q () s') (hf:X.fn x=true\/X.env.scope.names.lookup x=some .local:=by first|exact .inl rfl|exact .inr rfl|assumption):aG M A (storeName X.env x u) Q E s:=by
 obtain⟨m,hn,hl⟩:=id I.loc;have Z:(X.env.scope.kind ==.class||(X.env.scope.kind ==.module&&X.env.locals !=X.env.globals))=false:=by rw[I.ok.kind];rfl
 have hiσ:i<σ.length:=by rw[I.len];exact(aC.mp hi).1
 have cne:=I.cne;have tracked:∀{a:Addr}{h':bd},(∃o,s.heap.get? a=some o/\H a=none)->dU a s.heap h'->HOk X.prog X.w H h':=λ{a h'} ha B b ob e=>by
  obtain⟨_,_,D⟩:=ha;refine(I.hok b ob e).stay (λc w' hc q=>(B.2 c ?_).trans q) (λ_ q=>q) λ_ _ q=>q;rintro rfl;rcases hc with rfl|hc
  ·rw[D] at e;cases e
  ·rw[D] at hc;cases hc
 rcases hx with hk|hk
 ·refine wpAny_storeName_local hk hn (λh' hn' B=>?_) Z;obtain⟨oL,_,_,hoL,_⟩:=id hn;refine h _ ⟨I.ok,I.os,I.bare,⟨λb o e n O hx=>?_,λb o e n O hx=>?_,I.base.free,λb o e hx=>?_,I.base.tups,I.base.frzs,I.base.tbls⟩,⟨_,hn',λj y v' e1 e2 e3=>?_⟩,λy c e=>?_,I.free,I.freeC,λp hp=>?_,tracked ⟨oL,hoL,I.free⟩ B,by simpa using I.len⟩ ⟨_,B,.inl rfl⟩
  ·exact(B.2 b (Nat.ne_of_lt (Nat.lt_of_lt_of_le (aD e) I.ok.above))).trans (I.base.keep b o e n O hx)
  ·obtain⟨sl,e1⟩:=I.base.slot b o e n O hx;exact⟨sl,(B.2 b (Nat.ne_of_lt (Nat.lt_of_lt_of_le (aD e) I.ok.above))).trans e1⟩
  ·obtain⟨o',e1⟩:=I.base.there b o e hx;exact⟨o',(B.2 b (Nat.ne_of_lt (Nat.lt_of_lt_of_le (aD e) I.ok.above))).trans e1⟩
  ·by_cases J:j=i
   ·subst J;rw[hi] at e1;cases e1;rw[List.getElem?_set_self hiσ] at e2;cases e2;exact⟨u,r,.inl ⟨hk,by simp⟩⟩
   ·rw[fi (cz J)] at e2;obtain⟨u',r',q⟩:=hl j y v' e1 e2 e3;refine⟨u',r',?_⟩;rcases q with⟨k,e⟩|⟨k,c,e,z⟩
    ·refine .inl ⟨k,?_⟩
     have:y≠x:=λe=>J (nodup_ix hN e1 (e▸hi))
     simp[this,e]
    ·exact .inr ⟨k,c,e,z.sameBut B (cne y c e)⟩
  ·obtain⟨w',z⟩:=I.cell y c e;exact⟨w',z.sameBut B (cne y c e)⟩
  ·obtain⟨e,n,ne,nf,d⟩:=I.pin p hp;exact⟨(B.2 p.1 ne).trans e,n,ne,nf,d⟩
 ·have L:X.fn x=true:=by
   rcases hf with z|z
   ·exact z
   ·rw[z] at hk;cases hk
  obtain⟨c,hc⟩:=I.ok.has x (.inl hk);obtain⟨w',z⟩:=I.cell x c hc;refine wpAny_storeName_cell I.ok.kind hk hc z (λh' hc' B=>?_);obtain⟨oc,Y,U⟩:=id z;refine h {s with heap:=h'} ⟨I.ok,I.os,I.bare,⟨λb o e n O hx=>?_,λb o e n O hx=>?_,I.base.free,λb o e hx=>?_,I.base.tups,I.base.frzs,I.base.tbls⟩,⟨m,hn.sameBut B (cz (cne x c hc)),λj y v' e1 e2 e3=>?_⟩,λy c' e=>?_,I.free,I.freeC,λp hp=>?_,tracked ⟨oc,Y,I.freeC x c hc⟩ B,by simpa using I.len⟩ ⟨c,B,.inr hc⟩
  ·exact(B.2 b (Nat.ne_of_lt (Nat.lt_of_lt_of_le (aD e) (I.ok.cab x c L hc)))).trans (I.base.keep b o e n O hx)
  ·obtain⟨sl,e1⟩:=I.base.slot b o e n O hx;exact⟨sl,(B.2 b (Nat.ne_of_lt (Nat.lt_of_lt_of_le (aD e) (I.ok.cab x c L hc)))).trans e1⟩
  ·obtain⟨o',e1⟩:=I.base.there b o e hx;exact⟨o',(B.2 b (Nat.ne_of_lt (Nat.lt_of_lt_of_le (aD e) (I.ok.cab x c L hc)))).trans e1⟩
  ·by_cases J:j=i
   ·subst J;rw[hi] at e1;cases e1;rw[List.getElem?_set_self hiσ] at e2;cases e2;exact⟨u,r,.inr ⟨.inl hk,c,hc,hc'⟩⟩
   ·rw[fi (cz J)] at e2;obtain⟨u',r',q⟩:=hl j y v' e1 e2 e3;refine⟨u',r',?_⟩;rcases q with q|⟨k,c',e,z'⟩
    ·exact .inl q
    ·refine .inr ⟨k,c',e,z'.sameBut B ?_⟩;rintro rfl;exact J (nodup_ix hN e1 (I.ok.inj _ _ _ e hc▸hi))
  ·by_cases hcc:c'=c
   ·subst hcc;exact⟨_,hc'⟩
   ·obtain⟨w2,z2⟩:=I.cell y c' e;exact⟨w2,z2.sameBut B hcc⟩
  ·obtain⟨e,n,ne,nf,d⟩:=I.pin p hp;refine⟨(B.2 p.1 ?_).trans e,n,ne,nf,d⟩;intro q;rw[q,Y] at e;have q':oc=p.2:=aQ e;exact d w' (by rw[<- q'];exact U)
theorem store_ok{M:Model}{A:a4}{E:ad->ak->Prop}{i:Nat}{x:Str}{v:V}{u:ad}{Q:Unit->ak->Prop}(I:Inv X pins σ H s)(hN:X.N.Nodup)(hi:X.N[i]?=some x)(hx:Loc X.env.scope x)(r:RelV v u)
  (h:∀s',Inv X pins (σ.set i (some v)) H s'->Q () s') (hf:X.fn x=true\/X.env.scope.names.lookup x=some .local:=by first|exact .inl rfl|exact .inr rfl|assumption):aG M A (storeName X.env x u) Q E s :=
 bZi I hN hi hx r (λs' j _=>h s' j) hf
theorem Inv.call'{s':ak}{ch:List Addr}(I:Inv X pins σ H s)(ho:s'.os=s.os)(u:Un (frs X.stack) ch H H' s.heap s'.heap)(hok:HOk X.prog X.w H' s'.heap)(hg:ij s'.gens)
  (hch:∀b∈ch,(b∈X.ex\/X.s₀.heap.objs.size<=b)/\b≠X.env.locals/\(∀x c,X.env.cells.lookup x=some c->c≠b)/\∀p∈X.pn++pins,p.1≠b):Inv X pins σ H' s':=by
 obtain⟨h',g',d',t',o'⟩:=s';have e:o'=s.os:=ho;subst e;exact I.call (g':=g') (t':=t') (d':=d') u hok hg hch
end
abbrev XK:=ad->Option Addr->Hp->Prop
abbrev St:=List (Option V)
abbrev VK:=V->Hp->Prop
abbrev TE:=St->Hp->VK->Prop
abbrev TT:=St->Hp->(Bool->Hp->Prop)->Prop
abbrev TA:=St->Hp->(List V->Hp->Prop)->Prop
structure Ends where
 nx:St->Hp->Prop
 rt:VK
 bk:St->Hp->Prop:=λ_ _=>False
 ct:St->Hp->Prop:=λ_ _=>False
abbrev TS:=Ends->St->Hp->Prop
def EP(X:Cx)(pins:List (Addr×Obj))(σ:St)(Q:VK)(u:ad)(s':ak):Prop:=∃v H',Inv X pins σ H' s'/\RelV v u/\Q v H'
def TP(X:Cx)(pins:List (Addr×Obj))(σ:St)(Q:Bool->Hp->Prop)(b:Bool)(s':ak):Prop:=∃H',Inv X pins σ H' s'/\Q b H'
def AP(X:Cx)(pins:List (Addr×Obj))(σ:St)(Q:List V->Hp->Prop)(us:List ad)(s':ak):Prop:=∃vs H',Inv X pins σ H' s'/\Vals vs us/\Q vs H'
def SP(X:Cx)(pins:List (Addr×Obj))(D:Ends)(f:Flow)(s':ak):Prop :=
 match f with
 |.next=>∃σ' H',Inv X pins σ' H' s'/\D.nx σ' H'
 |.brk=>∃σ' H',Inv X pins σ' H' s'/\D.bk σ' H'
 |.cont=>∃σ' H',Inv X pins σ' H' s'/\D.ct σ' H'
 |.ret u=>∃v σ' H',Inv X pins σ' H' s'/\RelV v u/\D.rt v H'
def PE(X:Cx)(e:Expr)(t:TE):Prop :=
 ∀(pins:List (Addr×Obj)) (s:ak) (σ:St) (H:Hp) (Q:VK),Inv X pins σ H s->t σ H Q->aG (aE X.prog X.w) X.A (eval e X.env) (EP X pins σ Q) X.xe s
def PT(X:Cx)(e:Expr)(t:TT):Prop :=
 ∀(pins:List (Addr×Obj)) (s:ak) (σ:St) (H:Hp) (Q:Bool->Hp->Prop),Inv X pins σ H s->t σ H Q->aG (aE X.prog X.w) X.A (isTrue e X.env (eval e X.env)) (TP X pins σ Q) X.xe s
def PW(X:Cx)(e:Expr)(t:TT):Prop :=
 ∀(whole:Sem ad) (pins:List (Addr×Obj)) (s:ak) (σ:St) (H:Hp) (Q:Bool->Hp->Prop),Inv X pins σ H s->t σ H Q->aG (aE X.prog X.w) X.A (isTrue e X.env whole) (TP X pins σ Q) X.xe s
theorem PW.pt{X:Cx}{e:Expr}{t:TT}(h:PW X e t):PT X e t:=h _
def PA(X:Cx)(es:List Expr)(t:TA):Prop :=
 ∀(pos:Pos) (pins:List (Addr×Obj)) (s:ak) (σ:St) (H:Hp) (Q:List V->Hp->Prop),Inv X pins σ H s->t σ H Q->aG (aE X.prog X.w) X.A (spliced (cx pos (az es X.env))) (AP X pins σ Q) X.xe s
def PS(X:Cx)(st:Stmt)(t:TS):Prop :=
 ∀(pins:List (Addr×Obj)) (s:ak) (σ:St) (H:Hp) (D:Ends),Inv X pins σ H s->t D σ H->aG (aE X.prog X.w) X.A (exec st X.env) (SP X pins D) X.xe s
def PSs(X:Cx)(st:List Stmt)(t:TS):Prop :=
 ∀(pins:List (Addr×Obj)) (s:ak) (σ:St) (H:Hp) (D:Ends),Inv X pins σ H s->t D σ H->aG (aE X.prog X.w) X.A (execs st X.env) (SP X pins D) X.xe s
theorem thn{α:Type}{t:Sem α}{Q Q':α->ak->Prop}{M:Model}{A:a4}{E:ad->ak->Prop}{s:ak}(h:aG M A t Q E s)(hQ:∀a s,Q a s->Q' a s):aG M A t Q' E s:=cT h hQ λ_ _ x=>x
section
variable{X:Cx}
def tVar(i:Nat):TE:=fun σ H Q=>∃v,σ[i]?=some (some v)/\Q v H
def tC(v:V):TE:=λ_ H Q=>Q v H
theorem eZm{i:Nat}{x:Str}{pos:Pos}(hN:X.N[i]?=some x)(hv:Vis X.env.scope x)(hd:(x==("__debug__":Str))=false:=by decide)(hcd:(x==("__classdict__":Str))=false:=by decide):PE X (.Name x pos) (tVar i):=by
 intro pins s σ H Q I h;obtain⟨v,e,h⟩:=h;obtain⟨m,D,hl⟩:=I.loc;obtain⟨u,r,l⟩:=hl i x v hN e hv;have fin:EP X pins σ Q u s:=⟨v,H,I,r,h⟩;rcases l with⟨z,hm⟩|⟨z,c,B,j⟩
 ·exact wpAny_Name (wpAny_loadName_local I.ok.kind z D hm fin) hd
 ·rcases z with z|z
  ·exact wpAny_Name (wpAny_loadName_cell I.ok.kind z B j fin) hd
  ·exact wpAny_Name (wpAny_loadName_free I.ok.kind z B j fin hcd) hd
theorem eZn{i j pos}:PE X (.Constant (.int i) j pos) (tC (.int i)):=λ_ _ _ H _ I h=>wpAny_Constant_int ⟨.int i,H,I.tok _,⟨_,rfl⟩,h⟩
theorem fQm{b j pos}:PE X (.Constant (.bool b) j pos) (tC (.bl b)):=λ_ _ _ H _ I h=>Constant_bool ⟨.bl b,H,I,rfl,h⟩
theorem eZo{j pos}:PE X (.Constant .none j pos) (tC .non):=λ_ _ _ H _ I h=>Constant_none ⟨.non,H,I,rfl,h⟩
theorem eZp{x j pos}:PE X (.Constant (.str x) j pos) (tC (.str x)):=λ_ _ _ H _ I h=>Calls.Constant_str ⟨.str x,H,I.tok _,⟨_,rfl⟩,h⟩
def Gl(X:Cx)(x:Str):Prop:=X.env.kindOf x=some .globalImplicit
theorem ld_glob{E:ad->ak->Prop}{pins:List (Addr×Obj)}{s:ak}{σ:St}{H:Hp}{x:Str}{u:ad}{pos:Pos}{Q:ad->ak->Prop}(I:Inv X pins σ H s)(hg:Gl X x)(hm:X.mg x=some u)(h:Q u s)
  (hd:(x==("__debug__":Str))=false:=by decide):aG (aE X.prog X.w) X.A (eval (.Name x pos) X.env) Q E s :=
 gV I.ok.kind hg (Calls.loadGlobal_global (by rw[I.ok.glob];exact I.mod.glob.keeps I.bk) hm h) hd
theorem ld_blt{E:ad->ak->Prop}{pins:List (Addr×Obj)}{s:ak}{σ:St}{H:Hp}{x:Str}{u:ad}{pos:Pos}{Q:ad->ak->Prop}(I:Inv X pins σ H s)(hg:Gl X x)(hm:X.mg x=none)(hv:cj x=some u)(h:Q u s)
  (hn:x ≠ "__name__":=by decide) (hd:(x==("__debug__":Str))=false:=by decide):aG (aE X.prog X.w) X.A (eval (.Name x pos) X.env) Q E s:=by
 obtain⟨i,h1,h2⟩:=I.mod.blt;exact gV I.ok.kind hg (Calls.loadGlobal_builtin (by rw[I.ok.glob];exact I.mod.glob.keeps I.bk) hm (by rw[I.ok.blt];exact h1.keeps I.bk) ((h2 x hn).trans hv) h) hd
variable{a b:Expr}{ta tb:TE}{pos:Pos}
variable{tA tB':TT}{rest:List Expr}
def tAnd(t u:TT):TT:=fun σ H Q=>t σ H λc H1=>if c=true then u σ H1 Q else Q false H1
def tOr(t u:TT):TT:=fun σ H Q=>t σ H λc H1=>if c=true then Q true H1 else u σ H1 Q
def tNot(t:TT):TT:=fun σ H Q=>t σ H λc H1=>Q (!c) H1
theorem dXn(ha:PT X a tA):PW X (.BoolOp .And [a] pos) tA:=by
 intro i pins s σ H Q I h;refine isTrue_and (thn (ha pins s σ H Q I h) λc s1 e=>?_);cases c with
 |true=>exact isTrue_and_nil e
 |false=>exact e
theorem eZq(ha:PT X a tA):PW X (.BoolOp .Or [a] pos) tA:=by
 intro i pins s σ H Q I h;refine isTrue_or (thn (ha pins s σ H Q I h) λc s1 e=>?_);cases c with
 |false=>exact isTrue_or_nil e
 |true=>exact e
theorem eZr(ha:PT X a tA)(hb:PW X (.BoolOp .And (b::rest) pos) tB'):PW X (.BoolOp .And (a::b::rest) pos) (tAnd tA tB'):=by
 intro v pins s σ H Q I h;refine isTrue_and (thn (ha pins s σ H _ I h) λc s1 ⟨H1,j,i⟩=>?_);cases c with
 |true=>exact hb v pins s1 σ H1 Q j i
 |false=>exact⟨H1,j,i⟩
theorem fQn(ha:PT X a tA)(hb:PW X (.BoolOp .Or (b::rest) pos) tB'):PW X (.BoolOp .Or (a::b::rest) pos) (tOr tA tB'):=by
 intro v pins s σ H Q I h;refine isTrue_or (thn (ha pins s σ H _ I h) λc s1 ⟨H1,j,i⟩=>?_);cases c with
 |true=>exact⟨H1,j,i⟩
 |false=>exact hb v pins s1 σ H1 Q j i
theorem eZs(ha:PT X a tA):PT X (.UnaryOp .Not a pos) (tNot tA):=by
 intro pins s σ H Q I h;exact isTrue_not (ha pins s σ H (λc H1=>Q (!c) H1) I h)
def fQo(ta tb:TE):TE:=fun σ H Q=>ta σ H λx H1=>∃c,x=.bl c/\if c=true then tb σ H1 Q else Q (.bl false) H1
theorem eZt{op}{t:TE}(h:PE X a t):PE X (.BoolOp op [a] pos) t:=λpins s σ H Q I hw=>BoolOp_one (h pins s σ H Q I hw)
theorem eZu(ha:PE X a ta)(hb:PE X (.BoolOp .And (b::rest) pos) tb):PE X (.BoolOp .And (a::b::rest) pos) (fQo ta tb):=by
 intro pins s σ H Q I h;refine BoolOp_and (thn (ha pins s σ H _ I h) λv s1 ⟨x,H1,j,r1,i⟩=>?_);obtain⟨c,rfl,i⟩:=i;cases r1;refine dO ?_;cases c with
 |true=>exact hb pins s1 σ H1 Q j i
 |false=>exact⟨.bl false,H1,j,rfl,i⟩
end
def SqL(K:au)(H:Hp)(a:Addr)(xs:List V):Prop :=
 Rd H a (.lst xs) \/
  ∃(o:Obj) (its:Array ad) (n:Nat),K.lookup a=some o/\o.cls=.type "list"/\o.dict=none/\o.data=.seq its n/\its.size<=sizeLine/\Vals xs its.toList
def SqT(K:au)(H:Hp)(a:Addr)(xs:List V):Prop :=
 Rd H a (.tup xs) \/
  ∃(o:Obj) (its:Array ad) (n:Nat),K.lookup a=some o/\o.cls=.type "tuple"/\o.dict=none/\o.data=.seq its n/\its.size<=sizeLine/\Vals xs its.toList
def absV:ad->Option V
 |.none=>some .non
 |.bool b=>some (.bl b)
 |.int i _=>some (.int i)
 |.str x _=>some (.str x)
 |.bytes b _=>some (.byt b)
 |.float b _=>some (.flt b)
 |.ref a=>some (.ref a)
 |.type n=>some (.ty n)
 |_=>none
theorem RelV.abs{x:V}{u:ad}(r:RelV x u):absV u=some x:=by
 cases x with
 |non=>cases r;rfl
 |bl _=>cases r;rfl
 |int _=>obtain⟨t,rfl⟩:=r;rfl
 |str _=>obtain⟨t,rfl⟩:=r;rfl
 |byt _=>obtain⟨t,rfl⟩:=r;rfl
 |flt _=>obtain⟨t,rfl⟩:=r;rfl
 |ref _=>cases r;rfl
 |ty _=>cases r;rfl
theorem RelV.inj{x y:V}{u:ad}(r:RelV x u)(q:RelV y u):x=y:=aQ (r.abs.symm.trans q.abs)
theorem Vals.inj:∀{xs ys:List V}{us:List ad},Vals xs us->Vals ys us->xs=ys
 |_,_,_,.nil,.nil=>rfl
 |_,_,_,.cons r t,.cons j i=>by rw[r.inj j,Vals.inj t i]
section
variable{X:Cx}{pins:List (Addr×Obj)}{σ:St}{H:Hp}{s:ak}{a:Addr}{xs ys:List V}
theorem SqL.of{K:au}(h:H a=some (.lst xs)):SqL K H a xs:=.inl (.inl h)
theorem Inv.list(I:Inv X pins σ H s)(h:SqL X.K H a xs):∃its:List ad,Vals xs its/\PlainL s.heap a its.toArray/\xs.length<=sizeLine:=by
 rcases h with h|⟨o,its,n,j,v,hd,i,B,r⟩
 ·obtain⟨z,its,n,r,e⟩:=h.ok I.hok;exact⟨its,r,⟨_,n,e,rfl,rfl,rfl⟩,z⟩
 ·refine⟨its.toList,r,⟨o,n,I.kIn a o j,v,hd,by simpa using i⟩,?_⟩
  have e:=r.length;simp only[aM] at e;omega
theorem Inv.tuple(I:Inv X pins σ H s)(h:SqT X.K H a xs):∃its:List ad,Vals xs its/\iA s.heap a its.toArray/\xs.length<=sizeLine:=by
 rcases h with h|⟨o,its,n,j,v,_,i,B,r⟩
 ·obtain⟨z,its,r,p,_⟩:=h.ok I.hok;exact⟨its,r,p,z⟩
 ·refine⟨its.toList,r,⟨o,I.kIn a o j,v,n,by simpa using i⟩,?_⟩
  have e:=r.length;simp only[aM] at e;omega
theorem Inv.list_inj(I:Inv X pins σ H s)(h:SqL X.K H a xs)(h':SqL X.K H a ys):xs=ys:=by
 obtain⟨its,r,⟨o,n,e,_,_,d⟩,_⟩:=I.list h;obtain⟨its',j,⟨o',z,e',_,_,i⟩,_⟩:=I.list h';rw[e] at e';cases e';rw[d] at i;injection i with v _
 have:its=its':=by simpa using congrArg Array.toList v
 subst this;exact r.inj j
theorem Inv.tuple_inj(I:Inv X pins σ H s)(h:SqT X.K H a xs)(h':SqT X.K H a ys):xs=ys:=by
 obtain⟨its,r,⟨o,e,_,n,d⟩,_⟩:=I.tuple h;obtain⟨its',j,⟨o',e',_,z,i⟩,_⟩:=I.tuple h';rw[e] at e';cases e';rw[d] at i;injection i with v _
 have:its=its':=by simpa using congrArg Array.toList v
 subst this;exact r.inj j
end
abbrev Cx.wish(X:Cx)(E:ad->ak->Prop):Cx:={X with xe:=E}
abbrev Cx.nox(X:Cx):Cx:=X.wish λ_ _=>False
theorem Cx.Ok.wish{X:Cx}(ok:X.Ok)(E:ad->ak->Prop):(X.wish E).Ok :=
 ⟨ok.mod,ok.kind,ok.glob,ok.blt,ok.above,ok.inj,ok.has,ok.cab,ok.hd,ok.frames,ok.gd,ok.stk,ok.exf,ok.bs,ok.bsz,ok.noex,ok.exfs,ok.funs,ok.frf⟩
theorem Cx.Ok.unwish{X:Cx}{E:ad->ak->Prop}(ok:(X.wish E).Ok):X.Ok :=
 ⟨ok.mod,ok.kind,ok.glob,ok.blt,ok.above,ok.inj,ok.has,ok.cab,ok.hd,ok.frames,ok.gd,ok.stk,ok.exf,ok.bs,ok.bsz,ok.noex,ok.exfs,ok.funs,ok.frf⟩
section
variable{X:Cx}{pins:List (Addr×Obj)}{σ:St}{H:Hp}{s:ak}{E:ad->ak->Prop}
theorem Inv.wish(I:Inv X pins σ H s)(E:ad->ak->Prop):Inv (X.wish E) pins σ H s:=⟨I.ok.wish E,I.os,I.bare,I.base,I.loc,I.cell,I.free,I.freeC,I.pin,I.hok,I.len⟩
theorem Inv.unwish(I:Inv (X.wish E) pins σ H s):Inv X pins σ H s:=⟨I.ok.unwish,I.os,I.bare,I.base,I.loc,I.cell,I.free,I.freeC,I.pin,I.hok,I.len⟩
theorem SP.unwish{D:Ends}{f:Flow}{s':ak}(h:SP (X.wish E) pins D f s'):SP X pins D f s':=by
 cases f with
 |next=>obtain⟨σ',H',I,q⟩:=h;exact⟨σ',H',I.unwish,q⟩
 |brk=>obtain⟨σ',H',I,q⟩:=h;exact⟨σ',H',I.unwish,q⟩
 |cont=>obtain⟨σ',H',I,q⟩:=h;exact⟨σ',H',I.unwish,q⟩
 |ret u=>obtain⟨v,σ',H',I,r,q⟩:=h;exact⟨v,σ',H',I.unwish,r,q⟩
theorem PSs.nox{st:List Stmt}{t:TS}(h:PSs X.nox st t):PSs X st t:=λpins s σ H D I hw =>
 cT (h pins s σ H D (I.wish _) hw) (λ_ _ q=>q.unwish) λ_ _ z=>dh z
end
section
variable{X:Cx}{st:Stmt}{rest:List Stmt}{t u:TS}{e:Expr}{te:TE}{pos:Pos}
def fQp:TS:=λD σ H=>D.nx σ H
def tSeq(t u:TS):TS:=λD σ H=>t {D with nx:=u D} σ H
theorem dXo:PSs X [] fQp:=λ_ _ σ H _ I h=>gG ⟨σ,H,I,h⟩
theorem bJq(h1:PS X st t)(h2:PSs X rest u):PSs X (st::rest) (tSeq t u):=by
 intro pins s σ H D I h;refine wpAny_execs_cons (thn (h1 pins s σ H {D with nx:=u D} I h) λf s1 q=>?_)
 cases f with
 |next =>
  obtain⟨σ',H',i,q⟩:=q;exact h2 pins s1 σ' H' D i q
 |ret v=>exact q
 |brk=>exact q
 |cont=>exact q
theorem dXp(h1:PS X st t):PSs X [st] t:=by
 intro pins s σ H D I h;refine wpAny_execs_cons (thn (h1 pins s σ H D I h) λf s1 q=>?_);cases f with
 |next=>exact gG q
 |ret v=>exact q
 |brk=>exact q
 |cont=>exact q
theorem Inv.quiet{pins:List (Addr×Obj)}{σ:St}{H:Hp}{s:ak}(I:Inv X pins σ H s):interactive X.env=false:=by simp[interactive,I.ok.kind]
def fQq(te:TE):TS:=λD σ H=>te σ H λ_ H1=>D.nx σ H1
theorem dXq(he:PE X e te)(hs:iB e none pos.line X.env=pure false:=by rfl):PS X (.Expr e pos) (fQq te):=by
 intro pins s σ H D I h;exact wpAny_Expr_any (thn (he pins s σ H _ I h) λv s1 ⟨x,H1,j,z,i⟩=>⟨σ,H1,j,i⟩) I.quiet hs
def tRet(te:TE):TS:=λD σ H=>te σ H D.rt
theorem eZv(he:PE X e te):PS X (.Return (some e) pos) (tRet te):=by
 intro pins s σ H D I h;exact wpAny_Return_some (thn (he pins s σ H _ I h) λv s1 ⟨x,H1,z,i,j⟩=>⟨x,σ,H1,z,i,j⟩)
def tIfS(c:TT)(t u:TS):TS:=λD σ H=>c σ H λb H1=>if b=true then t D σ H1 else u D σ H1
theorem fQr{c:Expr}{a b:List Stmt}{tc:TT}(hc:PT X c tc)(ha:PSs X a t)(hb:PSs X b u):PS X (.If c a b pos) (tIfS tc t u):=by
 intro pins s σ H D I h;refine wpAny_If (thn (hc pins s σ H _ I h) λd s1 ⟨H1,j,i⟩=>?_);cases d with
 |true=>exact ha pins s1 σ H1 D j i
 |false=>exact hb pins s1 σ H1 D j i
end
abbrev TG:=V->St->Hp->(St->Hp->Prop)->Prop
abbrev TGs:=List V->St->Hp->(St->Hp->Prop)->Prop
def PG(X:Cx)(target:Expr)(t:TG):Prop :=
 ∀(pins:List (Addr×Obj)) (s:ak) (σ:St) (H:Hp) (v:V) (u:ad) (Q:St->Hp->Prop),Inv X pins σ H s->RelV v u->t v σ H Q ->
  aG (aE X.prog X.w) X.A (iV target X.env u) (λ_ s'=>∃σ' H',Inv X pins σ' H' s'/\Q σ' H') X.xe s
def PGs(X:Cx)(ts:List Expr)(t:TGs):Prop :=
 ∀(pins:List (Addr×Obj)) (s:ak) (σ:St) (H:Hp) (vs:List V) (us:List ad) (Q:St->Hp->Prop),Inv X pins σ H s->Vals vs us->t vs σ H Q ->
  aG (aE X.prog X.w) X.A (assignInOrder ((eD ts X.env).map (·.2)) us) (λ_ s'=>∃σ' H',Inv X pins σ' H' s'/\Q σ' H') X.xe s
abbrev TSet:=V->V->V->Hp->(Hp->Prop)->Prop
def PSet(X:Cx)(t:TSet):Prop :=
 ∀(pins:List (Addr×Obj)) (s:ak) (σ:St) (H:Hp) (o i v:V) (ov iv u:ad) (Q:Hp->Prop),Inv X pins σ H s->RelV o ov->RelV i iv->RelV v u->t o i v H Q ->
  aG (aE X.prog X.w) X.A (setItem ov iv u) (λ_ s'=>∃H',Inv X pins σ H' s'/\Q H') X.xe s
section
variable{X:Cx}{pos:Pos}
def bXg(i:Nat):TG:=λv σ H Q=>Q (σ.set i (some v)) H
theorem aQf{i:Nat}{x:Str}(hN:X.N.Nodup)(hi:X.N[i]?=some x)(hx:Loc X.env.scope x)(hf:X.fn x=true\/X.env.scope.names.lookup x=some .local:=by first|exact .inl rfl|exact .inr rfl|assumption):PG X (.Name x pos) (bXg i):=by
 intro pins s σ H v u Q I r h;exact wpAny_assign_Name (store_ok I hN hi hx r (λs' j=>⟨_,H,j,h⟩) hf)
def gNil:TGs:=λvs σ H Q=>vs=[]/\Q σ H
def dXr(t:TG)(u:TGs):TGs:=λvs σ H Q=>∃v r,vs=v::r/\t v σ H fun σ' H'=>u r σ' H' Q
theorem cZh:PGs X [] gNil:=by
 intro pins s σ H i us Q I r h;obtain⟨e,h⟩:=h;subst e;cases r;exact assignInOrder_nil ⟨σ,H,I,h⟩
theorem bQk{e:Expr}{es:List Expr}{t:TG}{u:TGs}(h1:PG X e t)(h2:PGs X es u)
  (hs:(eD (e::es) X.env).map (·.2)=iV e X.env::(eD es X.env).map (·.2):=by rfl):PGs X (e::es) (dXr t u):=by
 intro pins s σ H D us Q I r h;obtain⟨v,J,z,h⟩:=h;subst z;cases r with
 |cons r i =>
  rw[hs];refine assignInOrder_cons (thn (h1 pins s σ H _ _ _ I r h) λ_ s1 ⟨σ1,H1,B,j⟩=>?_);exact h2 pins s1 σ1 H1 _ _ Q B i j
def gTup(K:au)(n:Nat)(t:TGs):TG:=λv σ H Q=>∃a xs,v=.ref a/\SqT K H a xs/\xs.length=n/\t xs σ H Q
theorem dZn{es:List Expr}{k:Nat}{t:TGs}{n:Nat}(hc:X.calm=true)(h:PGs X es t)
  (hn:(eD es X.env).length=n:=by rfl) (hst:(eD es X.env).findIdx? (·.1)=none:=by rfl):PG X (.Tuple es k pos) (gTup X.K n t):=by
 intro pins s σ H v u Q I r hw;obtain⟨a,xs,D,B,hl,hw⟩:=hw;subst D;cases r;obtain⟨its,i,z,L⟩:=I.tuple B;refine assign_Tuple_tuple (I.ok.hd hc) z (by simp[hn,<- hl,i.length]) hst λh' j=>?_
 have J:Inv X pins σ H {s with heap:=h'}:=I.kept (t':=s.toks) λb o e=>j b o (Nat.ne_of_lt (aD e)) e
 exact h pins _ σ H xs _ Q J (by simpa using i) hw
def gSub(to ti:TE)(t:TSet):TG:=λv σ H Q=>to σ H λo H1=>ti σ H1 λi H2=>t o i v H2 λH3=>Q σ H3
theorem eZw{o i:Expr}{to ti:TE}{t:TSet}(ho:PE X o to)(hi:PE X i ti)(hs:PSet X t)
  (ha:∀ v,iV (.Subscript o i pos) X.env v=(do
   let ov <- fb [v] (eval o X.env)
   let iv <- fb [v,ov] (eval i X.env)
   fF pos
   fb [v,ov,iv] (setItem ov iv v)
   release [v,ov,iv] []):=by intro _;rfl):PG X (.Subscript o i pos) (gSub to ti t):=by
 intro pins s σ H v u Q I r h;rw[ha];refine aa (bn (thn (ho pins s σ H _ I h) λov s1 ⟨x,H1,O,z,J⟩=>?_));refine aa (bn (thn (hi pins s1 σ H1 _ O J) λiv s2 ⟨y,H2,N,j,D⟩=>?_));refine aa (e7 (aa (bn (thn (hs pins s2 σ H2 x y v ov iv u _ N z j r D) λ_ s3 ⟨U,L,B⟩=>?_))));exact wpAny_release ⟨σ,U,L,B⟩
def tAsg(te:TE)(g:TG):TS:=λD σ H=>te σ H λx H1=>g x σ H1 D.nx
theorem eZx{tg e:Expr}{te:TE}{g:TG}(he:PE X e te)(hg:PG X tg g)(hs:swapsWithSole [tg] e pos.line X.env=pure false:=by rfl)(hw:swappedStores [tg] e X.env=pure none:=by rfl)
  (h1:(eD [tg] X.env).map (·.2)=[iV tg X.env]:=by rfl):PS X (.Assign [tg] e pos) (tAsg te g):=by
 intro pins s σ H D I h;refine wpAny_Assign_stores (thn (he pins s σ H _ I h) λv s1 ⟨x,H1,z,i,j⟩=>?_) hs hw;rw[h1];exact thn (hg pins s1 σ H1 x v _ z i j) λ_ s2 q=>q
theorem eZy{i:Nat}{x:Str}{e:Expr}{te:TE}{pos':Pos}(hN:X.N.Nodup)(hi:X.N[i]?=some x)(hx:Loc X.env.scope x)(he:PE X e te)(hs:iB e (some (.Name x pos')) pos.line X.env=pure false:=by rfl)(hf:X.fn x=true\/X.env.scope.names.lookup x=some .local:=by first|exact .inl rfl|exact .inr rfl|assumption) :
  PS X (.Assign [.Name x pos'] e pos) (tAsg te (bXg i)):=by
 intro pins s σ H D I h;refine wpAny_Assign_Name (thn (he pins s σ H _ I h) λv s1 ⟨y,H1,J,j,z⟩=>?_) hs;exact store_ok J hN hi hx j (λs2 B=>⟨_,H1,B,z⟩) hf
end
section
variable{X:Cx}{pos:Pos}
def eZz(c:TT)(tb:TS):TS:=λD σ H=>∃W:Nat->St->Hp->Prop,(∃m,W m σ H)/\∀m σ H,W m σ H ->
 c σ H λb H1=>if b=true then ∃N:St->Hp->Prop,(∀σ' H',N σ' H'->∃m',m'<m/\W m' σ' H')/\tb {D with nx:=N,ct:=N,bk:=D.nx} σ H1 else D.nx σ H1
theorem dQ3{c:Expr}{body:List Stmt}{tc:TT}{tb:TS}(hp:PassesOwn (aE X.prog X.w) X.A X.env X.xe)(hc:PT X c tc)(hb:PSs X body tb):PS X (.While c body [] pos) (eZz tc tb):=by
 intro pins s σ H D I h;obtain⟨W,⟨m0,w0⟩,turn⟩:=h;refine wpAny_While (codeAny_whileLoop (λn s'=>∃σ' H',Inv X pins σ' H' s'/\W n σ' H') ?_ m0 ⟨σ,H,I,w0⟩);rintro n s1 ⟨σ1,H1,I1,Z⟩;refine ef hp (thn (hc pins s1 σ1 H1 _ I1 (turn n σ1 H1 Z)) λb s2 ⟨H2,Y,z⟩=>?_);cases b with
 |true =>
  obtain⟨N,U,z⟩:=z;rw[if_pos rfl];refine ef hp (thn (hb pins s2 σ1 H2 _ Y z) λf s3 j=>?_);cases f with
  |next =>
   obtain⟨σ3,i,O,J⟩:=j;obtain⟨L,hm,B⟩:=U σ3 i J;exact⟨L,hm,σ3,i,O,B⟩
  |cont =>
   obtain⟨σ3,i,O,J⟩:=j;obtain⟨L,hm,B⟩:=U σ3 i J;exact⟨L,hm,σ3,i,O,B⟩
  |brk=>exact j
  |ret v=>exact j
 |false =>
  rw[if_neg dH];exact gG ⟨σ1,H2,Y,z⟩
end
structure It where
 go:Nat->Hp->Prop
 yld:Nat->Hp->V->Hp->Prop
 stop:Nat->Hp->Prop
def FpOk(X:Cx)(pins:List (Addr×Obj))(H:Hp)(b:Addr):Prop :=
 H b=none/\b≠X.env.locals/\b∉X.fs/\(b∈X.ex\/X.s₀.heap.objs.size<=b)/\(∀x c,X.env.cells.lookup x=some c->c≠b)/\∀p∈X.pn++pins,p.1≠b
theorem Inv.fpOk{X:Cx}{pins:List (Addr×Obj)}{σ:St}{H H':Hp}{s:ak}{b:Addr}(I:Inv X pins σ H s)(hb:s.heap.objs.size<=b)(hn:H' b=none):FpOk X pins H' b:=by
 refine⟨hn,Nat.ne_of_gt (Nat.lt_of_lt_of_le I.lt hb),I.nofs hb,.inr (Nat.le_trans I.sz hb),λx c e z=>?_,λp i z=>?_⟩
 ·obtain⟨v,q⟩:=I.cell x c e;exact absurd (Nat.lt_of_lt_of_le q.lt (by rw[z];exact hb)) (Nat.lt_irrefl _)
 ·exact absurd (Nat.lt_of_lt_of_le (aD (I.pin p i).1) (by rw[z];exact hb)) (Nat.lt_irrefl _)
structure Turn(P:aF)(w:aS)(K:au)(tg:Expr)(J:It)(fp:List Addr)(it:Addr)(tn:Nat->bd->Prop):Prop where
 mem:it∈fp
 obj:∀i h,tn i h->∀b∈fp,∃o,h.get? b=some o/\∀v,o.data≠.cell v
 keep:∀i h h',tn i h->(∀b∈fp,∀o,h.get? b=some o->h'.get? b=some o)->tn i h'
 item:∀(X:Cx),X.prog=P->X.w=w->X.K=K->X.calm=true->∀(i:Nat) (pins:List (Addr×Obj)) (s:ak) (σ:St) (H:Hp) (E:ad->ak->Prop),Inv X pins σ H s->(∀b∈fp,FpOk X pins H b)->tn i s.heap->J.go i H ->
  aG (aE P w) X.A (eV (.ref it)) (λr s1=>∃ u,r=some u /\
   aG (aE P w) X.A (eY tg (.ref it) u) (λ_ s2=>∃x H',Inv X pins σ H' s2/\RelV x u/\J.yld i H x H'/\tn (i+1) s2.heap/\∀b∈fp,H' b=none) E s1) E s
 done:∀(X:Cx),X.prog=P->X.w=w->X.K=K->X.calm=true->∀(i:Nat) (pins:List (Addr×Obj)) (s:ak) (σ:St) (H:Hp) (E:ad->ak->Prop),Inv X pins σ H s->(∀b∈fp,FpOk X pins H b)->tn i s.heap->J.stop i H ->
  aG (aE P w) X.A (eV (.ref it)) (λr s1=>r=none/\Inv X pins σ H s1) E s
 self:∀(A:a4) (i:Nat) (s:ak) (Q:ad->ak->Prop) (E:ad->ak->Prop),tn i s.heap->Q (.ref it) s->aG (aE P w) A (ir (.ref it)) Q E s
abbrev TI:=St->Hp->(It->Hp->Prop)->Prop
def PIE(X:Cx)(pins:List (Addr×Obj))(σ:St)(tg:Expr)(R:It->Hp->Prop)(itv:ad)(s2:ak):Prop :=
 ∃(it:Addr) (fp:List Addr) (tn:Nat->bd->Prop) (J:It) (H':Hp),itv=.ref it/\Inv X pins σ H' s2/\Turn X.prog X.w X.K tg J fp it tn/\tn 0 s2.heap/\(∀b∈fp,FpOk X pins H' b)/\R J H'
def PI(X:Cx)(tg iter:Expr)(wi:TI):Prop :=
 ∀(pins:List (Addr×Obj)) (s:ak) (σ:St) (H:Hp) (R:It->Hp->Prop),Inv X pins σ H s->wi σ H R ->
  aG (aE X.prog X.w) X.A (eval iter X.env) (λv s1=>aG (aE X.prog X.w) X.A (ir v) (PIE X pins σ tg R) X.xe s1) X.xe s
theorem dQ4{M:Model}{A:a4}{E:ad->ak->Prop}{s:ak}{tg:Expr}{it:Addr}{u:ad}{o:Obj}{n:String}{vs:Array ad}{Q:Unit->ak->Prop}(ho:s.heap.get? it=some o)(hc:o.cls=.type n)(hd:o.data=.fields vs)
    (hn:["enumerate", "zip", "dict_itemiterator", "dict_reverseitemiterator", "odict_iterator", "itertools.zip_longest", "itertools.pairwise"].contains n=false) (hQ:Q () s):aG M A (eY tg (.ref it) u) Q E s:=by
  unfold eY;cases tg <;> first
    |exact af hQ
    | (cases u <;> first
        |exact af hQ
        | (refine aa (wpAny_load ho ?_)
           rw [hc,hd];show aG M A (if (["enumerate", "zip", "dict_itemiterator", "dict_reverseitemiterator", "odict_iterator", "itertools.zip_longest", "itertools.pairwise"].contains n&&vs[0]?==some (e8 _))=true then _ else _) Q E s
           rw [if_neg (by intro h; rw [hn,Bool.false_and] at h; cases h)]
           exact af hQ))
def Itl(K:au)(a:Addr):It :=
 ⟨λi H=>∃xs x,SqL K H a xs/\xs[i]?=some x,λi H x H'=>H'=H/\∀xs,SqL K H a xs->xs[i]?=some x,λi H=>∃xs,SqL K H a xs/\xs.length<=i⟩
def Itt(K:au)(a:Addr):It :=
 ⟨λi H=>∃xs x,SqT K H a xs/\xs[i]?=some x,λi H x H'=>H'=H/\∀xs,SqT K H a xs->xs[i]?=some x,λi H=>∃xs,SqT K H a xs/\xs.length<=i⟩
def Itr(lo:Int)(n:Nat):It:=⟨λi _=>i<n,λi H x H'=>H'=H/\x=.int (lo+i),λi _=>n<=i⟩
theorem cZi{P:aF}{w:aS}{K:au}{tg:Expr}(a it:Addr):Turn P w K tg (Itl K a) [it] it (λi h=>h.IsListIter it a i) where
 mem:=by simp
 obj:=λi h st b j=>by
  have e:b=it:=by simpa using j
  subst e;obtain⟨o,e,c,d⟩:=st;exact⟨o,e,λv z=>by rw[d] at z;cases z⟩
 keep:=λi h h' st k=>st.at λo e=>k it (by simp) o e
 item:=by
  intro X O hw U Z i pins s σ H E I hf st N;subst O hw U;obtain⟨xs,x,D,L⟩:=N;obtain⟨its,J,p,hz⟩:=I.list D;obtain⟨u,hu,ru⟩:=J.get L;obtain⟨f0,f1,f2,Y,f4,f5⟩:=hf it (by simp)
  refine wpAny_pyNext_list_item st p.isList (x:=u) (by simpa using hu) λh' B sb=>?_
  have I1:Inv X pins σ H {s with heap:=h'}:=I.turned (t':=s.toks) (λb o j e=>(sb.2 b j).trans e) f0 f1 Y f4 f5
  obtain⟨o,e,c,d⟩:=id B;exact⟨u,rfl,dQ4 (s:={s with heap:=h'}) e c d (by decide) ⟨x,H,I1,ru,⟨rfl,λys hy=>by rw[I.list_inj hy D];exact L⟩,B,λb j=>(hf b j).1⟩⟩
 done:=by
  intro X O hw U Z i pins s σ H E I hf st N;subst O hw U;obtain⟨xs,D,L⟩:=N;obtain⟨its,J,p,hz⟩:=I.list D;obtain⟨f0,f1,f2,Y,f4,f5⟩:=hf it (by simp)
  have hl:=J.length;exact wpAny_pyNext_list_end (I.ok.hd Z) st p.isList (by simp;omega) λh' eb=>⟨rfl,I.turned (t':=s.toks) (λb o j e=>eb b o j e) f0 f1 Y f4 f5⟩
 self:=λ_ _ _ _ _ st h=>wpAny_pyIter_listiter st h
theorem cQq{P:aF}{w:aS}{K:au}{tg:Expr}(a it:Addr):Turn P w K tg (Itt K a) [it] it (λi h=>h.IsTupleIter it a i) where
 mem:=by simp
 obj:=λi h st b j=>by
  have e:b=it:=by simpa using j
  subst e;obtain⟨o,e,c,d⟩:=st;exact⟨o,e,λv z=>by rw[d] at z;cases z⟩
 keep:=λi h h' st k=>st.at λo e=>k it (by simp) o e
 item:=by
  intro X O hw U Z i pins s σ H E I hf st N;subst O hw U;obtain⟨xs,x,D,L⟩:=N;obtain⟨its,J,p,hz⟩:=I.tuple D;obtain⟨u,hu,ru⟩:=J.get L;obtain⟨f0,f1,f2,Y,f4,f5⟩:=hf it (by simp)
  refine wpAny_pyNext_tuple_item st (show s.heap.IsTuple a its.toArray from p) (x:=u) (by simpa using hu) λh' B sb=>?_
  have I1:Inv X pins σ H {s with heap:=h'}:=I.turned (t':=s.toks) (λb o j e=>(sb.2 b j).trans e) f0 f1 Y f4 f5
  obtain⟨o,e,c,d⟩:=id B;exact⟨u,rfl,dQ4 (s:={s with heap:=h'}) e c d (by decide) ⟨x,H,I1,ru,⟨rfl,λys hy=>by rw[I.tuple_inj hy D];exact L⟩,B,λb j=>(hf b j).1⟩⟩
 done:=by
  intro X O hw U Z i pins s σ H E I hf st N;subst O hw U;obtain⟨xs,D,L⟩:=N;obtain⟨its,J,p,hz⟩:=I.tuple D;obtain⟨f0,f1,f2,Y,f4,f5⟩:=hf it (by simp)
  have hl:=J.length;exact wpAny_pyNext_tuple_end (I.ok.hd Z) st (show s.heap.IsTuple a its.toArray from p) (by simp;omega) λh' eb=>⟨rfl,I.turned (t':=s.toks) (λb o j e=>eb b o j e) f0 f1 Y f4 f5⟩
 self:=λ_ _ _ _ _ st h=>wpAny_pyIter_tupleiter st h
theorem cQr{P:aF}{w:aS}{K:au}{tg:Expr}(it:Addr)(lo:Int)(n:Nat):Turn P w K tg (Itr lo n) [it] it (λi h=>IsRangeIter h it (lo+(i:Nat)*1) ((n:Int)-(i:Nat)) 1) where
 mem:=by simp
 obj:=λi h st b j=>by
  have e:b=it:=by simpa using j
  subst e;exact⟨_,st,λv z=>by
   have z':Data.fields _=Data.cell v:=z;cases z'⟩
 keep:=λi h h' st k=>k it (by simp) _ st
 item:=by
  intro X L hw N J i pins s σ H E I hf st D;subst L hw N;obtain⟨f0,f1,f2,O,f4,f5⟩:=hf it (by simp)
  have W:=Walks.range (prog:=X.prog) (w:=X.w) (I.ok.hd J) it lo 1 n;refine W.item i s _ _ D st λv h' U Z B Y=>?_;obtain⟨t,rfl⟩:=Z;have I1:Inv X pins σ H {s with heap:=h',toks:=U}:=I.turned (λb o j e=>Y b o (by simpa using j) e) f0 f1 O f4 f5
  refine⟨_,rfl,dQ4 (s:={s with heap:=h',toks:=U}) (n:="range_iterator") B rfl rfl (by decide) ⟨.int (lo+i),H,I1,⟨t,?_⟩,⟨rfl,rfl⟩,B,λb j=>(hf b j).1⟩⟩
  rw[Int.mul_one]
 done:=by
  intro X L hw N J i pins s σ H E I hf st D;subst L hw N;obtain⟨f0,f1,f2,O,f4,f5⟩:=hf it (by simp)
  exact wpAny_pyNext_range_end (I.ok.hd J) st (by have:n<=i:=D;omega) λh' eb=>⟨rfl,I.turned (t':=s.toks) (λb o j e=>eb b o j e) f0 f1 O f4 f5⟩
 self:=λ_ _ _ _ _ st h=>wpAny_pyIter_rangeiter st h
section
variable{X:Cx}{tg:Expr}
theorem bJr{pins:List (Addr×Obj)}{σ:St}{H:Hp}{s:ak}{R:It->Hp->Prop}{E:ad->ak->Prop}{lo hi:Int}{t u v:Tok}{tk:Nat}(I:Inv X pins σ H s)(h1:-(2^62)<=lo)(h2:lo<2^62)(h3:-(2^62)<=hi)(h4:hi<2^62)
  (q:R (Itr lo (hi-lo).toNat) H):aG (aE X.prog X.w) X.A (ir (.ref s.heap.objs.size)) (PIE X pins σ tg R) E {s with heap:=s.heap.push {cls:=.type "range",data:=.fields #[.int lo t,.int hi u,.int 1 v]},toks:=tk}:=by
 refine wpAny_pyIter_range (IsRange.new ..) (small_one h1 h2 h3 h4) ?_;have i:Inv X pins σ H {s with heap:=s.heap.push {cls:=.type "range",data:=.fields #[.int lo t,.int hi u,.int 1 v]},toks:=tk}:=I.kept λb o e=>ae _ e
 refine⟨(s.heap.push { cls:=.type "range",data:=.fields #[.int lo t,.int hi u,.int 1 v] }).objs.size,[(s.heap.push { cls:=.type "range",data:=.fields #[.int lo t,.int hi u,.int 1 v] }).objs.size],_,_,H,rfl,
  i.kept (t':=tk) λb o e=>ae _ e,cQr _ lo (hi-lo).toNat,?_,λb j=>?_,q⟩
 ·have B:lo+((0:Nat):Int)*1=lo:=by simp
  have z:(((hi-lo).toNat:Nat):Int)-((0:Nat):Int)=cR.Range.rangeSize lo hi 1:=by rw[rangeSize_one];split <;> omega
  show IsRangeIter _ _ (lo+((0:Nat):Int)*1) ((((hi-lo).toNat:Nat):Int)-((0:Nat):Int)) 1;rw[B,z];exact av _ rfl
 ·have e:b=(s.heap.push {cls:=.type "range",data:=.fields #[.int lo t,.int hi u,.int 1 v]}).objs.size:=by simpa using j
  subst e;exact i.fpOk (Nat.le_refl _) (i.hok.fresh (Nat.le_refl _))
def fQs(ta:TA):TI:=fun σ H R=>ta σ H λvs H1=>∃j:Int,vs=[.int j]/\-(2^62)<=j/\j<2^62/\R (Itr 0 j.toNat) H1
def fQt(ta:TA):TI:=fun σ H R=>ta σ H λvs H1=>∃i j:Int,vs=[.int i,.int j]/\(-(2^62)<=i/\i<2^62/\-(2^62)<=j/\j<2^62)/\R (Itr i (j-i).toNat) H1
theorem cZj{a:Expr}{ta:TA}{p pos:Pos}(hg:Gl X "range")(hm:X.mg "range"=none)(ha:PA X [a] ta)(hs:az [a] X.env=[(false,eval a X.env)]:=by rfl):PI X tg (.Call (.Name "range" p) [a] [] pos) (fQs ta):=by
 intro pins s σ H R I h;refine Call_ (ld_blt I hg hm boot_range (fc (thn (ha pos pins s σ H _ I h) λus s1 ⟨B,H1,z,r1,i⟩=>?_) hs rfl));obtain⟨j,e,i,v,q⟩:=i;subst e;cases r1 with
 |cons r rr =>
  cases rr;obtain⟨t,rfl⟩:=r;exact call_range_1 (bJr z (by omega) (by omega) i v (by simpa using q))
theorem cZk{a b:Expr}{ta:TA}{p pos:Pos}(hg:Gl X "range")(hm:X.mg "range"=none)(ha:PA X [a,b] ta)(hs:az [a,b] X.env=[(false,eval a X.env),(false,eval b X.env)]:=by rfl)(hs2:az [b] X.env=[(false,eval b X.env)]:=by rfl) :
  PI X tg (.Call (.Name "range" p) [a,b] [] pos) (fQt ta):=by
 intro pins s σ H R I h;refine Call_ (ld_blt I hg hm boot_range (fc (thn (ha pos pins s σ H _ I h) λus s1 ⟨N,H1,L,r1,v⟩=>?_) (by rw[hs,hs2]) (by rw[hs2];rfl)))
 obtain⟨i,j,e,⟨v,J,D,B⟩,q⟩:=v;subst e;cases r1 with
 |cons r rr =>
  cases rr with
  |cons z rr =>
   cases rr;obtain⟨t,rfl⟩:=r;obtain⟨O,rfl⟩:=z;exact call_range_2 (bJr L v J D B q)
def tFor(wi:TI)(g:TG)(tb:TS):TS:=λD σ H=>wi σ H λJ H1=>∃W:Nat->Nat->St->Hp->Prop,(∃m,W 0 m σ H1)/\∀i m σ H,W i m σ H ->
 (J.stop i H/\D.nx σ H)\/(J.go i H/\∃N:St->Hp->Prop,(∀σ' H',N σ' H'->∃m',m'<m/\W (i+1) m' σ' H')/\∀x H',J.yld i H x H'->g x σ H' fun σ2 H2=>tb {D with nx:=N,ct:=N,bk:=D.nx} σ2 H2)
def bZj(fp:List Addr)(h:bd):List (Addr×Obj):=fp.filterMap λb=>(h.get? b).map λo=>(b,o)
theorem aZw{fp:List Addr}{h:bd}{b:Addr}{o:Obj}(hb:b∈fp)(e:h.get? b=some o):(b,o)∈bZj fp h:=eW.mpr ⟨b,hb,by rw[e];rfl⟩
theorem cZl{fp:List Addr}{h:bd}{p:Addr×Obj}(hp:p∈bZj fp h):p.1∈fp/\h.get? p.1=some p.2:=by
 obtain⟨b,i,e⟩:=eW.mp hp;cases q:h.get? b with
 |none=>rw[q] at e;cases e
 |some o =>
  rw[q] at e;have j:(b,o)=p:=aQ e;subst j;exact⟨i,q⟩
theorem Inv.pinned{pins:List (Addr×Obj)}{σ:St}{H:Hp}{s:ak}{fp:List Addr}(I:Inv X pins σ H s)(hf:∀b∈fp,FpOk X pins H b)(ho:∀b∈fp,∃o,s.heap.get? b=some o/\∀v,o.data≠.cell v):Inv X (pins++bZj fp s.heap) σ H s :=
 I.pins_of λp j=>(aP.mp j).elim (λz=>I.pin p (a8 _ z)) λz=>by
  obtain⟨i,e⟩:=cZl z;obtain⟨f0,f1,f2,_⟩:=hf p.1 i;obtain⟨o,e',d⟩:=ho p.1 i;rw[e] at e';cases e';exact⟨e,f0,f1,f2,d⟩
theorem Inv.unpinned{pins pl:List (Addr×Obj)}{σ:St}{H:Hp}{s:ak}(I:Inv X (pins++pl) σ H s):Inv X pins σ H s:=I.pins_of λp i=>I.pin p (a8 _ (cy _ i))
theorem eX0{iter:Expr}{body:List Stmt}{wi:TI}{g:TG}{tb:TS}{pos:Pos}(hp:PassesOwn (aE X.prog X.w) X.A X.env X.xe)(hc:X.calm=true)(hi:PI X tg iter wi)(hg:PG X tg g)(hb:PSs X body tb)
  (hs:∀x,b7 iter X.env x=pure x:=by intro _;rfl):PS X (.For tg iter body [] pos) (tFor wi g tb):=by
 intro pins s σ H D I h;refine wpAny_For (thn (hi pins s σ H _ I h) λv s1 h1=>thn h1 λitv s2 h2=>?_) hs;obtain⟨it,fp,tn,J,H2,e,I2,T,st2,f2,W,⟨m0,w0⟩,turn⟩:=h2;subst e;have j:∀{H':Hp},(∀b∈fp,H' b=none)->∀b∈fp,FpOk X pins H' b:=λhn b hb=>⟨hn b hb,(f2 b hb).2⟩;refine codeAny_forLoop_any (λn s'=>∃i σ' H',Inv X pins σ' H' s'/\tn i s'.heap/\(∀b∈fp,H' b=none)/\W i n σ' H') ?_ m0 ⟨0,σ,H2,I2,st2,λb hb=>(f2 b hb).1,w0⟩;rintro n s3 ⟨i,σ3,H3,I3,U,Z,w3⟩;rcases turn i n σ3 H3 w3 with⟨stop,qn⟩|⟨go,N,hN,step⟩
 ·refine ef hp (thn (T.done X rfl rfl rfl hc i pins s3 σ3 H3 X.xe I3 (j Z) U stop) λr s4 ⟨hr,I4⟩=>?_);subst hr;exact gG ⟨σ3,H3,I4,qn⟩
 ·refine ef hp (thn (T.item X rfl rfl rfl hc i pins s3 σ3 H3 X.xe I3 (j Z) U go) λr s4 ⟨u,hr,h4⟩=>?_);subst hr;refine ef hp (thn h4 λ_ s5 ⟨x,H5,I5,r5,y5,O,fr5⟩=>?_);have I5':=I5.pinned (j fr5) (T.obj _ _ O);refine ef hp (thn (hg _ s5 σ3 H5 x u _ I5' r5 (step x H5 y5)) λ_ s6 ⟨σ6,H6,I6,q6⟩=>?_);refine ef hp (thn (hb _ s6 σ6 H6 _ I6 q6) λf s7 L=>?_);have again:∀{σ7:St}{B:Hp},Inv X (pins++bZj fp s5.heap) σ7 B s7->N σ7 B->∃m,m<n/\∃i σ' H',Inv X pins σ' H' s7/\tn i s7.heap/\(∀b∈fp,H' b=none)/\W i m σ' H':=λ{σ7 B} z Y=>by
   obtain⟨m',hm,w7⟩:=hN σ7 B Y;refine⟨m',hm,i+1,σ7,B,z.unpinned,T.keep _ _ _ O λb hb o e=>(z.pin (b,o) (a8 _ (a8 _ (aZw hb e)))).1,λb hb=>?_,w7⟩;obtain⟨o,e,d⟩:=T.obj _ _ O b hb;exact(z.pin (b,o) (a8 _ (a8 _ (aZw hb e)))).2.1
  cases f with
  |next=>obtain⟨σ7,B,z,Y⟩:=L;exact again z Y
  |cont=>obtain⟨σ7,B,z,Y⟩:=L;exact again z Y
  |brk=>obtain⟨σ7,B,z,L⟩:=L;exact⟨σ7,B,z.unpinned,L⟩
  |ret v=>obtain⟨x7,σ7,B,z,r7,L⟩:=L;exact⟨x7,σ7,B,z.unpinned,r7,L⟩
end
abbrev R2:=V->V->Hp->VK->Prop
def OpR(X:Cx)(f:ad->ad->Sem ad)(r:R2):Prop :=
 ∀(pins:List (Addr×Obj)) (s:ak) (σ:St) (H:Hp) (x y:V) (v u:ad) (Q:VK),Inv X pins σ H s->RelV x v->RelV y u->r x y H Q ->
  aG (aE X.prog X.w) X.A (f v u) (EP X pins σ Q) X.xe s
def UnR(X:Cx)(f:ad->Sem ad)(r:V->Hp->VK->Prop):Prop :=
 ∀(pins:List (Addr×Obj)) (s:ak) (σ:St) (H:Hp) (x:V) (v:ad) (Q:VK),Inv X pins σ H s->RelV x v->r x H Q ->
  aG (aE X.prog X.w) X.A (f v) (EP X pins σ Q) X.xe s
def CallR(X:Cx)(f:ad)(r:List V->Hp->VK->Prop):Prop :=
 ∀(pins:List (Addr×Obj)) (s:ak) (σ:St) (H:Hp) (xs:List V) (us:List ad) (Q:VK),Inv X pins σ H s->Vals xs us->r xs H Q ->
  aG (aE X.prog X.w) X.A (call f us) (EP X pins σ Q) X.xe s
def TruR(X:Cx)(r:V->Hp->(Bool->Hp->Prop)->Prop):Prop :=
 ∀(pins:List (Addr×Obj)) (s:ak) (σ:St) (H:Hp) (x:V) (v:ad) (Q:Bool->Hp->Prop),Inv X pins σ H s->RelV x v->r x H Q ->
  aG (aE X.prog X.w) X.A (truthy v) (TP X pins σ Q) X.xe s
def tOp(r:R2)(ta tb:TE):TE:=fun σ H Q=>ta σ H λx H1=>tb σ H1 λy H2=>r x y H2 Q
def tUn(r:V->Hp->VK->Prop)(ta:TE):TE:=fun σ H Q=>ta σ H λx H1=>r x H1 Q
def rI(C:Int->Int->Prop)(g:Int->Int->V):R2:=λx y H Q=>∃i j,x=.int i/\y=.int j/\C i j/\Q (g i j) H
def rI0(g:Int->Int->V):R2:=λx y H Q=>∃i j,x=.int i/\y=.int j/\Q (g i j) H
def rU(g:Int->V):V->Hp->VK->Prop:=λx H Q=>∃i,x=.int i/\Q (g i) H
section
variable{X:Cx}{a b c:Expr}{ta tb tc:TE}{pos:Pos}
theorem binT(ha:PE X a ta)(hb:PE X b tb){pins:List (Addr×Obj)}{s:ak}{σ:St}{H:Hp}{R:V->V->Hp->Prop}(I:Inv X pins σ H s)
  (h:ta σ H λx H1=>tb σ H1 λy H2=>R x y H2) {Q:ad->ak->Prop}{f:ad->ad->Sem ad}
  (hf:∀v u s2 x y H2,Inv X pins σ H2 s2->RelV x v->RelV y u->R x y H2->aG (aE X.prog X.w) X.A (f v u) Q X.xe s2) :
  aG (aE X.prog X.w) X.A (eval a X.env) (λv s₁=>aG (aE X.prog X.w) X.A (eval b X.env) (λu s₂=>aG (aE X.prog X.w) X.A (f v u) Q X.xe s₂) X.xe s₁) X.xe s:=by
 refine thn (ha pins s σ H _ I h) λv s1 ⟨x,H1,J,j,B⟩=>?_;refine thn (hb pins s1 σ H1 _ J B) λu s2 ⟨y,H2,D,i,z⟩=>?_;exact hf v u s2 x y H2 D j i z
theorem fQu{op:Operator}{r:R2}(ho:OpR X (er op) r)(ha:PE X a ta)(hb:PE X b tb):PE X (.BinOp a op b pos) (tOp r ta tb):=by
 intro pins s σ H Q I h;exact wpAny_BinOp (binT ha hb I h λv u s2 x y H2 z j i q=>ho pins s2 σ H2 x y v u Q z j i q)
theorem fQv{op:UnaryOp}{r:V->Hp->VK->Prop}(ho:UnR X (unaryOp op) r)(ha:PE X a ta):PE X (.UnaryOp op a pos) (tUn r ta):=by
 intro pins s σ H Q I h;exact UnaryOp_ (thn (ha pins s σ H _ I h) λv s1 ⟨x,H1,z,i,j⟩=>ho pins s1 σ H1 x v Q z i j)
theorem opI{f:ad->ad->Sem ad}{C:Int->Int->Prop}{g:Int->Int->Int}
  (rule:∀(i j:Int) (t u:Tok) (s:ak) (Q:ad->ak->Prop) (E:ad->ak->Prop),C i j->Q (.int (g i j) s.toks) {s with toks:=s.toks+1}->aG (aE X.prog X.w) X.A (f (.int i t) (.int j u)) Q E s) :
  OpR X f (rI C λi j=>.int (g i j)):=by
 intro pins s σ H x y v u Q I D B h;obtain⟨i,j,rfl,rfl,J,q⟩:=h;obtain⟨t,rfl⟩:=D;obtain⟨z,rfl⟩:=B;exact rule i j t z s _ _ J ⟨.int (g i j),H,I.tok _,⟨_,rfl⟩,q⟩
theorem opI0{f:ad->ad->Sem ad}{g:Int->Int->Int}
  (rule:∀(i j:Int) (t u:Tok) (s:ak) (Q:ad->ak->Prop) (E:ad->ak->Prop),Q (.int (g i j) s.toks) {s with toks:=s.toks+1}->aG (aE X.prog X.w) X.A (f (.int i t) (.int j u)) Q E s) :
  OpR X f (rI0 λi j=>.int (g i j)):=by
 intro pins s σ H x y v u Q I D B h;obtain⟨i,j,rfl,rfl,q⟩:=h;obtain⟨t,rfl⟩:=D;obtain⟨z,rfl⟩:=B;exact rule i j t z s _ _ ⟨.int (g i j),H,I.tok _,⟨_,rfl⟩,q⟩
theorem opB0{f:ad->ad->Sem ad}{g:Int->Int->Bool}
  (rule:∀(i j:Int) (t u:Tok) (s:ak) (Q:ad->ak->Prop) (E:ad->ak->Prop),Q (.bool (g i j)) s->aG (aE X.prog X.w) X.A (f (.int i t) (.int j u)) Q E s) :
  OpR X f (rI0 λi j=>.bl (g i j)):=by
 intro pins s σ H x y v u Q I D B h;obtain⟨i,j,rfl,rfl,q⟩:=h;obtain⟨t,rfl⟩:=D;obtain⟨z,rfl⟩:=B;exact rule i j t z s _ _ ⟨.bl (g i j),H,I,rfl,q⟩
def CDiv(i j:Int):Prop:=0<j/\j<1073741824
def CPow(i j:Int):Prop:=0<=j/\j<=1000000/\i.natAbs<2^64
def CMul(i j:Int):Prop:=(-(2^64)<i/\i<2^64)\/(-(2^64)<j/\j<2^64)
theorem CMul.ok{i j:Int}(h:CMul i j):IntMulOk i j:=by
 rcases h with⟨h1,h2⟩|⟨h1,h2⟩
 ·exact .of_left (intBits_le_64 h1 h2)
 ·exact .of_right (intBits_le_64 h1 h2)
theorem op_add:OpR X (er .Add) (rI0 λi j=>.int (i+j)):=opI0 λ_ _ _ _ _ _ _ q=>add_int q
theorem eX1:OpR X (er .Sub) (rI0 λi j=>.int (i-j)):=opI0 λ_ _ _ _ _ _ _ q=>sub_int q
theorem eX2:OpR X (er .Mult) (rI CMul λi j=>.int (i*j)):=opI λ_ _ _ _ _ _ _ v q=>mul_int q v.ok
theorem dXs:OpR X (er .FloorDiv) (rI CDiv λi j=>.int (i/j)):=opI λi j _ _ _ _ _ v q=>by
 have h1:(0:Int)<j:=v.1;have h2:j<1073741824:=v.2;exact floordiv_int (by omega) (by rw[Int.fdiv_eq_ediv_of_nonneg i (by omega)];exact q) (.inl (PyProof.noPylong_small (by omega)))
theorem eX3:OpR X (er .Mod) (rI (λ_ j=>0<j) λi j=>.int (i%j)):=opI λi j _ _ _ _ _ v q=>by
 have h1:(0:Int)<j:=v;exact mod_int' (by omega) (by rw[Int.fmod_eq_emod_of_nonneg i (by omega)];exact q)
theorem eX4:OpR X (er .Pow) (rI CPow λi j=>.int (i^j.toNat)):=opI λ_ _ _ _ _ _ _ v q=>pow_int_small v.1 v.2.1 v.2.2 q
theorem unI{f:ad->Sem ad}{g:Int->Int}
  (rule:∀(i:Int) (t:Tok) (s:ak) (Q:ad->ak->Prop) (E:ad->ak->Prop),Q (.int (g i) s.toks) {s with toks:=s.toks+1}->aG (aE X.prog X.w) X.A (f (.int i t)) Q E s) :
  UnR X f (rU λi=>.int (g i)):=by
 intro pins s σ H x v Q I j h;obtain⟨i,rfl,q⟩:=h;obtain⟨t,rfl⟩:=j;exact rule i t s _ _ ⟨.int (g i),H,I.tok _,⟨_,rfl⟩,q⟩
theorem eX5:UnR X (unaryOp .USub) (rU λi=>.int (-i)):=unI λ_ _ _ _ _ q=>neg_int q
end
section
variable{X:Cx}{a b c:Expr}{ta tb tc:TE}{pos:Pos}
theorem cZm{pins:List (Addr×Obj)}{σ:St}{H:Hp}{s:ak}{Q:VK}{k k':Bool}(I:Inv X pins σ H s)(q:Q (.bl k) H)(e:k=k'):EP X pins σ Q (.bool k') s:=by
 subst e;exact⟨.bl k,H,I,rfl,q⟩
theorem op_lt:OpR X (cD .Lt) (rI0 λi j=>.bl (decide (i<j))):=opB0 λ_ _ _ _ _ _ _ q=>lt_int q
theorem fQw:OpR X (cD .LtE) (rI0 λi j=>.bl (decide (i<=j))):=opB0 λ_ _ _ _ _ _ _ q=>le_int q
theorem fQx:OpR X (cD .Gt) (rI0 λi j=>.bl (decide (j<i))):=opB0 λ_ _ _ _ _ _ _ q=>gt_int q
theorem fQy:OpR X (cD .GtE) (rI0 λi j=>.bl (decide (j<=i))):=opB0 λ_ _ _ _ _ _ _ q=>ge_int q
theorem op_lt_str:OpR X (cD .Lt) (λx y H Q=>∃i j,x=.str i/\y=.str j/\Q (.bl (decide (i.cps.toList<j.cps.toList))) H):=by
 intro pins s σ H x y v u Q I B z h;obtain⟨i,j,rfl,rfl,q⟩:=h;obtain⟨t,rfl⟩:=B;obtain⟨D,rfl⟩:=z;exact lt_str (cZm I q rfl)
theorem eX6:OpR X (cD .Is) (λx y H Q=>y=.non/\Q (.bl (decide (x=.non))) H):=by
 intro pins s σ H x y v u Q I rx ry h;obtain⟨rfl,q⟩:=h;cases ry;refine is_none_gen (cZm I q ?_);cases x <;> first
  |(cases rx;rfl)
  |(obtain⟨t,rfl⟩:=rx;rfl)
theorem dXt:OpR X (cD .IsNot) (λx y H Q=>y=.non/\Q (.bl (!decide (x=.non))) H):=by
 intro pins s σ H x y v u Q I rx ry h;obtain⟨rfl,q⟩:=h;cases ry;refine isnot_none_gen (cZm I q ?_);cases x <;> first
  |(cases rx;rfl)
  |(obtain⟨t,rfl⟩:=rx;rfl)
theorem OpR.or{f:ad->ad->Sem ad}{r r':R2}(h:OpR X f r)(h':OpR X f r'):OpR X f (λx y H Q=>r x y H Q\/r' x y H Q):=by
 intro pins s σ H x y v u Q I j i q;rcases q with q|q
 ·exact h pins s σ H x y v u Q I j i q
 ·exact h' pins s σ H x y v u Q I j i q
theorem nomark(b:Expr){op:CmpOp}(h:op≠.In:=by decide)(h2:op≠.NotIn:=by decide):dZ op b=false:=by
 have j:(op==CmpOp.In)=false:=by cases op <;> first|rfl|exact absurd rfl h
 have i:(op==CmpOp.NotIn)=false:=by cases op <;> first|rfl|exact absurd rfl h2
 cases b <;> simp[dZ,j,i]
theorem dXu{op:CmpOp}{r:R2}(ho:OpR X (cD op) r)(ha:PE X a ta)(hb:PE X b tb)(hm:dZ op b=false):PE X (.Compare a [op] [b] pos) (tOp r ta tb):=by
 intro pins s σ H Q I h;exact wpAny_Compare1 (binT ha hb I h λv u s2 x y H2 z j i q=>ho pins s2 σ H2 x y v u Q z j i q) hm
def eX7(t:TE):TT:=fun σ H Q=>t σ H λx H'=>∃k,x=.bl k/\Q k H'
theorem dXv{op:CmpOp}{r:R2}(ho:OpR X (cD op) r)(ha:PE X a ta)(hb:PE X b tb)(hm:dZ op b=false):PT X (.Compare a [op] [b] pos) (eX7 (tOp r ta tb)):=by
 intro pins s σ H Q I h;refine wpAny_isTrue_Compare1 (thn (ha pins s σ H _ I h) λv s1 ⟨x,H1,O,j,J⟩=>thn (hb pins s1 σ H1 _ O J) λu s2 ⟨y,H2,N,i,D⟩ =>
  thn (ho pins s2 σ H2 x y v u _ N j i D) λc s3 ⟨z,U,L,r3,k,e,B⟩=>?_) hm
 subst e;cases r3;exact dO ⟨U,L,B⟩
def TruV(K:au)(x:V)(H:Hp)(k:Bool):Prop :=
 match x with
 |.non=>k=false
 |.bl b=>k=b
 |.int i=>k=(i !=0)
 |.str y=>y.length<=sizeLine/\k=((y.length:Int) !=0)
 |.byt y=>y.size<=sizeLine/\k=((y.size:Int) !=0)
 |.ref p=>(∃xs,SqL K H p xs/\k=!xs.isEmpty)\/(∃xs,SqT K H p xs/\k=!xs.isEmpty)\/∃kvs,H p=some (.dK kvs)/\k=!kvs.isEmpty
 |_=>False
theorem cQs{κ:Type}{kvs:List (κ×V)}{vs:List (κ×ad)}(r:KV kvs vs):(!vs.isEmpty)=!kvs.isEmpty:=by
 cases r <;> rfl
theorem aXg{xs:List V}{its:List ad}(r:Vals xs its):(!its.toArray.isEmpty)=!xs.isEmpty:=by
 cases r <;> simp
theorem aJd:(sizeLine:Nat)<2^63:=by rw[bf];decide
theorem eX8:TruR X (λx H Q=>∃k,TruV X.K x H k/\Q k H):=by
 intro pins s σ H x v Q I rx h;obtain⟨k,e,q⟩:=h;have hl:=aJd;have L:sizeLine=16777216:=bf;cases x with
 |non =>
  cases rx;have j:k=false:=e;subst j;exact truthy_none ⟨H,I,q⟩
 |bl b =>
  cases rx;have j:k=b:=e;subst j;exact dO ⟨H,I,q⟩
 |int i =>
  obtain⟨t,rfl⟩:=rx;have j:k=(i !=0):=e;subst j;exact PySem.P.truthy_int ⟨H,I,q⟩
 |str y =>
  obtain⟨t,rfl⟩:=rx;obtain⟨D,j⟩:y.length<=sizeLine/\k=((y.length:Int) !=0):=e;subst j;exact PySem.P.truthy_str (by omega) ⟨H,I.tok _,q⟩
 |byt y =>
  obtain⟨t,rfl⟩:=rx;obtain⟨D,j⟩:y.size<=sizeLine/\k=((y.size:Int) !=0):=e;subst j;exact PySem.W.truthy_bytes (by omega) ⟨H,I.tok _,q⟩
 |ref p =>
  cases rx;have j:(∃xs,SqL X.K H p xs/\k=!xs.isEmpty)\/(∃xs,SqT X.K H p xs/\k=!xs.isEmpty)\/∃kvs,H p=some (.dK kvs)/\k=!kvs.isEmpty:=e;rcases j with⟨xs,z,j⟩|⟨xs,z,j⟩|⟨kvs,z,j⟩
  ·subst j;obtain⟨its,r,pl,B⟩:=I.list z;have hlen:=r.length;exact wpAny_truthy_list pl.isList (by simp only[ar];omega) ⟨H,I.tok _,by rw[aXg r];exact q⟩
  ·subst j;obtain⟨its,r,pl,B⟩:=I.tuple z;have hlen:=r.length;exact truthy_tuple pl (by simp only[ar];omega) ⟨H,I.tok _,by rw[aXg r];exact q⟩
  ·subst j;obtain⟨B,J,vs,r,m⟩:kvs.length<=sizeLine/\(p==sysModules)=false/\∃vs,KV kvs vs/\s.heap.DictOf (aJc X.prog X.w) p vs:=I.hok p _ z;have hlen:kvs.length=vs.length:=cw r;exact wpAny_truthy_dict J m (by omega) ⟨H,I.tok _,by rw[cQs r];exact q⟩
 |_=>exact(show False from e).elim
theorem dQ5(ha:PE X a ta)(he:∀whole,isTrue a X.env whole=(do let v <- whole;fF a.pos;fb [v] (truthy v))) :
  PT X a (fun σ H Q=>ta σ H λx H'=>∃k,TruV X.K x H' k/\Q k H'):=by
 intro pins s σ H Q I h;exact isTrue_plain (thn (ha pins s σ H _ I h) λv s1 ⟨x,H1,z,i,j⟩=>eX8 pins s1 σ H1 x v Q z i j) (he _)
theorem op_add_str:OpR X (er .Add) (λx y H Q=>∃i j,x=.str i/\y=.str j/\i.length+j.length<=sizeLine/\Q (.str (i++j)) H):=by
 intro pins s σ H x y v u Q I D B h;obtain⟨i,j,rfl,rfl,J,q⟩:=h;obtain⟨t,rfl⟩:=D;obtain⟨z,rfl⟩:=B;exact add_str (λz L=>⟨.str (i++j),H,I.tok _,⟨_,rfl⟩,q⟩) J
theorem aZp{x:V}{us:List ad}(r:Vals [x] us):∃u,us=[u]/\RelV x u:=by
 cases r with
 |cons i r2=>cases r2;exact⟨_,rfl,i⟩
theorem eX9{x y:V}{us:List ad}(r:Vals [x,y] us):∃u w',us=[u,w']/\RelV x u/\RelV y w':=by
 cases r with
 |cons j r2 =>
  cases r2 with
  |cons i r4=>cases r4;exact⟨_,_,rfl,j,i⟩
theorem dQ6:CallR X (.builtin "abs") (λxs H Q=>∃i,xs=[.int i]/\Q (.int (if i<0 then -i else i)) H):=by
 intro pins s σ H xs us Q I r h;obtain⟨i,rfl,q⟩:=h;obtain⟨u,rfl,t,rfl⟩:=aZp r;exact call_abs_int λu j=>⟨.int (if i<0 then -i else i),H,I.tok _,⟨_,rfl⟩,q⟩
theorem cZn(hc:X.calm=true):CallR X (.builtin "min") (λxs H Q=>∃i j,xs=[.int i,.int j]/\Q (.int (if j<i then j else i)) H):=by
 intro pins s σ H xs us Q I r h;obtain⟨i,j,rfl,q⟩:=h;obtain⟨u,z,rfl,⟨t,rfl⟩,⟨D,rfl⟩⟩:=eX9 r;refine min_two_ints (I.ok.hd hc) λh' B k=>⟨_,H,I.kept k,?_,q⟩
 by_cases v:j<i
 ·rw[if_pos v,if_pos v];exact⟨_,rfl⟩
 ·rw[if_neg v,if_neg v];exact⟨_,rfl⟩
def LenV(K:au)(x:V)(H:Hp)(n:Nat):Prop :=
 match x with
 |.str y=>y.length<=sizeLine/\n=y.length
 |.byt y=>y.size<=sizeLine/\n=y.size
 |.ref p=>(∃xs,SqL K H p xs/\n=xs.length)\/∃xs,SqT K H p xs/\n=xs.length
 |_=>False
theorem dQ7:CallR X (.builtin "len") (λxs H Q=>∃x n,xs=[x]/\LenV X.K x H n/\Q (.int n) H):=by
 intro pins s σ H xs us Q I r h;obtain⟨x,n,rfl,e,q⟩:=h;obtain⟨u,rfl,rx⟩:=aZp r;have hl:=aJd;have D:sizeLine=16777216:=bf;cases x with
 |str y =>
  obtain⟨t,rfl⟩:=rx;obtain⟨B,i⟩:y.length<=sizeLine/\n=y.length:=e;subst i;exact len_str (by omega) ⟨.int _,H,I.tok _,⟨_,rfl⟩,q⟩
 |byt y =>
  obtain⟨t,rfl⟩:=rx;obtain⟨B,i⟩:y.size<=sizeLine/\n=y.size:=e;subst i;exact PySem.W.len_bytes (by omega) ⟨.int _,H,I.tok _,⟨_,rfl⟩,q⟩
 |ref p =>
  cases rx;have i:(∃xs,SqL X.K H p xs/\n=xs.length)\/∃xs,SqT X.K H p xs/\n=xs.length:=e;rcases i with⟨xs,v,i⟩|⟨xs,v,i⟩
  ·subst i;obtain⟨its,j,pl,z⟩:=I.list v;have hlen:=j.length;exact Calls.call_len_list pl.isList (by simp only[ar];omega) ⟨.int xs.length,H,I.tok _,⟨_,by simp only[ar];rw[hlen]⟩,q⟩
  ·subst i;obtain⟨its,j,pl,z⟩:=I.tuple v;have hlen:=j.length;exact len_tuple pl (by simp only[ar];omega) ⟨.int xs.length,H,I.tok _,⟨_,by simp only[ar];rw[hlen]⟩,q⟩
 |_=>exact(show False from e).elim
end
structure Room(k:Nat)(A:a4):Prop where
 hd:A.handled=none
 dp:A.depth+3*k+5<gW
 un:A.units+16*k+200<cB
theorem Room.mono{j k:Nat}{A:a4}(r:Room k A)(h:j<=k):Room j A:=⟨r.hd,by have:=r.dp;omega,by have:=r.un;omega⟩
theorem Room.deeper{k:Nat}{A:a4}(r:Room (k+1) A)(env:Env):Room k (A.deeper env) :=
 ⟨r.hd,by have:=r.dp;show A.depth+1+3*k+5<_;omega,by have:=r.un;show A.units+3+16*k+200<_;omega⟩
theorem Room.in1{k:Nat}{A:a4}(r:Room (k+1) A):Room k A.in1 :=
 ⟨r.hd,by have:=r.dp;show A.depth+3*k+5<_;omega,by have:=r.un;show A.units+1+16*k+200<_;omega⟩
theorem Room.depth{k:Nat}{A:a4}(r:Room k A):A.depth<gW:=by have:=r.dp;omega
theorem Room.units{k:Nat}{A:a4}(r:Room k A):A.units+64<cB:=by have:=r.un;omega
theorem Room.units0{k:Nat}{A:a4}(r:Room k A):A.units<cB:=by have:=r.un;omega
def tNil:TA:=λ_ H Q=>Q [] H
def fQz(ta:TE)(tr:TA):TA:=fun σ H Q=>ta σ H λx H1=>tr σ H1 λxs H2=>Q (x::xs) H2
section
variable{X:Cx}{e:Expr}{es:List Expr}{te:TE}{t:TA}{pos:Pos}
theorem bQ6:PA X [] tNil:=λ_ _ _ _ H Q I h=>Calls.spliced_nil ⟨[],H,I,.nil,h⟩
theorem aXh(ha:PE X e te)(hr:PA X es t)(hs:az (e::es) X.env=(false,eval e X.env)::az es X.env:=by rfl):PA X (e::es) (fQz te t):=by
 intro pos pins s σ H Q I h;rw[hs];show aG _ _ (spliced ((false,eval e X.env)::cx pos (az es X.env))) _ _ s;refine Calls.spliced_cons (thn (ha pins s σ H _ I h) λu s1 ⟨x,H1,D,j,z⟩=>?_);exact thn (hr pos pins s1 σ H1 _ D z) λus s2 ⟨xs,H2,B,i,v⟩=>⟨x::xs,H2,B,.cons j i,v⟩
def tTup(t:TA):TE:=fun σ H Q=>t σ H λxs H1=>xs.length<=sizeLine/\∀p,H1 p=none->Q (.ref p) (upd H1 p (.tup xs))
def tLst(t:TA):TE:=fun σ H Q=>t σ H λxs H1=>xs.length<=sizeLine/\∀p,H1 p=none->Q (.ref p) (upd H1 p (.lst xs))
theorem eXa{x1}(h:PA X es t):PE X (.Tuple es x1 pos) (tTup t):=by
 intro pins s σ H Q I j;refine wpAny_Tuple_spliced (thn (h pos pins s σ H _ I j) λus s1 ⟨xs,H1,i,r,z,q⟩=>⟨by rw[<- r.length];exact z,?_⟩)
 have hf:H1 s1.heap.objs.size=none:=i.hok.fresh (Nat.le_refl _);refine⟨.ref s1.heap.objs.size,upd H1 s1.heap.objs.size (.tup xs),i.laid (t':=s1.toks) (λb u e=>ae _ e) (Nat.le_refl _) ?_,rfl,q _ hf⟩;exact⟨z,us,r,⟨_,av _ rfl,rfl,_,rfl⟩,bJp⟩
theorem eXb(h:PA X es t):PE X (.List es pos) (tLst t):=by
 intro pins s σ H Q I j;refine wpAny_List_spliced (thn (h pos pins s σ H _ I j) λus s1 ⟨xs,H1,i,r,z,q⟩=>⟨by rw[<- r.length];exact z,?_⟩)
 have hf:H1 s1.heap.objs.size=none:=i.hok.fresh (Nat.le_refl _);refine⟨.ref s1.heap.objs.size,upd H1 s1.heap.objs.size (.lst xs),i.laid (t':=s1.toks) (λb u e=>ae _ e) (Nat.le_refl _) ?_,rfl,q _ hf⟩;exact⟨z,us,0,r,av _ rfl⟩
end
abbrev Sp:=List V->Hp->VK->XK->Prop
abbrev CXT:=List Env->Hp->ak->XK->ad->ak->Prop
structure Env0(P:aF)(w:aS)(K:au)(mg:Str->Option ad)(base:bd)(A:a4)(outer:List Env)(s:ak)(H:Hp):Prop where
 frames:A.frames=some outer
 gd:A.guards=some []
 mod:Mod K mg base
 bs:∀b o,base.get? b=some o->s.heap.get? b=some o/\H b=none
 bsz:base.objs.size<=s.heap.objs.size
 funs:s.heap.FunFrames base outer
 frf:∀b∈frs outer,H b=none
 hok:HOk P w H s.heap
 bare:ij s.gens
def CE(outer:List Env)(P:aF)(w:aS)(H:Hp)(s:ak)(Q:VK)(u:ad)(s':ak):Prop :=
 ∃v H',s'.os=s.os/\ij s'.gens/\Un (frs outer) [] H H' s.heap s'.heap/\HOk P w H' s'.heap/\RelV v u/\Q v H'
def CR(CX:CXT)(outer:List Env)(P:aF)(w:aS)(H:Hp)(s:ak)(Q:VK)(E:XK)(r:Result)(s':ak):Prop :=
 match r with
 |.ok (.ret u)=>CE outer P w H s Q u s'
 |.ok _=>False
 |.error e=>CX outer H s E e s'
structure FnOk(P:aF)(w:aS)(K:au)(mg:Str->Option ad)(base:bd)(CX:CXT)(k:Nat)(f:Addr)(fd:c8)(ps:List Str)(sp:Sp):Prop where
 len:∀vs H Q E,sp vs H Q E->vs.length=ps.length
 run:∀(A:a4) (outer:List Env) (s:ak) (H:Hp) (args:Args) (us:List ad) (vs:List V) (Q:VK) (E:XK),Room k A->Env0 P w K mg base A outer s H->BindsTo s fd args (ps.zip us)->Vals vs us->sp vs H Q E ->
  ew (aE P w) A (.call (.ref f) args) (CR CX outer P w H s Q E) s
theorem FnOk.mono{P:aF}{w:aS}{K:au}{mg:Str->Option ad}{base:bd}{CX:CXT}{j k:Nat}{f:Addr}{fd:c8}{ps:List Str}{sp:Sp}(F:FnOk P w K mg base CX j f fd ps sp)(h:j<=k) :
  FnOk P w K mg base CX k f fd ps sp:=⟨F.len,λA outer s H args us i Q E v=>F.run A outer s H args us i Q E (v.mono h)⟩
section
variable{X:Cx}{pins:List (Addr×Obj)}{σ:St}{H:Hp}{s s':ak}
theorem Inv.env0(I:Inv X pins σ H s):Env0 X.prog X.w X.K X.mg X.base X.A X.stack s H :=
 ⟨I.ok.frames,I.ok.gd,I.ok.mod,I.bs,Nat.le_trans I.ok.bsz I.sz,I.stack,I.stkFree,I.hok,I.bare⟩
theorem Inv.after{Q:VK}{u:ad}(I:Inv X pins σ H s)(h:CE X.stack X.prog X.w H s Q u s'):EP X pins σ Q u s':=by
 obtain⟨v,H',os,bare,un,hok,r,q⟩:=h;obtain⟨hh,g,d,t,i⟩:=s';obtain rfl:i=s.os:=os;exact⟨v,H',I.call (h':=hh) (g':=g) (d':=d) (t':=t) (ch:=[]) un hok bare (λb z=>absurd z (by simp)),r,q⟩
end
def eXc(sp:Sp)(dvs:List V)(E:XK)(t:TA):TE:=fun σ H Q=>t σ H λvs H1=>sp (vs++dvs) H1 Q E
def Binds(K:au)(fd:c8)(ps:List Str)(ds:List ad):Prop :=
 ∀(s:ak) (us:List ad),K.In s.heap->(us++ds).length=ps.length->BindsTo s fd ⟨us,[]⟩ (ps.zip (us++ds))
theorem Binds.all{K:au}{fd:c8}{ps:List Str}(h:∀us:List ad,us.length=ps.length->bindArgs fd ⟨us,[]⟩=pure (ps.zip us)):Binds K fd ps []:=λs us _ hl=>by
 rw[bB] at hl ⊢;exact .of_eq (h us hl)
def cZo(CX:CXT)(X:Cx)(E:XK):Prop:=∀(pins:List (Addr×Obj)) (σ:St) (H:Hp) (s:ak) (e:ad) (s':ak),Inv X pins σ H s->CX X.stack H s E e s'->X.xe e s'
section
variable{X:Cx}{CX:CXT}{k:Nat}{f C:Addr}{fd:c8}{ps:List Str}{sp:Sp}{dvs:List V}{ds:List ad}{E:XK}{x m:Str}{p pos apos:Pos}{e o:Expr}{es:List Expr}{ta:TE}{t:TA}
theorem eXd{pins:List (Addr×Obj)}{σ:St}{H:Hp}{s:ak}{Q:VK}{us:List ad}{vs:List V}(F:FnOk X.prog X.w X.K X.mg X.base CX k f fd ps sp)(hr:Room k X.A)(hb:Binds X.K fd ps ds)(hd:Vals dvs ds)(hx:cZo CX X E)
  (I:Inv X pins σ H s) (r:Vals vs us) (h:sp (vs++dvs) H Q E):aG (aE X.prog X.w) X.A (call (.ref f) us) (EP X pins σ Q) X.xe s:=by
 have j:Vals (vs++dvs) (us++ds):=r.append hd;have hl:(us++ds).length=ps.length:=by rw[<- j.length];exact F.len _ _ _ _ h
 refine wpAny_call (fv (F.run X.A X.stack s H ⟨us,[]⟩ (us++ds) (vs++dvs) Q E hr I.env0 (hb s us I.kIn hl) j h) λr s' i=>?_);cases r with
 |error e=>exact hx pins σ H s e s' I i
 |ok fl =>
  cases fl with
  |ret u=>exact I.after i
  |next=>exact dh i
  |brk=>exact dh i
  |cont=>exact dh i
theorem dXw(F:FnOk X.prog X.w X.K X.mg X.base CX k f fd ps sp)(hr:Room k X.A)(hg:Gl X x)(hm:X.mg x=some (.ref f))(hk:fj X.K (.ref f)=true)(hb:Binds X.K fd ps ds)(hd:Vals dvs ds)(hx:cZo CX X E)
  (ha:PA X (e::es) t) (hdb:(x==("__debug__":Str))=false:=by decide) (he:az (e::es) X.env=(false,eval e X.env)::az es X.env:=by rfl) (hpl:(cx pos (az es X.env)).any (·.1)=false:=by rfl) :
  PE X (.Call (.Name x p) (e::es) [] pos) (eXc sp dvs E t):=by
 intro pins s σ H Q I h;refine fK (ld_glob I hg hm ?_ hdb);refine PySem.W.callWith_K (h₀:=X.base) I.ok.mod.kin hk (thn (ha pos pins s σ H _ I h) λus s1 ⟨j,H1,i,r,q⟩=>⟨i.kIn,?_⟩) he hpl;exact eXd F hr hb hd hx i r q
end
structure FnScope(N P:List Str)(sc:Scope):Prop where
 kind:sc.kind=.function
 co:sc.isCoroutine=false
 gen:sc.isGenerator=false
 nd:N.Nodup
 pre:N.take P.length=P
 par:∀x∈P,sc.names.lookup x=some .local\/sc.names.lookup x=some .cell
 nofree:∀y∈sc.names,y.2≠.free
theorem bZk{kindOf:Str->Option eZ}{x:Str}:∀{binds:List (Str×ad)}{m:Str->Option ad},(∀v,(x,v)∉binds)->bindL kindOf binds m x=m x
 |[],_,_=>rfl
 |(n,v)::r,m,h=>by
  unfold bindL;rw[bZk λw hw=>h w (ay _ hw)]
  split
  ·have:x≠n:=by rintro rfl;exact h v aq
   simp[this]
  ·rfl
theorem bindC_out{kindOf:Str->Option eZ}{x:Str}:∀{binds:List (Str×ad)}{m:Str->Option ad},(∀v,(x,v)∉binds)->bindC kindOf binds m x=m x
 |[],_,_=>rfl
 |(n,v)::r,m,h=>by
  unfold bindC;rw[bindC_out λw hw=>h w (ay _ hw)]
  split
  ·rfl
  ·have:x≠n:=by rintro rfl;exact h v aq
   simp[this]
theorem bindL_get{kindOf:Str->Option eZ}{x:Str}{v:ad}:∀{P:List Str}{vs:List ad}{i:Nat}{m:Str->Option ad},P.Nodup->P[i]?=some x->vs[i]?=some v->kindOf x=some .local ->
  bindL kindOf (P.zip vs) m x=some v
 |[],_,_,_,_,h,_,_=>by simp at h
 |_::_,[],_,_,_,_,h,_=>by simp at h
 |p::P,w::vs,0,m,nd,h1,h2,j=>by
  simp at h1 h2;subst h1;subst h2;show bindL kindOf ((p,w)::P.zip vs) m p=_;unfold bindL;rw[bZk λv z=>(bZ.mp nd).1 (dA z).1,if_pos j];simp
 |p::P,w::vs,i+1,m,nd,h1,h2,j=>by
  show bindL kindOf ((p,w)::P.zip vs) m x=_;unfold bindL;exact bindL_get (i:=i) (bZ.mp nd).2 (by simpa using h1) (by simpa using h2) j
theorem bZl{kindOf:Str->Option eZ}{x:Str}{v:ad}:∀{P:List Str}{vs:List ad}{i:Nat}{m:Str->Option ad},P.Nodup->P[i]?=some x->vs[i]?=some v->kindOf x≠some .local ->
  bindC kindOf (P.zip vs) m x=some v
 |[],_,_,_,_,h,_,_=>by simp at h
 |_::_,[],_,_,_,_,h,_=>by simp at h
 |p::P,w::vs,0,m,nd,h1,h2,j=>by
  simp at h1 h2;subst h1;subst h2;show bindC kindOf ((p,w)::P.zip vs) m p=_;unfold bindC;rw[bindC_out λv z=>(bZ.mp nd).1 (dA z).1,if_neg j];simp
 |p::P,w::vs,i+1,m,nd,h1,h2,j=>by
  show bindC kindOf ((p,w)::P.zip vs) m x=_;unfold bindC;exact bZl (i:=i) (bZ.mp nd).2 (by simpa using h1) (by simpa using h2) j
def start(N:List Str)(vs:List V):St:=vs.map some++gX (N.length-vs.length) none
def cxOf(CX:CXT)(P:aF)(w:aS)(K:au)(mg:Str->Option ad)(base:bd)(N:List Str)(qual:Str)(scope:Scope)(f:Addr)(cd:ad)(A:a4)(outer:List Env)(s:ak)(H:Hp)(E:XK):Cx where
 prog:=P
 w:=w
 K:=K
 mg:=mg
 base:=base
 A:=A.deeper (gY qual scope s.heap.objs.size f cd)
 N:=N
 s₀:=s
 H₀:=H
 env:=gY qual scope s.heap.objs.size f cd
 outer:=outer
 stack:=gY qual scope s.heap.objs.size f cd::outer
 ex:=[]
 calm:=true
 fn:=λ_=>true
 pn:=[]
 xe:=λe s'=>aG (aE P w) (A.deeper (gY qual scope s.heap.objs.size f cd)) (leaving (gY qual scope s.heap.objs.size f cd) e) (λ_ s''=>CX outer H s E e s'') (λe' s''=>CX outer H s E e' s'') s'
theorem bJs{sc:Scope}{n:Nat}{x:Str}(h:sc.names.lookup x=some .cell):∃c,(eJ n sc.names []).lookup x=some c:=by
 have q:=iW sc.names n [] (.inl h);exact cF.mp q
theorem cZp{CX:CXT}{P:aF}{w:aS}{K:au}{mg:Str->Option ad}{base:bd}{N ps:List Str}{qual:Str}{scope:Scope}{f:Addr}{cd:ad}{A:a4}{outer:List Env}{s s1:ak}{H:Hp}{E:XK}{us:List ad}{vs:List V}
  (S:FnScope N ps scope) (hd:A.handled=none) (e0:Env0 P w K mg base A outer s H) (hl:vs.length=ps.length) (r:Vals vs us)
  (x:InCallC s s.heap.objs.size (bindL (gY qual scope s.heap.objs.size f cd).kindOf (ps.zip us) λ_=>none) (eJ (s.heap.objs.size+1) scope.names []) (bindC (gY qual scope s.heap.objs.size f cd).kindOf (ps.zip us) λ_=>none) s1) :
  Inv (cxOf CX P w K mg base N qual scope f cd A outer s H E) [] (start N vs) H s1:=by
 have Y:ps.length<=N.length:=by have:=congrArg fN S.pre;rw[aR] at this;omega
 obtain⟨h1,tk,rfl,O⟩:=x.done;have j:∀b:Addr,b∉(cxOf CX P w K mg base N qual scope f cd A outer s H E).ex:=λb z=>absurd (show b∈([]:List Addr) from z) (by simp)
 refine⟨⟨e0.mod,S.kind,rfl,rfl,Nat.le_refl _,λy z c h1 h2=>?_,λy B=>?_,λy c _ h=>?_,λ_=>hd,Around.frames_deeper e0.frames,e0.gd,.inr ⟨rfl,rfl⟩,λb z=>absurd z (j b),e0.bs,e0.bsz,λb _ _=>j b,λb z=>absurd z (j b),e0.funs,e0.frf⟩,
  rfl,e0.bare,Un.kept O,⟨_,x.toInCall.ns,λi y v h1 h2 h3=>?_⟩,λy c h=>⟨_,x.cell y c h⟩,e0.hok.fresh (Nat.le_refl _),λy c h=>?_,λp J=>absurd (show p∈([]:List (Addr×Obj)) from J) (by simp),e0.hok.kept O,?_⟩
 ·exact name_of_addr x.apart (dR h1) (dR h2)
 ·have B:scope.names.lookup y=some .cell\/scope.names.lookup y=some .free:=B;rcases B with B|B
  ·exact bJs B
  ·exact absurd rfl (S.nofree _ (dR B))
 ·exact Nat.le_of_lt (x.above y c (dR h))
 ·have hi:i<vs.length:=by
   unfold start at h2
   by_cases hi:i<vs.length
   ·exact hi
   ·rw[bU (by simpa using hi)] at h2
    rw[List.getElem?_replicate] at h2
    split at h2 <;> cases h2
  have Z:vs[i]?=some v:=by
   unfold start at h2;rw[dG (by simpa using hi),aJ] at h2
   cases e:vs[i]? with
   |none=>rw[e] at h2;cases h2
   |some a=>rw[e] at h2;cases h2;rfl
  obtain⟨u,L,U⟩:=r.get Z;have J:ps[i]?=some y:=by
   rw[<- S.pre,fB (by omega)];exact h1
  have D:ps.Nodup:=by rw[<- S.pre];exact S.nd.sublist (dj _ _)
  refine⟨u,U,?_⟩;rcases S.par y (ao J) with k|k
  ·exact .inl ⟨k,bindL_get D J L k⟩
  ·obtain⟨c,e⟩:=bJs (n:=s.heap.objs.size+1) k;refine .inr ⟨.inl k,c,e,?_⟩;have q:=x.cell y c e;rw[bZl D J L (by show scope.names.lookup y≠_;rw[k];decide)] at q
   exact q
 ·exact e0.hok.fresh (Nat.le_of_lt (x.above y c (dR h)))
 ·unfold start;show _=N.length;rw[aA,am,List.length_replicate];omega
theorem eXe{CX:CXT}{P:aF}{w:aS}{K:au}{mg:Str->Option ad}{base:bd}{k:Nat}{f:Addr}{name qual:Str}{params:Arguments}{body:List Stmt}{scope:Scope}{dV kV doc pm cdv ct oc:ad}{an od:Option Addr}
  {osl:Array (Option ad)}{N ps:List Str}{sp:Sp}(lk:K.lookup f=some ⟨oc,od,.func (eA name qual params body scope dV kV doc pm an cdv ct),osl⟩) (hcd:fW K cdv qual=true) (S:FnScope N ps scope)
  (len:∀vs H Q E,sp vs H Q E->vs.length=ps.length)
  (hbody:∀ (A:a4) (outer:List Env) (s:ak) (H:Hp) (vs:List V) (Q:VK) (E:XK),Room k (A.deeper (gY qual scope s.heap.objs.size f cdv))->sp vs H Q E ->
   ∃t,PSs (cxOf CX P w K mg base N qual scope f cdv A outer s H E) body t/\t {nx:=λ_ H'=>Q .non H',rt:=Q} (start N vs) H) :
  FnOk P w K mg base CX (k+1) f (eA name qual params body scope dV kV doc pm an cdv ct) ps sp:=by
 refine⟨len,λA outer s H args us vs Q E L B hb r z=>?_⟩;have hl:=len _ _ _ _ z;have O:K.In s.heap:=B.mod.kin.keeps λb o e=>(B.bs b o e).1;have lim:s.heap.NoLimit:=B.mod.nolimit.keeps λb o e=>(B.bs b o e).1;have i:∀y∈ps.zip us,scope.names.lookup y.1=some .local\/(scope.names.lookup y.1=some .cell/\((eJ (s.heap.objs.size+1) scope.names []).lookup y.1).isSome=true):=λ⟨n,v⟩ U=>by
  rcases S.par n (dA U).1 with q|q
  ·exact .inl q
  ·exact .inr ⟨q,iW _ _ _ (.inl q)⟩
 refine codeAny_call_function L.depth (O _ _ lk) rfl S.co S.gen rfl (PySem.W.codeRec_of O hcd) (hb _ _ _ _ ?_);refine wpAny_newFunctionEnv_cells S.kind i λenv he s1 x=>?_;subst he;refine⟨lim.keeps x.toInCall.keep,codeAny_func ?_⟩;obtain⟨t,Y,Z⟩:=hbody A outer s H vs Q E (L.deeper _) z;have I:Inv (cxOf CX P w K mg base N qual scope f cdv A outer s H E) [] (start N vs) H s1:=cZp S L.hd B hl r x;refine cT (Y [] s1 (start N vs) H _ I Z) (λfl s' j=>?_) λe s' j=>j;have fin:∀{σ':St}{H':Hp}{v:V}{u:ad},Inv (cxOf CX P w K mg base N qual scope f cdv A outer s H E) [] σ' H' s'->RelV v u->Q v H'->CE outer P w H s Q u s' :=
  λ{σ' H' v u} J D q=>⟨v,H',J.os,J.bare,J.base,J.hok,D,q⟩
 cases fl with
 |ret u =>
  obtain⟨v,σ',H',J,D,q⟩:=j;exact fin J D q
 |next =>
  obtain⟨σ',H',J,q⟩:=j;exact fin (v:=V.non) (u:=cK) J rfl q
 |brk =>
  obtain⟨_,_,_,q⟩:=j;exact dh q
 |cont =>
  obtain⟨_,_,_,q⟩:=j;exact dh q
section
variable{X:Cx}{x:Str}{p pos:Pos}{e:Expr}{es:List Expr}{t:TA}{id T:String}{r:List V->Hp->VK->Prop}
def tCB(r:List V->Hp->VK->Prop)(t:TA):TE:=fun σ H Q=>t σ H λvs H1=>r vs H1 Q
theorem bQl(hc:CallR X (.builtin id) r)(hg:Gl X x)(hm:X.mg x=none)(hv:cj x=some (.builtin id))(ha:PA X (e::es) t)(hn:x ≠ "__name__":=by decide)(hdb:(x==("__debug__":Str))=false:=by decide)
  (he:az (e::es) X.env=(false,eval e X.env)::az es X.env:=by rfl) (hpl:(cx pos (az es X.env)).any (·.1)=false:=by rfl):PE X (.Call (.Name x p) (e::es) [] pos) (tCB r t):=by
 intro pins s σ H Q I h;refine fK (ld_blt I hg hm hv ?_ hn hdb);exact PyProof.Rows.callWith_builtin1 (thn (ha pos pins s σ H _ I h) λus s1 ⟨i,H1,z,j,v⟩=>hc pins s1 σ H1 i us Q z j v) he hpl
theorem aX6(hc:CallR X (.type T) r)(hg:Gl X x)(hm:X.mg x=none)(hv:cj x=some (.type T))(ha:PA X (e::es) t)(hn:x ≠ "__name__":=by decide)(hdb:(x==("__debug__":Str))=false:=by decide)
  (he:az (e::es) X.env=(false,eval e X.env)::az es X.env:=by rfl) (hpl:(cx pos (az es X.env)).any (·.1)=false:=by rfl):PE X (.Call (.Name x p) (e::es) [] pos) (tCB r t):=by
 intro pins s σ H Q I h;refine fK (ld_blt I hg hm hv ?_ hn hdb);exact fc (thn (ha pos pins s σ H _ I h) λus s1 ⟨i,H1,z,j,v⟩=>hc pins s1 σ H1 i us Q z j v) he hpl
end
end L2
namespace HT
open PySem PyProof.Rows
section
variable{prog:aF}{w:aS}{A:a4}{E:ad->ak->Prop}{s:ak}
theorem cat_tup{t b:Addr}{vs ws:List ad}{Q:ad->ak->Prop}(ht:iA s.heap t vs.toArray)(hb:iA s.heap b ws.toArray)(hv:vs≠[])
  (h1:ws=[]->Q (.ref t) s) (h2:ws≠[]->Q (.ref s.heap.objs.size) {s with heap:=s.heap.push {cls:=.type "tuple",data:=.seq (vs++ws).toArray}})
  (hsz:vs.length+ws.length<=sizeLine):aG (aE prog w) A (er .Add (.ref t) (.ref b)) Q E s:=by
 obtain⟨⟨cls,dd,data,sl⟩,B,J,n,hd⟩:=id ht;obtain⟨⟨L,z,data2,j⟩,i,v,D,hd2⟩:=id hb;simp only at J hd v hd2;subst J hd v hd2;have e:vs.toArray++ws.toArray=(vs++ws).toArray:=by simp
 by_cases hw:ws=[]
 ·exact iX ⟨_,B,rfl⟩ ⟨_,i,rfl⟩ iC seq_tuple_add fX fO (fC _ _)
   (tuple_addW1 t b vs.toArray ws.toArray n D dd z sl j (by simpa using hv) (by simp[hw])) ⟨B,i,h1 hw⟩
 ·refine iX ⟨_,B,rfl⟩ ⟨_,i,rfl⟩ iC seq_tuple_add fX fO (fC _ _)
   (tuple_addW2 t b vs.toArray ws.toArray n D dd z sl j (by simpa using hv) (by simpa using hw) (by rw[ar,ar];exact hsz)) ⟨B,i,?_⟩
  rw[e];exact h2 hw
def sIx(n d:Nat):Option Int->Nat
 |none=>d
 |some v=>if v<0 then (v+(n:Int)).toNat else min v.toNat n
theorem sIx_nat(n d k:Nat):sIx n d (some (k:Int))=min k n:=by
 show(if (k:Int)<0 then ((k:Int)+(n:Int)).toNat else min (k:Int).toNat n)=min k n
 rw[if_neg (by omega),b8]
theorem sIx_le(n d:Nat)(hd:d<=n)(o:Option Int):sIx n d o<=n:=by
 cases o with
 |none=>exact hd
 |some v =>
  show(if v<0 then (v+(n:Int)).toNat else min v.toNat n)<=n
  by_cases i:v<0
  ·rw[if_pos i];omega
  ·rw[if_neg i];exact Nat.min_le_right _ _
theorem cZq(v:Int)(n d:Nat):(if v<0 then max (v+(n:Int)) 0 else min v (n:Int))=((sIx n d (some v):Nat):Int):=by
 show(if v<0 then max (v+(n:Int)) 0 else min v (n:Int))=(((if v<0 then (v+(n:Int)).toNat else min v.toNat n):Nat):Int)
 by_cases i:v<0
 ·simp only[if_pos i];omega
 ·simp only[if_neg i];omega
theorem cQt(lo hi:Option Int)(n:Nat):fA lo hi 1 (n:Int)=(((sIx n 0 lo:Nat):Int),((sIx n n hi:Nat):Int)):=by
 have h1:¬ ((1:Int)<0):=by omega
 unfold fA;simp only[h1,if_false];refine Prod.ext ?_ ?_
 ·cases lo with
  |none=>rfl
  |some v=>exact cZq v n 0
 ·cases hi with
  |none=>rfl
  |some v=>exact cZq v n n
theorem cQu(i j:Nat):d8 (i:Int) (j:Int) 1=j-i:=by
 unfold d8;have h1:(1:Int)>0:=by omega
 simp only[h1,if_true,Int.ediv_one]
 split <;> omega
theorem bQ7{v:ad}{o:Option Int}{Q:Option Int->ak->Prop}(p:IsPart v o)(h:Q o s):aG (aE prog w) A (cR.Slice.slicePartIndex v) Q E s:=by
 cases p with
 |none=>exact slicePart_none h
 |int i t=>exact slicePart_int h
theorem sliceApplied_gen{sl:Addr}{vl vu:ad}{lo hi:Option Int}{n:Nat}{Q:Int×Int×Nat->ak->Prop}(hs:s.heap.IsSliceOf sl vl vu .none)(pl:IsPart vl lo)(pu:IsPart vu hi)
  (h:Q (((sIx n 0 lo:Nat):Int),1,sIx n n hi-sIx n 0 lo) s):aG (aE prog w) A (fk (.ref sl) (pure (n:Int))) Q E s:=by
 obtain⟨os,i,v,j⟩:=id hs;unfold fk cR.Slice.sliceFields;refine aa (aa (wpAny_field i j (x:=vl) rfl (aa (wpAny_field i j (x:=vu) rfl (aa (wpAny_field i j (x:=.none) rfl (af ?_)))))));refine aa (slicePart_none ?_);show aG _ _ (if ((1:Int)==0)=true then _ else _) _ _ s
 rw[if_neg (by decide)]
 refine aa (bQ7 pl (aa (bQ7 pu (aa (af ?_)))));show aG _ _ (match fA lo hi 1 (n:Int) with|(lo,hi)=>pure (lo,(1:Int),d8 lo hi 1)) _ _ s
 rw[cQt lo hi n];show aG _ _ (pure (((sIx n 0 lo:Nat):Int),(1:Int),d8 ((sIx n 0 lo:Nat):Int) ((sIx n n hi:Nat):Int) 1)) _ _ s;rw[cQu];exact af h
theorem dQ8(xs:Array ad)(i k:Nat):((a7 k).filterMap λ(m:Nat)=>xs[((i:Int)+(m:Int)*1).toNat]?).toArray=((xs.toList.drop i).take k).toArray:=by
 have e:(λ(m:Nat)=>xs[((i:Int)+(m:Int)*1).toNat]?)=λm=>xs[i+m]?:=by
  funext m
  have:((i:Int)+(m:Int)*1).toNat=i+m:=by omega
  rw[this]
 rw[e]
 have:=pick_run xs i k
 rw[List.filterMap_map] at this;have j:((λx=>xs[x]?)∘λx=>i+x)=λm=>xs[i+m]?:=rfl;rw[j] at this;rw[this]
theorem getItem_tuple_cut{t sl:Addr}{items:Array ad}{vl vu:ad}{lo hi:Option Int}{Q:ad->ak->Prop}(ht:iA s.heap t items)(hs:s.heap.IsSliceOf sl vl vu .none)(pl:IsPart vl lo)(pu:IsPart vu hi)
  (hw:¬ (sIx items.size 0 lo=0/\sIx items.size items.size hi=items.size))
  (h:Q (.ref s.heap.objs.size) {s with heap:=s.heap.push {cls:=.type "tuple",data:=.seq ((items.toList.drop (sIx items.size 0 lo)).take (sIx items.size items.size hi-sIx items.size 0 lo)).toArray}})
  (hsz:items.size<=sizeLine):aG (aE prog w) A (iY (.ref t) (.ref sl)) Q E s:=by
 have i:sizeOk (.seq ((items.toList.drop (sIx items.size 0 lo)).take (sIx items.size items.size hi-sIx items.size 0 lo)).toArray):=by
  show((items.toList.drop (sIx items.size 0 lo)).take (sIx items.size items.size hi-sIx items.size 0 lo)).toArray.size<=sizeLine;rw[ar,aR,bo,aM];omega
 have N:sIx items.size items.size hi<=items.size:=sIx_le _ _ (Nat.le_refl _) hi;obtain⟨os,j,z,D⟩:=id hs;have B:s.TypeIs (.ref sl) "slice":=⟨os,j,z⟩;unfold iY
 try with_reducible refine bn ?_
 first|refine aa (af ?_)|skip
 refine aa (wpAny_sequenceKey ht.typeIs (by decide) ?_)
 refine aa (fP (name:=Str.ofString "__getitem__") ht.typeIs ci
  (d0 ci ht.typeIs entry_tuple_getitem ?_ (args_tuple_getitem _ _)))
 show aG _ _ (gZ (.ref t)>>=_) _ _ s;refine aa (tupleItemsOf_ ht ?_);refine aa (fY B ?_);rw[if_pos (by decide)]
 refine aa (sliceApplied_gen hs pl pu ?_);have v:¬ ((((sIx items.size 0 lo:Nat):Int)==0&&(1:Int)==1&&(sIx items.size items.size hi-sIx items.size 0 lo)==items.size)=true):=by
  intro q;rw[a6,a6] at q;have L:((sIx items.size 0 lo:Nat):Int)=0:=fQ q.1.1;have J:sIx items.size items.size hi-sIx items.size 0 lo=items.size:=fQ q.2;exact hw ⟨by omega,by omega⟩
 show aG _ _ (if (((sIx items.size 0 lo:Nat):Int)==0&&(1:Int)==1&&(sIx items.size items.size hi-sIx items.size 0 lo)==items.size)=true then _ else _) _ _ s
 rw[if_neg v,dQ8]
 first
  |exact aa (m:=cf _) (bu (af ⟨_,rfl,af h⟩) i)
  |exact aa (m:=cf _) (bu (aa (af (af ⟨_,rfl,af h⟩))) i)
  |exact aa (aa (m:=cf _) (bu (af (af ⟨_,rfl,af h⟩)) i))
  |exact aa (aa (m:=cf _) (bu (af ⟨_,rfl,af h⟩) i))
end
end HT
namespace L2
open PySem PySem.Spec PyProof.Rows
abbrev TO:=St->Hp->(Option Int->Hp->Prop)->Prop
def PO(X:Cx)(e:Option Expr)(t:TO):Prop :=
 ∀(pins:List (Addr×Obj)) (s:ak) (σ:St) (H:Hp) (Q:Option Int->Hp->Prop),Inv X pins σ H s->t σ H Q ->
  aG (aE X.prog X.w) X.A (evalPart e X.env) (λu s'=>∃o H',Inv X pins σ H' s'/\IsPart u o/\Q o H') X.xe s
def dXx:TO:=λ_ H Q=>Q none H
def fZ0(t:TE):TO:=fun σ H Q=>t σ H λx H1=>∃i,x=.int i/\Q (some i) H1
theorem cQv{ns:List Int}:∀{us:List ad},Vals (ns.map V.int) us->gL us ns:=by
 induction ns with
 |nil=>intro us r;rw[fw] at r;cases r;exact .nil
 |cons n ns v =>
  intro us r;rw[bC] at r;cases r with
  |cons j i =>
   obtain⟨t,e⟩:=j;subst e;exact .cons n t (v i)
section
variable{X:Cx}{e:Expr}{te:TE}{lo hi:Option Expr}{tl th:TO}{pos p2:Pos}
theorem dXy:PO X none dXx:=by
 intro pins s σ H Q I h;rw[evalPart_none];exact af ⟨none,H,I,.none,h⟩
theorem dXz(h:PE X e te):PO X (some e) (fZ0 te):=by
 intro pins s σ H Q I hw;rw[evalPart_some];refine thn (h pins s σ H _ I hw) λu s1 ⟨x,H1,z,j,v⟩=>?_;obtain⟨i,rfl,q⟩:=v;obtain⟨t,rfl⟩:=j;exact⟨some i,H1,z,.int i t,q⟩
def SlR(X:Cx)(r:V->Option Int->Option Int->Hp->VK->Prop):Prop :=
 ∀(pins:List (Addr×Obj)) (s:ak) (σ:St) (H:Hp) (x:V) (v vl vu:ad) (lo hi:Option Int) (sl:Addr) (Q:VK),Inv X pins σ H s->RelV x v->s.heap.IsSliceOf sl vl vu .none->IsPart vl lo->IsPart vu hi->r x lo hi H Q ->
  ∃T id,typeLookup (.type T) "__getitem__"=pure (some (.builtin id))/\s.TypeIs v T/\aG (aE X.prog X.w) X.A (iY v (.ref sl)) (EP X pins σ Q) X.xe s
theorem SlR.or{r r':V->Option Int->Option Int->Hp->VK->Prop}(h:SlR X r)(h':SlR X r'):SlR X (λx lo hi H Q=>r x lo hi H Q\/r' x lo hi H Q):=by
 intro pins s σ H x v j i lo hi sl Q I z B pl pu q;rcases q with q|q
 ·exact h pins s σ H x v j i lo hi sl Q I z B pl pu q
 ·exact h' pins s σ H x v j i lo hi sl Q I z B pl pu q
def tSl(r:V->Option Int->Option Int->Hp->VK->Prop)(te:TE)(tl th:TO):TE:=fun σ H Q=>te σ H λx H1=>tl σ H1 λl H2=>th σ H2 λu H3=>r x l u H3 Q
theorem dQ9{r:V->Option Int->Option Int->Hp->VK->Prop}(hr:SlR X r)(he:PE X e te)(hl:PO X lo tl)(hu:PO X hi th):PE X (.Subscript e (.Slice lo hi none p2) pos) (tSl r te tl th):=by
 intro pins s σ H Q I h;refine Subscript_ (thn (he pins s σ H _ I h) λv s1 ⟨x,H1,I1,B,L⟩=>?_);refine wpAny_Slice (thn (hl pins s1 σ H1 _ I1 L) λj s2 ⟨l,H2,I2,pl,J⟩=>thn (hu pins s2 σ H2 _ I2 J) λi s3 ⟨u,z,Z,pu,D⟩=>?_);rw[evalPart_none];refine af ?_;have Y:Inv X pins σ z {s3 with heap:=s3.heap.push {cls:=.type "slice",data:=.fields #[j,i,.none]}}:=Z.kept (t':=s3.toks) λb ob q=>ae _ q
 obtain⟨T,id,U,N,O⟩:=hr pins {s3 with heap:=s3.heap.push {cls:=.type "slice",data:=.fields #[j,i,.none]}} σ z x v j i l u s3.heap.objs.size Q Y B (bd.IsSliceOf.new ..) pl pu D;show aG (aE X.prog X.w) X.A (subscriptTail e (.Slice lo hi none p2) v (.ref s3.heap.objs.size)) (EP X pins σ Q) X.xe {s3 with heap:=s3.heap.push {cls:=.type "slice",data:=.fields #[j,i,.none]}}
 exact tail_any (ops:=[.ref s3.heap.objs.size,v]) N U O (by with_unfolding_all rfl)
def cutV(xs:List V)(lo hi:Option Int):List V:=(xs.drop (HT.sIx xs.length 0 lo)).take (HT.sIx xs.length xs.length hi-HT.sIx xs.length 0 lo)
theorem aJe(xs:List V)(lo hi:Option Int):(cutV xs lo hi).length<=xs.length:=by
 unfold cutV;rw[aR,bo];omega
def rSlT(K:au):V->Option Int->Option Int->Hp->VK->Prop:=λx lo hi H Q=>∃a xs,x=.ref a/\SqT K H a xs /\
 ¬ (HT.sIx xs.length 0 lo=0/\HT.sIx xs.length xs.length hi=xs.length)/\∀p,H p=none->Q (.ref p) (upd H p (.tup (cutV xs lo hi)))
theorem eXf:SlR X (rSlT X.K):=by
 intro pins s σ H x v J D lo hi sl Q I rx B pl pu h;obtain⟨a,xs,rfl,z,hw,q⟩:=h;cases rx;obtain⟨its,r,j,i⟩:=I.tuple z;have hlen:its.toArray.size=xs.length:=by rw[ar];exact r.length.symm
 refine⟨"tuple",_,ci.lookup,j.typeIs,?_⟩;refine HT.getItem_tuple_cut j B pl pu (by rw[hlen];exact hw) ?_ (by rw[hlen];exact i)
 rw[hlen];refine⟨.ref s.heap.objs.size,_,I.laid (t':=s.toks) (o:=.tup (cutV xs lo hi)) (λb L q=>ae _ q) (Nat.le_refl _) ?_,rfl,q _ (I.hok.fresh (Nat.le_refl _))⟩;exact⟨Nat.le_trans (aJe xs lo hi) i,_,(r.drop (HT.sIx xs.length 0 lo)).take (HT.sIx xs.length xs.length hi-HT.sIx xs.length 0 lo),iA.new _ _,bJp⟩
def dJ0(K:au):R2:=λx y H Q=>∃a b xs ys,x=.ref a/\y=.ref b/\SqT K H a xs/\SqT K H b ys/\xs≠[]/\xs.length+ys.length<=sizeLine /\
 (ys=[]->Q (.ref a) H)/\(ys≠[]->∀p,H p=none->Q (.ref p) (upd H p (.tup (xs++ys))))
theorem Vals.nil_iff{xs:List V}{us:List ad}(r:Vals xs us):us=[]↔xs=[]:=by
 cases r with
 |nil=>simp
 |cons _ _=>simp
theorem dJ1:OpR X (er .Add) (dJ0 X.K):=by
 intro pins s σ H x y v u Q I rx ry h;obtain⟨a,b,xs,ys,rfl,rfl,Y,U,O,D,L,J⟩:=h;cases rx;cases ry;obtain⟨its,j,N,_⟩:=I.tuple Y;obtain⟨B,i,p2,_⟩:=I.tuple U;refine HT.cat_tup N p2 (λz=>O (j.nil_iff.mp z)) (λz=>⟨.ref a,H,I,rfl,L (i.nil_iff.mp z)⟩) (λz=>?_) (by rw[<- j.length,<- i.length];exact D)
 refine⟨.ref s.heap.objs.size,_,I.laid (t':=s.toks) (o:=.tup (xs++ys)) (λb Z q=>ae _ q) (Nat.le_refl _) ?_,rfl,J (λw=>z (i.nil_iff.mpr w)) _ (I.hok.fresh (Nat.le_refl _))⟩;exact⟨by rw[aA];exact D,_,j.append i,iA.new _ _,bJp⟩
end
def ixN(n:Nat)(i:Int):Option Nat:=if 0<=i then (if i<n then some i.toNat else none) else if -(n:Int)<=i then some (i+n).toNat else none
def atI{α:Type}(xs:List α)(i:Int):Option α:=(ixN xs.length i).bind λj=>xs[j]?
theorem bXh{n:Nat}{i:Int}{j:Nat}(h:ixN n i=some j):seqIndex? i n=some j/\j<n/\-(n:Int)<=i/\i<n:=by
 unfold ixN at h
 by_cases h0:0<=i
 ·rw[if_pos h0] at h
  by_cases h1:i<n
  ·rw[if_pos h1] at h;have e:i.toNat=j:=aQ h;exact⟨by rw[seqIndex_of h0 h1,e],by omega,by omega,h1⟩
  ·rw[if_neg h1] at h;cases h
 ·rw[if_neg h0] at h
  by_cases h1:-(n:Int)<=i
  ·rw[if_pos h1] at h;have e:(i+n).toNat=j:=aQ h;exact⟨by rw[seqIndex_neg (by omega) h1,e],by omega,h1,by omega⟩
  ·rw[if_neg h1] at h;cases h
theorem bXi{α:Type}{xs:List α}{i:Int}{v:α}(h:atI xs i=some v):∃j,seqIndex? i xs.length=some j/\xs[j]?=some v/\j<xs.length/\-(xs.length:Int)<=i/\i<xs.length:=by
 unfold atI at h;cases e:ixN xs.length i with
 |none=>rw[e] at h;cases h
 |some j =>
  rw[e] at h;obtain⟨h1,h2,B,z⟩:=bXh e;exact⟨j,h1,h,h2,B,z⟩
theorem aZi{α:Type}{xs:List α}{j:Nat}{v:α}(h:xs[j]?=some v):atI xs (j:Int)=some v:=by
 have i:j<xs.length:=(aC.mp h).1;have e:ixN xs.length (j:Int)=some j:=by
  unfold ixN;rw[if_pos (by omega),if_pos (by omega)];simp
 unfold atI;rw[e];exact h
def PlainIx(b:Expr):Prop:=∀o i,subscripted b false o i=operate [o,i] (iY o i)
def IxR(X:Cx)(r:R2):Prop :=
 ∀(value slice:Expr) (pins:List (Addr×Obj)) (s:ak) (σ:St) (H:Hp) (x y:V) (v u:ad) (Q:VK),Inv X pins σ H s->RelV x v->RelV y u->r x y H Q ->
  subscripted slice false v u=operate [v,u] (iY v u)->aG (aE X.prog X.w) X.A (subscriptTail value slice v u) (EP X pins σ Q) X.xe s
def MtR(X:Cx)(id:String)(r:V->List V->Hp->VK->Prop):Prop :=
 ∀(pins:List (Addr×Obj)) (s:ak) (σ:St) (H:Hp) (x:V) (xs:List V) (v:ad) (us:List ad) (Q:VK),Inv X pins σ H s->RelV x v->Vals xs us->r x xs H Q ->
  aG (aE X.prog X.w) X.A (call (.builtin id) (v::us)) (EP X pins σ Q) X.xe s
section
variable{X:Cx}{a b:Expr}{ta tb:TE}{pos:Pos}
theorem IxR.or{r r':R2}(h:IxR X r)(h':IxR X r'):IxR X (λx y H Q=>r x y H Q\/r' x y H Q):=by
 intro value slice pins s σ H x y v u Q I j i q z;rcases q with q|q
 ·exact h value slice pins s σ H x y v u Q I j i q z
 ·exact h' value slice pins s σ H x y v u Q I j i q z
theorem pe_ix{r:R2}(hr:IxR X r)(ha:PE X a ta)(hb:PE X b tb)(hs:PlainIx b):PE X (.Subscript a b pos) (tOp r ta tb):=by
 intro pins s σ H Q I h;exact Subscript_ (binT ha hb I h λv u s2 x y H2 z j i q=>hr a b pins s2 σ H2 x y v u Q z j i q (hs _ _))
def rIxL(K:au):R2:=λx y H Q=>∃p xs i v,x=.ref p/\y=.int i/\SqL K H p xs/\atI xs i=some v/\Q v H
def rIxT(K:au):R2:=λx y H Q=>∃p xs i v,x=.ref p/\y=.int i/\SqT K H p xs/\atI xs i=some v/\Q v H
def rIxS:R2:=λx y H Q=>∃z i c,x=.str z/\y=.int i/\z.length<=sizeLine/\atI z.cps.toList i=some c/\Q (.str ⟨#[c]⟩) H
theorem ix_list:IxR X (rIxL X.K):=by
 intro value slice pins s σ H x y v u Q I rx N h J;obtain⟨p,xs,i,z,rfl,rfl,O,he,q⟩:=h;cases rx;obtain⟨t,rfl⟩:=N;obtain⟨its,r,pl,Z⟩:=I.list O;obtain⟨j,h1,h2,h3,Y,U⟩:=bXi he;obtain⟨w,L,B⟩:=r.get h2;have hl:=r.length;have hn:=aJd;have fin:EP X pins σ Q w s:=⟨z,H,I,B,q⟩
 by_cases h0:0<=i
 ·have D:i.toNat=j:=by
   rw[seqIndex_of h0 U] at h1;exact aQ h1
  exact item_listR pl.isList h0 (by omega) (by rw[D];simpa using L) fin J
 ·have D:(i+(its.toArray.size:Int)).toNat=j:=by
   rw[seqIndex_neg (by omega) Y] at h1
   rw[ar,<- hl];exact aQ h1
  exact subscriptTail_builtinR (x:=w) pl.isList.typeIs slot_list_getitem.lookup
   (wpAny_getItem_list_neg (Q:=λr s'=>r=w/\EP X pins σ Q r s') pl.isList (by omega) (by rw[ar] <;> omega) (by omega) (by rw[D];simpa using L) ⟨rfl,fin⟩) J
theorem ix_tup:IxR X (rIxT X.K):=by
 intro value slice pins s σ H x y v u Q I rx D h J;obtain⟨p,xs,i,z,rfl,rfl,L,he,q⟩:=h;cases rx;obtain⟨t,rfl⟩:=D;obtain⟨its,r,pl,O⟩:=I.tuple L;obtain⟨j,h1,h2,h3,Z,Y⟩:=bXi he;obtain⟨w,N,B⟩:=r.get h2;have hl:=r.length;have U:=aJd;have fin:EP X pins σ Q w s:=⟨z,H,I,B,q⟩;exact subscriptTail_builtinR (x:=w) pl.typeIs slot_tuple_getitem.lookup
  (getItem_tuple (j:=j) (Q:=λr s'=>r=w/\EP X pins σ Q r s') pl (by omega) (by omega) (by rw[ar,<- hl];exact h1) (by simpa using N) ⟨rfl,fin⟩) J
theorem eXg:IxR X rIxS:=by
 intro value slice pins s σ H x y v u Q I D B h J;obtain⟨z,i,c,rfl,rfl,Z,he,q⟩:=h;obtain⟨t,rfl⟩:=D;obtain⟨Y,rfl⟩:=B;obtain⟨j,h1,h2,h3,N,L⟩:=bXi he;have hl:z.cps.toList.length=z.length:=by simp[Str.length]
 rw[hl] at h1 N L;have hn:=aJd;exact tail_any (typeIs_str s z t) slot_str_getitem.lookup (getItem_str (c:=c) (by
  have U:decide (i < -(2^63:Int))=false:=decide_eq_false (by omega)
  have O:decide (i>=2^63)=false:=decide_eq_false (by omega)
  rw[U,O,Bool.or_false]) (by rw[h1];simpa using h2) ⟨.str ⟨#[c]⟩,H,I.tok _,⟨_,rfl⟩,q⟩) J
def rIx(K:au):R2:=λx y H Q=>rIxL K x y H Q\/rIxT K x y H Q\/rIxS x y H Q
theorem eXh:IxR X (rIx X.K):=ix_list.or (ix_tup.or eXg)
theorem cQw(its:List ad)(n j:Nat)(u:ad):bK (·.setIfInBounds j u) {cls:=.type "list",data:=.seq its.toArray n}={cls:=.type "list",data:=.seq (its.set j u).toArray n}:=by
 simp[bK]
theorem Inv.lst{pins:List (Addr×Obj)}{σ:St}{H:Hp}{s:ak}{p:Addr}{xs:List V}(I:Inv X pins σ H s)(h:H p=some (.lst xs)) :
  ∃(its:List ad) (n:Nat),Vals xs its/\s.heap.get? p=some {cls:=.type "list",data:=.seq its.toArray n}/\xs.length<=sizeLine:=by
 obtain⟨z,its,n,r,e⟩:=I.hok p _ h;exact⟨its,n,r,e,z⟩
theorem Inv.lstUpd{pins:List (Addr×Obj)}{σ:St}{H:Hp}{s:ak}{p:Addr}{xs ys:List V}{its its':List ad}{n n':Nat}{f:Obj->Obj}(I:Inv X pins σ H s)(h:H p=some (.lst xs))
  (ho:s.heap.get? p=some {cls:=.type "list",data:=.seq its.toArray n}) (hf:f {cls:=.type "list",data:=.seq its.toArray n}={cls:=.type "list",data:=.seq its'.toArray n'}) (r:Vals ys its') (hz:ys.length<=sizeLine) (t:Nat) :
  Inv X pins σ (upd H p (.lst ys)) {s with heap:=s.heap.update p f,toks:=t}:=by
 have e:(s.heap.update p f).get? p=some {cls:=.type "list",data:=.seq its'.toArray n'}:=by
  rw[cI f ho (by rw[hf] <;> rfl),hf]
 refine I.write (x:=p) (e:=p) (by rw[h];trivial) (.inl rfl) (λb u i q=>(bg _ _ (cz i)).trans q) ⟨_,e⟩ ?_
 exact⟨hz,its',n',r,e⟩
def fZ1:V->V->V->Hp->(Hp->Prop)->Prop:=λo i v H Q=>∃p xs k j,o=.ref p/\i=.int k/\H p=some (.lst xs)/\ixN xs.length k=some j/\Q (upd H p (.lst (xs.set j v)))
theorem dQa:PSet X fZ1:=by
 intro pins s σ H o i v ov iv u Q I ro U O h;obtain⟨p,xs,k,j,rfl,rfl,D,Z,q⟩:=h;cases ro;obtain⟨t,rfl⟩:=U;obtain⟨its,n,r,z,Y⟩:=I.lst D;obtain⟨h1,h2,L,J⟩:=bXh Z;have hl:=r.length;have hn:=aJd;have N:Inv X pins σ (upd H p (.lst (xs.set j v))) {s with heap:=s.heap.update p (bK (·.setIfInBounds j u))} :=
  I.lstUpd D z (cQw its n j u) (r.set O j) (by rw[List.length_set];exact Y) s.toks
 by_cases h0:0<=k
 ·have B:k.toNat=j:=by
   rw[seqIndex_of h0 J] at h1;exact aQ h1
  exact PySem.W.ki_setAt z h0 (by omega) (by rw[ar,<- hl];exact J) (by rw[B];exact⟨_,N,q⟩)
 ·have B:(k+(its.toArray.size:Int)).toNat=j:=by
   rw[seqIndex_neg (by omega) L] at h1
   rw[ar,<- hl];exact aQ h1
  exact PySem.W.ki_setBack z (by omega) (by rw[ar,<- hl];exact L) (by omega) (by rw[B];exact⟨_,N,q⟩)
theorem aXt(lo hi:Option Int)(n:Nat):(eQ lo hi none n).1=((HT.sIx n 0 lo:Nat):Int)/\(eQ lo hi none n).2.1=((HT.sIx n n hi:Nat):Int)/\(eQ lo hi none n).2.2=1:=by
 refine⟨?_,?_,rfl⟩
 ·cases lo with
  |none=>simp[eQ,HT.sIx]
  |some i =>
   simp only[eQ,HT.sIx,iD,show(1:Int)>0 by decide,if_true]
   by_cases h:i<0
   ·simp only[h,if_true] <;> omega
   ·simp only[h,if_false] <;> omega
 ·cases hi with
  |none=>simp[eQ,HT.sIx]
  |some i =>
   simp only[eQ,HT.sIx,iD,show(1:Int)>0 by decide,if_true]
   by_cases h:i<0
   ·simp only[h,if_true] <;> omega
   ·simp only[h,if_false] <;> omega
theorem bQm(its:List ad)(lo hi:Option Int):slicePick its.toArray lo hi none=((its.drop (HT.sIx its.length 0 lo)).take (HT.sIx its.length its.length hi-HT.sIx its.length 0 lo)).toArray:=by
 obtain⟨h1,h2,i⟩:=aXt lo hi its.toArray.size;unfold slicePick;rw[h1,h2,i];simp only[sliceRange_one,pick_run,ar] <;> rfl
def rSlL(K:au):V->Option Int->Option Int->Hp->VK->Prop:=λx lo hi H Q=>∃a xs,x=.ref a/\SqL K H a xs/\∀p,H p=none->Q (.ref p) (upd H p (.lst (cutV xs lo hi)))
theorem dJ2:SlR X (rSlL X.K):=by
 intro pins s σ H x v J D lo hi sl Q I rx B pl pu h;obtain⟨a,xs,rfl,z,q⟩:=h;cases rx;obtain⟨its,r,i,j⟩:=I.list z;have hlen:=r.length;refine⟨"list",_,slot_list_getitem.lookup,i.isList.typeIs,?_⟩;refine wpAny_getItem_list_slice i.isList B pl pu .none (by simp) ?_ (by rw[ar] <;> omega)
 rw[bQm,<- hlen];refine⟨.ref s.heap.objs.size,_,I.laid (t':=s.toks) (o:=.lst (cutV xs lo hi)) (λb L q=>ae _ q) (Nat.le_refl _) ?_,rfl,q _ (I.hok.fresh (Nat.le_refl _))⟩;exact⟨Nat.le_trans (aJe xs lo hi) j,_,0,(r.drop (HT.sIx xs.length 0 lo)).take (HT.sIx xs.length xs.length hi-HT.sIx xs.length 0 lo),av _ rfl⟩
theorem CallR.or{f:ad}{r r':List V->Hp->VK->Prop}(h:CallR X f r)(h':CallR X f r'):CallR X f (λxs H Q=>r xs H Q\/r' xs H Q):=by
 intro pins s σ H xs us Q I rs q;rcases q with q|q
 ·exact h pins s σ H xs us Q I rs q
 ·exact h' pins s σ H xs us Q I rs q
theorem call_list_of:CallR X (.type "list") (λxs H Q=>∃p ys,xs=[.ref p]/\(SqL X.K H p ys\/SqT X.K H p ys)/\∀l,H l=none->Q (.ref l) (upd H l (.lst ys))):=by
 intro pins s σ H xs us Q I r h;obtain⟨p,ys,rfl,z,q⟩:=h;obtain⟨u,rfl,rx⟩:=aZp r;cases rx;have fin:∀(its:List ad),Vals ys its->ys.length<=sizeLine->∀(h':bd) (j:Nat),(∀b o',s.heap.get? b=some o'->h'.get? b=some o') ->
   h'.get? s.heap.objs.size=some {cls:=.type "list",dict:=none,data:=.seq its.toArray j,slots:=#[]}->EP X pins σ Q (.ref s.heap.objs.size) {s with heap:=h'}:=λits i v h' j kp e =>
  ⟨.ref s.heap.objs.size,_,I.laid (t':=s.toks) kp (Nat.le_refl _) (show ObjOk X.prog X.w _ h' _ (.lst ys) from⟨v,its,j,i,e⟩),rfl,q _ (I.hok.fresh (Nat.le_refl _))⟩
 rcases z with z|z
 ·obtain⟨its,i,pl,v⟩:=I.list z;have hlen:=i.length;obtain⟨o,B,D,n,hd⟩:=pl.isList;exact call_list_seq p (.inl rfl) B D hd (λh' j kp e=>fin its i v h' j kp e) (by simp only[ar] <;> omega)
 ·obtain⟨its,i,pl,v⟩:=I.tuple z;have hlen:=i.length;obtain⟨o,B,D,n,hd⟩:=pl;exact call_list_seq p (.inr rfl) B D hd (λh' j kp e=>fin its i v h' j kp e) (by simp only[ar] <;> omega)
theorem bQn:CallR X (.type "tuple") (λxs H Q=>∃p ys,xs=[.ref p]/\((SqL X.K H p ys/\∀l,H l=none->Q (.ref l) (upd H l (.tup ys)))\/(SqT X.K H p ys/\Q (.ref p) H))):=by
 intro pins s σ H xs us Q I r h;obtain⟨p,ys,rfl,h⟩:=h;obtain⟨u,rfl,rx⟩:=aZp r;cases rx;rcases h with⟨j,q⟩|⟨j,q⟩
 ·obtain⟨its,i,pl,v⟩:=I.list j;have hlen:=i.length;refine call_tuple_list pl.isList (λh' kp=>?_) (by simp only[ar] <;> omega)
  have z:Inv X pins σ H {s with heap:=h'}:=I.kept (t':=s.toks) kp
  have B:Inv X pins σ (upd H h'.objs.size (.tup ys)) {s with heap:=h'.push {cls:=.type "tuple",data:=.seq its.toArray}} :=
   z.laid (t':=s.toks) (λb o e=>ae _ e) (Nat.le_refl _) (show ObjOk X.prog X.w _ _ _ (.tup ys) from⟨v,its,i,iA.new _ _,bJp⟩)
  exact⟨.ref h'.objs.size,_,B,rfl,q _ (z.hok.fresh (Nat.le_refl _))⟩
 ·obtain⟨its,i,pl,v⟩:=I.tuple j;exact call_tuple_same pl ⟨.ref p,H,I,rfl,q⟩
def tyV(K:au)(T:String)(x:V)(H:Hp):Prop:=match x with
 |.str _=>T="str"
 |.int _=>T="int"
 |.ref p=>(T="list"/\∃xs,SqL K H p xs)\/(T="tuple"/\∃o,K.lookup p=some o/\o.cls=.type "tuple"/\o.dict=none) \/
   (T="dict"/\((∃kvs,H p=some (.dK kvs))\/∃kvs,H p=some (.dT kvs)))\/(T="set"/\∃S n,H p=some (.set S n))
 |_=>False
theorem eXi{pins:List (Addr×Obj)}{σ:St}{H:Hp}{s:ak}{T:String}{x:V}{v:ad}(I:Inv X pins σ H s)(r:RelV x v)(ty:tyV X.K T x H) :
  s.TypeIs v T/\∀a,v=.ref a->∃ob,s.heap.get? a=some ob/\ob.dict=none:=by
 cases x with
 |str z =>
  obtain⟨t,rfl⟩:=r;cases (show T="str" from ty)
  exact⟨typeIs_str s z t,λ_ e=>nomatch e⟩
 |int i =>
  obtain⟨t,rfl⟩:=r;cases (show T="int" from ty)
  exact⟨typeIs_int s i t,λ_ e=>nomatch e⟩
 |ref p =>
  cases r;rcases ty with⟨rfl,xs,D⟩|⟨rfl,o,j,J,hd⟩|⟨rfl,j⟩|⟨rfl,S,n,j⟩
  ·obtain⟨its,_,pl,_⟩:=I.list D;refine⟨pl.isList.typeIs,λa e=>?_⟩;cases e;obtain⟨o,n,e,c,hd,_⟩:=pl;exact⟨o,e,hd⟩
  ·refine⟨⟨o,I.kIn p o j,J⟩,λa e=>?_⟩;cases e;exact⟨o,I.kIn _ o j,hd⟩
  ·have z:∃o,s.heap.get? p=some o/\o.ExactDict:=by
    rcases j with⟨B,j⟩|⟨B,j⟩
    ·obtain⟨_,_,_,_,o,_,_,e,ex,_⟩:=I.hok p _ j;exact⟨o,e,ex⟩
    ·obtain⟨_,_,_,_,o,_,_,e,ex,_⟩:=I.hok p _ j;exact⟨o,e,ex⟩
   obtain⟨o,e,ex⟩:=z;refine⟨⟨o,e,ex.1⟩,λa e2=>?_⟩;cases e2;exact⟨o,e,ex.2.1⟩
  ·obtain⟨o,_,_,_,e,ex,_⟩:=I.hok p _ j;refine⟨⟨o,e,ex.1⟩,λa e2=>?_⟩;cases e2;exact⟨o,e,ex.2.1⟩
 |_=>exact dh ty
def tBM(K:au)(T:String)(r:V->List V->Hp->VK->Prop)(to:TE)(t:TA):TE:=fun σ H Q=>to σ H λx H1=>tyV K T x H1/\t σ H1 λxs H2=>r x xs H2 Q
variable{o e:Expr}{es:List Expr}{to:TE}{t:TA}{name:Str}{apos cpos:Pos}{T id:String}{r:V->List V->Hp->VK->Prop}
theorem fZ2(pa:PlainAttrs T)(slot:Slot T name id)(hty:typeOf (.builtin id)=pure (.type "method_descriptor"))(hm:MtR X id r)(ho:PE X o to)(ha:PA X (e::es) t)
  (hbase:gz o name X.env (eval o X.env)=eval o X.env:=by rfl)
  (hfew:((cx cpos (az (e::es) X.env)).all (λx=>!x.1) && (iE cpos (fR [] X.env)).all (λx=>x.1.isSome)
   && decide ((e::es).length+([]:List gM).length+(if ([]:List gM).isEmpty then 0 else 1)<30))=true:=by rfl)
  (hline:(apos.endLine==cpos.line)=true:=by rfl) (hs:az (e::es) X.env=(false,eval e X.env)::az es X.env:=by rfl) (hplain:(cx cpos (az es X.env)).any (·.1)=false:=by rfl) :
  PE X (.Call (.Attribute o name apos) (e::es) [] cpos) (tBM X.K T r to t):=by
 intro pins s σ H Q I h;refine wpAny_Call_method_late hbase hfew hline rfl (thn (ho pins s σ H _ I h) λv s1 ⟨x,H1,z,i,ty,L⟩=>?_);obtain⟨h1,h2⟩:=eXi z i ty;refine⟨T,id,pa,slot,hty,h1,h2,?_⟩;have j:=ha cpos pins s1 σ H1 _ z L;rw[hs] at j ⊢;refine Calls.callWith_builtin (by show(false||(cx cpos (az es X.env)).any (·.1))=false;rw[hplain] <;> rfl) (Calls.evalArgs_plain ?_)
 exact thn j λus s2 ⟨B,H2,N,D,J⟩=>hm pins s2 σ H2 x B v us Q N i D J
end
def MtM(X:Cx)(id:String)(r:V->List V->Hp->VK->Prop):Prop :=
 ∀(pins:List (Addr×Obj)) (s:ak) (σ:St) (H:Hp) (x:V) (xs:List V) (v:ad) (us:List ad) (Q:VK),Inv X pins σ H s->RelV x v->Vals xs us->r x xs H Q ->
  aG (aE X.prog X.w) X.A (call (.builtin id) (v::us)) (EP X pins σ Q) X.xe s
theorem Vals.one:∀{x:V}{us:List ad},Vals [x] us->∃u,us=[u]/\RelV x u:=by
 intro x us h;cases h with
 |cons r t=>cases t;exact⟨_,rfl,r⟩
theorem Vals.eraseIdx:∀{xs:List V}{us:List ad}(i:Nat),Vals xs us->Vals (xs.eraseIdx i) (us.eraseIdx i)
 |_,_,_,.nil=>.nil
 |_,_,0,.cons _ t=>t
 |_,_,i+1,.cons r t=>.cons r (Vals.eraseIdx i t)
theorem bZm{α:Type}:∀(l:List α) (i:Nat),(l.eraseIdx i).length<=l.length
 |[],_=>Nat.le_refl _
 |_::_,0=>Nat.le_succ _
 |_::r,i+1=>Nat.succ_le_succ (bZm r i)
section
variable{X:Cx}{pins:List (Addr×Obj)}{σ:St}{H:Hp}{s:ak}{l b:Addr}{xs ys zs:List V}
theorem Inv.lset{its its':List ad}{n:Nat}{f:Array ad->Array ad}{t':Nat}(I:Inv X pins σ H s)(hH:H l=some (.lst xs))
  (e:s.heap.get? l=some {cls:=.type "list",data:=.seq its.toArray n}) (hf:f its.toArray=its'.toArray) (hv:Vals ys its') (hz:ys.length<=sizeLine) :
  Inv X pins σ (upd H l (.lst ys)) {s with heap:=s.heap.update l (bK f),toks:=t'}:=by
 have q:=PySem.IsL.update e f;rw[hf] at q;refine I.write (x:=l) (e:=l) (by rw[hH];exact trivial) (.inl rfl) (λv u j i=>(bg s.heap (bK f) (cz j)).trans i) ⟨_,q⟩ ?_
 exact⟨hz,its',_,hv,q⟩
theorem Inv.lnew{its:List ad}{t':Nat}(I:Inv X pins σ H s)(hv:Vals ys its)(hz:ys.length<=sizeLine) :
  Inv X pins σ (upd H s.heap.objs.size (.lst ys)) {s with heap:=s.heap.push {cls:=.type "list",data:=.seq its.toArray},toks:=t'} :=
 I.laid (λ_ _ q=>ae _ q) (Nat.le_refl _) ⟨hz,its,0,hv,av _ rfl⟩
theorem Inv.fresh(I:Inv X pins σ H s):H s.heap.objs.size=none:=I.hok.fresh (Nat.le_refl _)
theorem Inv.lstM(I:Inv X pins σ H s)(hH:H l=some (.lst xs)):xs.length<=sizeLine/\∃(its:List ad) (n:Nat),Vals xs its/\xs.length=its.length/\s.heap.get? l=some {cls:=.type "list",data:=.seq its.toArray n}:=by
 obtain⟨z,its,n,r,e⟩:=I.hok l _ hH;exact⟨z,its,n,r,r.length,e⟩
theorem dQb{n:Nat}(h:n<=sizeLine):fD n=false:=by
 unfold fD;exact decide_eq_false (by omega)
end
section
variable{X:Cx}
def cZr:V->List V->Hp->VK->Prop:=λx vs H Q=>∃l xs y,x=.ref l/\vs=[y]/\H l=some (.lst xs)/\xs.length<sizeLine/\Q .non (upd H l (.lst (xs++[y])))
theorem bZn:MtM X "list.append" cZr:=by
 intro pins s σ H x D v us Q I rx j h;obtain⟨l,xs,y,rfl,rfl,i,J,q⟩:=h;cases rx;obtain⟨u,rfl,B⟩:=j.one;obtain⟨z,its,n,r,hl,e⟩:=I.lstM i;refine call_meets F.slot_list_append ⟨_,e,rfl⟩ F.entry_list_append (F.args_list_append_2 _ _) (PySem.list_append l its.toArray n u (by rw[ar];omega)) ⟨e,?_⟩
 refine⟨.non,_,I.lset (its':=its++[u]) i e (by simp) (r.append (.cons B .nil)) ?_,rfl,q⟩
 rw[aA,d6];omega
def cZs:V->List V->Hp->VK->Prop:=λx vs H Q=>∃l b xs zs,x=.ref l/\vs=[.ref b]/\H l=some (.lst xs)/\H b=some (.lst zs)/\xs.length+zs.length<=sizeLine/\Q .non (upd H l (.lst (xs++zs)))
theorem cZt:MtM X "list.extend" cZs:=by
 intro pins s σ H x vs v us Q I rx J h;obtain⟨l,b,xs,zs,rfl,rfl,D,U,hz,q⟩:=h;cases rx;obtain⟨u,rfl,ru⟩:=J.one;cases ru;obtain⟨z,its,n,r,hl,e⟩:=I.lstM D;obtain⟨Z,i,N,L,O,Y⟩:=I.lstM U;have B:its.toArray.size+i.toArray.size<=sizeLine:=by rw[ar,ar];omega
 have j:¬ (!its.toArray.isEmpty&&fD (its.toArray.size+i.toArray.size))=true:=by
  rw[dQb B,Bool.and_false];exact dH
 refine call_meets F.slot_list_extend ⟨_,e,rfl⟩ F.entry_list_extend (F.args_list_extend_2 _ _)
  (AutoSeq1.list_extend_list_list_0 l its.toArray n b i.toArray N j (by rw[ar];omega) (by omega)) ⟨e,Y,?_⟩
 refine⟨.non,_,I.lset (its':=its++i) D e (by simp) (r.append L) ?_,rfl,q⟩
 rw[aA];omega
def dZo:V->List V->Hp->VK->Prop:=λx vs H Q=>∃l xs i k y,x=.ref l/\vs=[.int i]/\H l=some (.lst xs)/\-(2^63)<=i/\i<2^63/\seqIndex? i xs.length=some k/\xs[k]?=some y/\Q y (upd H l (.lst (xs.eraseIdx k)))
theorem dQc:MtM X "list.pop" dZo:=by
 intro pins s σ H x O v us Q I rx D h;obtain⟨l,xs,i,k,y,rfl,rfl,B,h1,h2,N,L,q⟩:=h;cases rx;obtain⟨u,rfl,J⟩:=D.one;obtain⟨t,rfl⟩:=J;obtain⟨z,its,n,r,hl,e⟩:=I.lstM B;obtain⟨w,hw,j⟩:=r.get L;refine call_meets F.slot_list_pop ⟨_,e,rfl⟩ F.entry_list_pop (F.args_list_pop_2 _ _)
  (MeetsSeq.list_pop_at l its.toArray n i t k w (fitsIndex_both h1 h2) (by rw[ar,<- hl];exact N) (by rw[<- aL];exact hw) (by rw[ar];omega)) ⟨e,?_⟩
 refine⟨y,_,I.lset (its':=its.eraseIdx k) B e ?_ (r.eraseIdx k) ?_,j,q⟩
 ·show its.toArray.eraseIdxIfInBounds k=(its.eraseIdx k).toArray;rw[List.eraseIdxIfInBounds_toArray]
 ·have:=bZm xs k
  omega
end
section
variable{prog:aF}{w:aS}{A:a4}{E:ad->ak->Prop}{s:ak}
set_option maxRecDepth 100000 in
end
end L2
namespace Att
open PySem PySem.W PySem.Calls PyProof.Rows
theorem aJf{P:Params}{h:bd}:∀(ns:List Int) (vs:List ad),WellAll P h vs (ns.map WData.int)->gL vs ns:=by
 intro ns
 induction ns with
 |nil =>
  intro vs w;rw[fw] at w;cases w;exact .nil
 |cons n ns i =>
  intro vs w;rw[bC] at w;cases w with
  |cons a b =>
   cases a;exact .cons _ _ (i _ b)
theorem cZu{l:OpenLaw}{n:Nat}(hn:l.most=some n){P:Params}{h:bd}{args:List WData}{vals:List ad}
  (hpre:l.row.toRowW.claim.pre args=true) (hwl:WellAll P h vals args) :
  ∃a vs ns,vals=[ju a]/\args=[WData.list (ns.map WData.int)]/\h.get? a=some {cls:=.type "list",data:=.seq vs.toArray}/\gL vs ns/\ns.length<=n:=by
 have z:WShape.hasAll [] args [.list .int]=true:=(pre_splitW hpre).1;have B:l.pre.holds [] {args:=args}=true:=(pre_splitW hpre).2;obtain⟨d,r,rfl,h1,h2⟩:=hasAllW_cons z;obtain rfl:=hasAllW_nil h2;obtain⟨xs,rfl,L⟩:=hasW_list h1;obtain⟨ns,rfl⟩:=items_int L;have hlen:ns.length<=n:=by
  unfold OpenLaw.pre at B;have v:(WTm.not (.lt (.lit (.int (n:Int))) (.len (.arg 0)))).holds [] {args:=[.list (ns.map .int)]}=true:=by
   have v:=(holds_andW B).1;rw[hn] at v;exact v
  have j:=condW_of v (w_not (w_lt w_lit (w_len_list (w_arg rfl))));rw[am] at j;refine Nat.le_of_not_lt λq=>?_;have D:(n:Int)<((ns.length:Nat):Int):=by omega
  first
   |(rw[decide_eq_true D] at j;exact absurd j (by decide))
   |(simp at j;omega)
 cases hwl with
 |cons w1 w2 =>
  cases w2;cases w1 with
  |list J i=>exact⟨_,_,ns,rfl,rfl,J,aJf ns _ i,hlen⟩
theorem cZv(l:OpenLaw)(args:List WData):l.row.toRowW.claim.post args (.bool true) args=true :=
 postW_of (r:=l.row.toRowW) (X:=(true==true))
  (show WShape.has [] (.bool true) .bool=true by first|rfl|decide|simp[WShape.has,WShape.arms,WShape.armsAll])
  (show(WTm.eq .res (.lit (.bool true))).value [] {args:=args,res:=some (.bool true),after:=args}=some (.bool (true==true)) from w_eq_bool (w_res rfl) w_lit) rfl
theorem attach_call{l:OpenLaw}{n:Nat}{q:aF}{loose:List Str}{XP:(Str->Option ad)->bd->Prop}{YP:aS->bd->Prop}{d:DefRec}
  (hn:l.most=some n) (hdf:d.params.defaults=[])
  (call:∀ (w:aS) (s₀ s₁:ak) (mg mb:Str->Option ad) (fa:Addr) (o:Obj) (pm cd doc:ad) (a:Addr) (vs:List ad) (ns:List Int),
   Ground q loose [] XP w s₀ mg mb s₁.heap->YP w s₁.heap ->
   s₁.heap.get? fa=some o->o.data=.func (docDef d.name d.params d.body d.scope pm cd doc)->s₁.heap.CodeRec cd d.name->mg d.name=some (.ref fa) ->
   s₁.heap.get? a=some {cls:=.type "list",data:=.seq vs.toArray}->gL vs ns->ns.length<=n->s₁.gens=#[] ->
   ew (aE l.prog w) callerA (.call (.ref fa) ⟨[.ref a],[]⟩) (λr s'=>r=.ok (.ret (.bool true))/\OldK s₁.heap s'.heap/\s'.os=s₁.os/\ij s'.gens) s₁) :
  WalkO q loose XP YP l.row.toRowW d [] (λf vs=>PySem.call f vs):=by
 intro w s₀ s₁ mg mb G Y fa o pm cd doc dV kV O hd B J z Z args vals as i D L v U;obtain rfl:dV=.none:=Dflts.none J hdf;obtain rfl:kV=.none:=Dflts.noKw J;obtain⟨a,vs,ns,rfl,rfl,j,hints,hlen⟩:=cZu hn i v;refine enter_call (fv (call w s₀ s₁ mg mb fa o pm cd doc a vs ns G Y O (fd_plain hd) B z j hints hlen Z) λr s' N=>?_);obtain⟨rfl,h2,h3,h4⟩:=N;exact⟨.inl ⟨.bool true,.bool true,[],rfl,λ_=>rfl,.bool true,cZv l _,λ_=>⟨fZ,λ_ hm=>(nomatch hm)⟩⟩,h2,h3,h4⟩
end Att
namespace L2
open PySem PySem.Spec PyProof.Rows
theorem aJg:∀{vs:List ad}{ns:List Int},gL vs ns->Vals (ns.map V.int) vs
 |_,_,.nil=>.nil
 |_,_,.cons n t h=>.cons ⟨t,rfl⟩ (aJg h)
abbrev KOf{K:au}{h:bd}(_:K.In h):au:=K
def aX3(s:Stmt):Arguments:=match s with
 |.FunctionDef _ a _ _ _ _ _ _ _ _=>a
 |_=>{posonlyargs:=[],args:=[],vararg:=none,kwonlyargs:=[],kw_defaults:=[],kwarg:=none,defaults:=[]}
def aQy(s:Stmt):List Stmt:=match s with
 |.FunctionDef _ _ b _ _ _ _ _ _ _=>b
 |_=>[]
def aQ3(s:Stmt):Scope:=match s with
 |.FunctionDef _ _ _ _ _ _ sc _ _ _=>sc
 |_=>{kind:=.function,names:=[],isGenerator:=false,isCoroutine:=false}
abbrev CX0:CXT:=λ_ _ _ _ _ _=>False
abbrev E0:XK:=λ_ _ _=>False
theorem fZ3{X:Cx}:cZo CX0 X E0:=λ_ _ _ _ _ _ _ h=>h.elim
structure Fun(K:au)(x qual:Str)(st:Stmt)(f:Addr)(fd:c8):Prop where
 ex:∃(oc:ad) (od:Option Addr) (kV doc pm:ad) (an:Option Addr) (cdv ct:ad) (osl:Array (Option ad)),
  fd=eA x qual (aX3 st) (aQy st) (aQ3 st) .none kV doc pm an cdv ct/\K.lookup f=some ⟨oc,od,.func fd,osl⟩/\fW K cdv qual=true
 kp:fj K (.ref f)=true
section
variable{P:aF}{w:aS}{K:au}{mg:Str->Option ad}{base:bd}
theorem Fun.ok{x qual:Str}{st:Stmt}{f:Addr}{fd:c8}{N ps:List Str}{k:Nat}{sp:Sp}(F:Fun K x qual st f fd)(S:FnScope N ps (aQ3 st))(len:∀vs H Q E,sp vs H Q E->vs.length=ps.length)
  (hbody:∀ (cdv:ad) (A:a4) (outer:List Env) (s:ak) (H:Hp) (vs:List V) (Q:VK) (E:XK),Room k (A.deeper (gY qual (aQ3 st) s.heap.objs.size f cdv))->sp vs H Q E ->
   ∃t,PSs (cxOf CX0 P w K mg base N qual (aQ3 st) f cdv A outer s H E).nox (aQy st) t/\t {nx:=λ_ H'=>Q .non H',rt:=Q} (start N vs) H):FnOk P w K mg base CX0 (k+1) f fd ps sp:=by
 obtain⟨oc,B,kV,doc,pm,an,cdv,ct,v,rfl,lk,j⟩:=F.ex;refine eXe lk j S len λA outer s H vs Q E z i=>?_;obtain⟨t,h,q⟩:=hbody cdv A outer s H vs Q E z i;exact⟨t,h.nox,q⟩
theorem Fun.binds{x qual:Str}{st:Stmt}{f:Addr}{fd:c8}{ps:List Str}(F:Fun K x qual st f fd)
  (h:∀(kV doc pm:ad) (an:Option Addr) (cdv ct:ad) (us:List ad),us.length=ps.length->bindArgs (eA x qual (aX3 st) (aQy st) (aQ3 st) .none kV doc pm an cdv ct) ⟨us,[]⟩=pure (ps.zip us)):Binds K fd ps []:=by
 obtain⟨oc,v,kV,doc,pm,an,cdv,ct,i,rfl,lk,j⟩:=F.ex;exact .all (h kV doc pm an cdv ct)
theorem dZp{x qual:Str}{st:Stmt}{f:Addr}{oc:ad}{od an:Option Addr}{osl:Array (Option ad)}{kV doc pm cdv ct:ad}(l:K.lookup f=some ⟨oc,od,.func (eA x qual (aX3 st) (aQy st) (aQ3 st) .none kV doc pm an cdv ct),osl⟩)
  (c:fW K cdv qual=true) (k:fj K (.ref f)=true):Fun K x qual st f (eA x qual (aX3 st) (aQy st) (aQ3 st) .none kV doc pm an cdv ct):=⟨⟨oc,od,kV,doc,pm,an,cdv,ct,osl,rfl,l,c⟩,k⟩
end
theorem ite2{c A B:Prop}[Decidable c](h1:c->A)(h2:¬ c->B):if c then A else B:=by
 by_cases h:c
 ·rw[if_pos h];exact h1 h
 ·rw[if_neg h];exact h2 h
def Same(H H':Hp):Prop:=∀b o,H b=some o->H' b=some o
end L2
set_option maxHeartbeats 4000000
namespace L2
open PySem PySem.Spec PyProof.Rows
theorem aXi(env:Env):∀(names:List (Str×eZ)) (acc:List (Str×Addr)),(∀x,(x,aW)∈names->∃c,env.cells.lookup x=some c)->(∀x c,acc.lookup x=some c->env.cells.lookup x=some c) ->
  ∃cl,(forIn names acc λ(y:Str×eZ) (cs:List (Str×Addr))=>(if (y.2==aW)=true then do let a <- cellOf env y.1;pure (bh ((y.1,a)::cs)) else pure (bh cs):Sem (ForInStep (List (Str×Addr)))))=pure cl /\
   (∀x c,cl.lookup x=some c->env.cells.lookup x=some c)/\(∀x,((x,aW)∈names\/(acc.lookup x).isSome=true)->(cl.lookup x).isSome=true)
 | [],acc,_,j=>⟨acc,by rfl,j,λx h=>by
   rcases h with h|h
   ·cases h
   ·exact h⟩
 |(n,k)::rest,acc,v,j=>by
  by_cases hk:(k==aW)=true
  ·have z:k=aW:=by cases k <;> first|rfl|cases hk
   subst z;obtain⟨c,B⟩:=v n aq;obtain⟨cl,e,h1,h2⟩:=aXi env rest ((n,c)::acc) (λx hx=>v x (ay _ hx)) (λx d hx=>by
    simp only[cG] at hx
    by_cases i:(x==n)=true
    ·rw[i] at hx;cases hx;rw[fQ i];exact B
    ·rw[eB.mpr i] at hx;exact j x d hx)
   refine⟨cl,?_,h1,λx hx=>h2 x ?_⟩
   ·rw[fG];have D:cellOf env n=pure c:=by unfold cellOf;rw[B]
    simp only[hk,if_true,D,iF];exact e
   ·rcases hx with hx|hx
    ·rcases aK.mp hx with hx|hx
     ·cases hx;right;simp
     ·exact .inl hx
    ·right
     simp only[cG];cases x==n <;> simp[hx]
  ·obtain⟨cl,e,h1,h2⟩:=aXi env rest acc (λx hx=>v x (ay _ hx)) j;refine⟨cl,?_,h1,λx hx=>h2 x ?_⟩
   ·rw[fG];simp only[hk,if_false,iF,aN];exact e
   ·rcases hx with hx|hx
    ·rcases aK.mp hx with hx|hx
     ·cases hx;exact absurd rfl hk
     ·exact .inl hx
    ·exact .inr hx
inductive Cap(N:List Str)(sc:Scope):List Str->List (Option Nat)->Prop
 |nil:Cap N sc [] []
 |own {x xs is}:Cap N sc xs is->Cap N sc (x::xs) (none::is)
 |cap {x xs is i}:N[i]?=some x->(x,aW)∈sc.names->Cap N sc xs is->Cap N sc (x::xs) (some i::is)
theorem Cap.length{N:List Str}{sc:Scope}{xs:List Str}{is:List (Option Nat)}(c:Cap N sc xs is):xs.length=is.length:=by
 induction c with
 |nil=>rfl
 |own _ i=>simp[i]
 |cap _ _ _ i=>simp[i]
theorem Cap.get{N:List Str}{sc:Scope}{xs:List Str}{is:List (Option Nat)}(c:Cap N sc xs is):∀{j i:Nat}{x:Str},xs[j]?=some x->is[j]?=some (some i)->N[i]?=some x/\(x,aW)∈sc.names:=by
 induction c with
 |nil=>intro j i x h;simp at h
 |own _ v =>
  intro j i x h1 h2;cases j with
  |zero=>simp at h2
  |succ j=>exact v (by simpa using h1) (by simpa using h2)
 |cap z hf _ v =>
  intro j i x h1 h2;cases j with
  |zero=>simp at h1 h2;subst h1;subst h2;exact⟨z,hf⟩
  |succ j=>exact v (by simpa using h1) (by simpa using h2)
def capt(is:List (Option Nat))(σ:St):St:=is.map λo=>o.bind λi=>(σ[i]?).join
theorem aZq{sc:Scope}{env:Env}:∀{names:List (Str×eZ)}{x:Str},(names.lookup x=some .cell\/names.lookup x=some .free)->((names.map λ(n,k)=>if (k==aW&&env.scope.kind ==.function&&env.kindOf n==some .cell) then (n,gA) else (n,k)).lookup x=some .cell\/(names.map λ(n,k)=>if (k==aW&&env.scope.kind ==.function&&env.kindOf n==some .cell) then (n,gA) else (n,k)).lookup x=some .free)
 |[],x,h=>by simp at h
 |(n,k)::r,x,h=>by
  simp only[bC]
  by_cases i:(k==aW&&env.scope.kind ==.function&&env.kindOf n==some .cell)=true
  ·rw[if_pos i];simp only[cG] at h ⊢;cases hx:x==n with
   |true=>exact .inl rfl
   |false=>rw[hx] at h;exact aZq (sc:=sc) h
  ·rw[if_neg i];simp only[cG] at h ⊢;cases hx:x==n with
   |true=>rw[hx] at h;exact h
   |false=>rw[hx] at h;exact aZq (sc:=sc) h
theorem aXj{sc:Scope}{env:Env}:∀{names:List (Str×eZ)}{x:Str},((names.map λ(n,k)=>if (k==aW&&env.scope.kind ==.function&&env.kindOf n==some .cell) then (n,gA) else (n,k)).lookup x=some .cell\/(names.map λ(n,k)=>if (k==aW&&env.scope.kind ==.function&&env.kindOf n==some .cell) then (n,gA) else (n,k)).lookup x=some .free)->names.lookup x=some .cell\/names.lookup x=some .free
 |[],x,h=>by simp at h
 |(n,k)::r,x,h=>by
  simp only[bC] at h
  by_cases i:(k==aW&&env.scope.kind ==.function&&env.kindOf n==some .cell)=true
  ·rw[if_pos i] at h;simp only[cG] at h ⊢;cases hx:x==n with
   |true =>
    right
    have:k==aW:=by
     simp only[a6] at i;exact i.1.1
    cases k <;> first|rfl|cases this
   |false=>rw[hx] at h;exact aXj (sc:=sc) h
  ·rw[if_neg i] at h;simp only[cG] at h ⊢;cases hx:x==n with
   |true=>rw[hx] at h;exact h
   |false=>rw[hx] at h;exact aXj (sc:=sc) h
theorem aJh{α β:Type}[BEq α][LawfulBEq α]:∀{l:List (α×β)}{x:α}{k:β},l.lookup x=some k->(x,k)∈l
 |(n,i)::r,x,k,h=>by
  simp only[cG] at h;cases hx:x==n with
  |true=>rw[hx] at h;cases h;rw[fQ hx];exact aq
  |false=>rw[hx] at h;exact ay _ (aJh h)
def PTs(X:Cx)(ifs:List Expr)(t:TT):Prop :=
 ∀(pins:List (Addr×Obj)) (s:ak) (σ:St) (H:Hp) (Q:Bool->Hp->Prop),Inv X pins σ H s->t σ H Q ->
  aG (aE X.prog X.w) X.A (forIn ifs true λc r=>if r=true then do let ok <- isTrue c X.env (eval c X.env);pure (bh ok) else pure (bh r)) (TP X pins σ Q) X.xe s
def tYes:TT:=λ_ H Q=>Q true H
theorem dJ3{X:Cx}:PTs X [] tYes:=λpins s σ H Q I h=>wpAny_tests_nil ⟨H,I,h⟩
theorem dJ4{X:Cx}{c:Expr}{t:TT}(h:PT X c t):PTs X [c] t:=λpins s σ H Q I q=>wpAny_tests_one (h pins s σ H Q I q)
def Wk(σ0 σ2:St):Prop:=σ2.length=σ0.length/\∀(j:Nat) v,σ0[j]?=some (some v)->σ2[j]?=some (some v)
def okV(names outer:List (Str×eZ)):Bool:=names.all λy=>match y.2 with
 |.free=>match outer.lookup y.1 with
  |some .cell=>true
  |some .free=>true
  |_=>false
 |_=>true
theorem dZq{names:List (Str×eZ)}{sc:Scope}(h:okV names sc.names=true):∀y∈names,y.2=.free->Vis sc y.1/\sc.names.lookup y.1≠some .local:=λy i hf=>by
 have:=bF.mp h y i
 rw[hf] at this;unfold Vis;cases q:sc.names.lookup y.1 with
 |none=>rw[q] at this;cases this
 |some k=>rw[q] at this;cases k <;> first|(simp;done)|cases this
structure Bs(mg:Str->Option ad):Prop where
 len:mg "len"=none
 range:mg "range"=none
 sorted:mg "sorted"=none
 tuple:mg "tuple"=none
 list:mg "list"=none
 set:mg "set"=none
 sum:mg "sum"=none
 min:mg "min"=none
 max:mg "max"=none
 all:mg "all"=none
 any:mg "any"=none
 isinstance:mg "isinstance"=none
 int:mg "int"=none
 str:mg "str"=none
 bool:mg "bool"=none
 zip:mg "zip"=none
 enumerate:mg "enumerate"=none
theorem dZr:cj "len"=some (.builtin "len"):=by decide +kernel
theorem bZo:cj "sorted"=some (.builtin "sorted"):=by decide +kernel
theorem dZs:cj "min"=some (.builtin "min"):=by decide +kernel
theorem eXj:cj "all"=some (.builtin "all"):=by decide +kernel
theorem dZt:cj "any"=some (.builtin "any"):=by decide +kernel
theorem dQd:cj "tuple"=some (.type "tuple"):=by decide +kernel
theorem bXj:cj "list"=some (.type "list"):=by decide +kernel
theorem eXk:cj "set"=some (.type "set"):=by decide +kernel
structure Df(P:aF)(w:aS)(K:au)(mg:Str->Option ad)(base:bd)(k:Nat)(x:Str)(ps:List Str)(sp:Sp):Prop where
 ex:∃(f:Addr) (fd:c8),FnOk P w K mg base CX0 k f fd ps sp/\Binds K fd ps []/\fj K (.ref f)=true/\mg x=some (.ref f)
theorem Df.mono{P:aF}{w:aS}{K:au}{mg:Str->Option ad}{base:bd}{j k:Nat}{x:Str}{ps:List Str}{sp:Sp}(D:Df P w K mg base j x ps sp)(h:j<=k):Df P w K mg base k x ps sp:=by
 obtain⟨f,fd,a,b,c,d⟩:=D.ex;exact⟨f,fd,a.mono h,b,c,d⟩
theorem dQe{X:Cx}{k:Nat}{x:Str}{ps:List Str}{sp:Sp}{p pos:Pos}{e:Expr}{es:List Expr}{t:TA}(D:Df X.prog X.w X.K X.mg X.base k x ps sp)(hr:Room k X.A)(hg:Gl X x)(ha:PA X (e::es) t)
  (hdb:(x==("__debug__":Str))=false:=by decide) (he:az (e::es) X.env=(false,eval e X.env)::az es X.env:=by rfl) (hpl:(cx pos (az es X.env)).any (·.1)=false:=by rfl) :
  PE X (.Call (.Name x p) (e::es) [] pos) (eXc sp [] E0 t):=by
 obtain⟨f,fd,F,j,i,hm⟩:=D.ex;exact dXw F hr hg hm i j .nil fZ3 ha hdb he hpl
structure Tx(K:au)(mg:Str->Option ad)(x:Str)(st:Stmt):Prop where
 ex:∃(f:Addr) (fd:c8),Fun K x x st f fd/\mg x=some (.ref f)
theorem Tx.df{P:aF}{w:aS}{K:au}{mg:Str->Option ad}{base:bd}{k:Nat}{x:Str}{st:Stmt}{ps:List Str}{sp:Sp}(T:Tx K mg x st)
  (b:∀{f:Addr}{fd:c8},Fun K x x st f fd->Binds K fd ps []) (h:∀{f:Addr}{fd:c8},Fun K x x st f fd->FnOk P w K mg base CX0 k f fd ps sp):Df P w K mg base k x ps sp:=by
 obtain⟨f,fd,F,m⟩:=T.ex;exact⟨f,fd,h F,b F,F.kp,m⟩
theorem tx_mk{K:au}{h:bd}{mg:Str->Option ad}{x:Str}{st:Stmt}{f:Addr}{od an:Option Addr}{sl:Array (Option ad)}{oc kV dc pm cd ct:ad}(X:K.In h)(G:h.Ns aX mg)
  (a:bD K aX x=some (some (.ref f))) (l:K.lookup f=some ⟨oc,od,.func (eA x x (aX3 st) (aQy st) (aQ3 st) .none kV dc pm an cd ct),sl⟩) (c:fW K cd x=true) (k:fj K (.ref f)=true):Tx K mg x st :=
 ⟨f,_,dZp (st:=st) l c k,jy X G a⟩
theorem bs_mk{K:au}{h:bd}{mg:Str->Option ad}(X:K.In h)(G:h.Ns aX mg)(a:∀x∈(["len", "range", "sorted", "tuple", "list", "set", "sum", "min", "max", "all", "any", "isinstance", "int", "str", "bool", "zip", "enumerate"]:List Str),bD K aX x=some none):Bs mg:=by
 have q:∀x∈(["len", "range", "sorted", "tuple", "list", "set", "sum", "min", "max", "all", "any", "isinstance", "int", "str", "bool", "zip", "enumerate"]:List Str),mg x=none:=λx i=>PySem.W.mg_none_of X G (a x i);constructor <;> exact q _ (by decide +kernel)
theorem bs_all{K:au}(z1:bD K aX "len"=some none)(z2:bD K aX "range"=some none)(z3:bD K aX "sorted"=some none)(z4:bD K aX "tuple"=some none)(z5:bD K aX "list"=some none)(z6:bD K aX "set"=some none)
  (z7:bD K aX "sum"=some none) (z8:bD K aX "min"=some none) (z9:bD K aX "max"=some none) (z10:bD K aX "all"=some none) (z11:bD K aX "any"=some none) (z12:bD K aX "isinstance"=some none)
  (z13:bD K aX "int"=some none) (z14:bD K aX "str"=some none) (z15:bD K aX "bool"=some none) (z16:bD K aX "zip"=some none) (z17:bD K aX "enumerate"=some none) :
  ∀x∈(["len", "range", "sorted", "tuple", "list", "set", "sum", "min", "max", "all", "any", "isinstance", "int", "str", "bool", "zip", "enumerate"]:List Str),bD K aX x=some none:=λx i=>by
 simp only[aK,gv,or_false] at i;rcases i with rfl|rfl|rfl|rfl|rfl|rfl|rfl|rfl|rfl|rfl|rfl|rfl|rfl|rfl|rfl|rfl|rfl <;> assumption
end L2
set_option maxHeartbeats 1000000
namespace L2
open PySem PySem.Spec PyProof.Rows
def bQo(ifs:List Expr)(env:Env):Sem Bool:=forIn ifs true λc r=>if r=true then do let ok <- isTrue c env (eval c env);pure (bh ok) else pure (bh r)
def aQx(target:Expr)(ifs:List Expr)(at0:Pos)(m:Sem Unit)(c:Code)(it:ad)(env:Env):Sem Fin :=
 fF at0>>=λ_=>eV it>>=λr=>match r with
  |none=>pure (.done .next)
  |some v=>eY target it v>>=λ_=>iV target env v>>=λ_=>bQo ifs env>>=λok=>if ok=true then m>>=λ_=>again c else again c
def emitOf(elt:Expr)(acc:ad)(env:Env):Sem Unit:=eval elt env>>=λx=>call (.builtin "list.append") [acc,x]>>=λ_=>pure ()
def innerOf(e:Expr)(iter:Expr)(acc:ad)(env:Env):Sem Unit:=eval iter env>>=λx=>fF iter.pos>>=λ_=>b7 iter env x>>=λx=>fb [x] (ir x)>>=λit=>runOwn (.compStart e 1 it acc env) env>>=λ_=>pure ()
theorem aQd(elt target iter:Expr)(ifs:List Expr)(scope:Scope)(pos:Pos)(it acc:ad)(env:Env) :
  eK (.ListComp elt [⟨target,iter,ifs,0⟩] scope pos) 0 it acc env=aQx target ifs iter.pos (emitOf elt acc env) (.compLoop (.ListComp elt [⟨target,iter,ifs,0⟩] scope pos) 0 it acc env) it env:=by
 rw[compTurn_list];unfold aQx bQo emitOf;refine congrArg _ (funext λ_=>congrArg _ (funext λr=>?_));cases r with
 |none=>rfl
 |some v =>
  refine congrArg _ (funext λ_=>congrArg _ (funext λ_=>congrArg _ (funext λok=>?_)));cases ok <;> rfl
abbrev TB:=St->Hp->(Hp->Prop)->Prop
def PB(X:Cx)(m:Sem Unit)(t:TB):Prop :=
 ∀(pins:List (Addr×Obj)) (s:ak) (σ:St) (H:Hp) (N:Hp->Prop),Inv X pins σ H s->t σ H N ->
  aG (aE X.prog X.w) X.A m (λ_ s'=>∃σ' H',Inv X pins σ' H' s'/\Wk σ σ'/\N H') (λ_ _=>False) s
def eXl(D:Addr)(te:TE):TB:=fun σ H N=>te σ H λy H4=>∃zs,H4 D=some (.lst zs)/\zs.length<sizeLine/\N (upd H4 D (.lst (zs++[y])))
def bXk(J:It)(σ0:St)(g:TG)(tt:TT)(tb:TB)(Q:Hp->Prop)(H:Hp):Prop :=
 ∃W:Nat->Nat->Hp->Prop,(∃m,W 0 m H)/\∀i m H,W i m H ->
  (J.stop i H/\Q H)\/(J.go i H/\∃ N:Hp->Prop,(∀ H',N H'->∃ m',m' < m/\W (i + 1) m' H') /\
   ∀x H',J.yld i H x H'->g x σ0 H' fun σ2 H2=>Wk σ0 σ2/\tt σ2 H2 λb H3=>if b=true then tb σ2 H3 N else N H3)
def dZu(wi:TI)(g:TG)(tt:TT)(tb:TB):TB:=fun σ H N=>wi σ H λJ H1=>bXk J σ g tt tb N H1
def bJt(is:List (Option Nat))(wi:TI)(g:TG)(tt:TT)(tb:Addr->TB):TE:=fun σ H Q=>wi σ H λJ H1=>∀D,H1 D=none->bXk J (capt is σ) g tt (tb D) (Q (.ref D)) (upd H1 D (.lst []))
theorem Wk.refl(σ:St):Wk σ σ:=⟨rfl,λ_ _ h=>h⟩
theorem Wk.trans{a b c:St}(h:Wk a b)(k:Wk b c):Wk a c:=⟨k.1.trans h.1,λj v e=>k.2 j v (h.2 j v e)⟩
theorem dJ5{σ:St}{i:Nat}{v:V}(h:σ[i]?=some none):Wk σ (σ.set i (some v)):=by
 refine⟨List.length_set,λj u e=>?_⟩
 by_cases z:j=i
 ·subst z;rw[h] at e;cases e
 ·rw[fi (cz z)];exact e
section
variable{X:Cx}
theorem aQk{elt:Expr}{te:TE}{D:Addr}(hxe:X.xe=λ_ _=>False)(he:PE X elt te):PB X (emitOf elt (.ref D) X.env) (eXl D te):=by
 intro pins s σ H N I h;unfold emitOf;have h1:=he pins s σ H _ I h;rw[hxe] at h1;refine aa (thn h1 λy s1 ⟨v,H1,L,j,zs,B,i,n⟩=>aa ?_);have h2:=bZn pins s1 σ H1 (.ref D) [v] (.ref D) [y] (λu O=>u=.non/\N O) L rfl (.cons j .nil) ⟨D,zs,v,rfl,rfl,B,i,rfl,n⟩;rw[hxe] at h2;exact thn h2 λ_ s2 ⟨u,H2,J,_,_,z⟩=>af ⟨σ,H2,J,Wk.refl σ,z⟩
theorem bQp{e target:Expr}{ifs:List Expr}{at0:Pos}{d:Nat}{acc:ad}{it:Addr}{m:Sem Unit}{g:TG}{tt:TT}{tb:TB}{J:It}{fp:List Addr}{tn:Nat->bd->Prop}{Q:Hp->Prop}{R:Result->ak->Prop}{pins:List (Addr×Obj)}{s:ak}{σ:St}{H:Hp}
  (hcalm:X.calm=true) (hxe:X.xe=λ_ _=>False) (hturn:eK e d (.ref it) acc X.env=aQx target ifs at0 m (.compLoop e d (.ref it) acc X.env) (.ref it) X.env)
  (hfr:(gC e d (.ref it) acc X.env).isFrame=false) (hA:X.A.under (gC e d (.ref it) acc X.env)=X.A)
  (T:Turn X.prog X.w X.K target J fp it tn) (hg:PG X target g) (ht:PTs X ifs tt) (hb:PB X m tb)
  (I:Inv X pins σ H s) (st:tn 0 s.heap) (f:∀b∈fp,FpOk X pins H b) (h:bXk J σ g tt tb Q H)
  (fin:∀H' s',Inv X pins σ H' s'->(∀b∈fp,FpOk X pins H' b)->Q H'->R (.ok .next) s') :
  ew (aE X.prog X.w) X.A (.compLoop e d (.ref it) acc X.env) R s:=by
 obtain⟨W,⟨m0,w0⟩,turn⟩:=h;have j:∀{H':Hp},(∀b∈fp,H' b=none)->∀b∈fp,FpOk X pins H' b:=λhn b hb=>⟨hn b hb,(f b hb).2⟩;refine codeAny_loop rfl (λn s'=>∃i H',Inv X pins σ H' s'/\tn i s'.heap/\(∀b∈fp,H' b=none)/\W i n H') ?_ m0 ⟨0,H,I,st,λb hb=>(f b hb).1,w0⟩;rintro n s3 ⟨i,H3,I3,U,D,w3⟩;have eden:(aE X.prog X.w).den (.compLoop e d (.ref it) acc X.env)=(eK e d (.ref it) acc X.env).onRaise (λx=>do noteFrame x X.env;theTreesLotGoes x):=by
  show(if (gC e d (.ref it) acc X.env).isFrame=true then _ else _)=_
  rw[hfr];rfl
 rw[eden,hturn,hA];refine wpAny_noted ?_;unfold aQx;refine aa (e7 ?_);rcases turn i n H3 w3 with⟨stop,qn⟩|⟨go,N,hN,step⟩
 ·refine aa (thn (T.done X rfl rfl rfl hcalm i pins s3 σ H3 _ I3 (j D) U stop) λr s4 ⟨hr,I4⟩=>?_);subst hr;exact af (fin H3 s4 I4 (j D) qn)
 ·refine aa (thn (T.item X rfl rfl rfl hcalm i pins s3 σ H3 _ I3 (j D) U go) λr s4 ⟨u,hr,h4⟩=>?_);subst hr;refine aa (thn h4 λ_ s5 ⟨x,H5,I5,r5,y5,B,fr5⟩=>?_);have I5':=I5.pinned (j fr5) (T.obj _ _ B);have q5:=hg _ s5 σ H5 x u _ I5' r5 (step x H5 y5);rw[hxe] at q5;refine aa (cT q5 (λ_ s6 ⟨σ6,H6,I6,O,q6⟩=>?_) λ_ _ z=>z.elim);have Z:=ht _ s6 σ6 H6 _ I6 q6;rw[hxe] at Z;refine aa (cT Z (λok s7 ⟨H7,I7,Z⟩=>?_) λ_ _ z=>z.elim);have v:∀{σ8:St}{L:Hp}{Y:ak},Inv X (pins++bZj fp s5.heap) σ8 L Y->Wk σ σ8->N L->∃m,m<n/\∃i H',Inv X pins σ H' Y/\tn i Y.heap/\(∀b∈fp,H' b=none)/\W i m H':=λ{σ8 L Y} I8 wk n8=>by
   obtain⟨m',hm,w8⟩:=hN L n8;refine⟨m',hm,i+1,L,I8.unpinned.weak wk.1.symm wk.2,T.keep _ _ _ B λb hb o e=>(I8.pin (b,o) (a8 _ (a8 _ (aZw hb e)))).1,λb hb=>?_,w8⟩;obtain⟨o,e,_⟩:=T.obj _ _ B b hb;exact(I8.pin (b,o) (a8 _ (a8 _ (aZw hb e)))).2.1
  cases ok with
  |false=>exact af ⟨rfl,v I7 O Z⟩
  |true =>
   refine aa (cT (hb _ s7 σ6 H7 N I7 Z) (λ_ Y ⟨σ8,L,I8,wk8,n8⟩=>?_) λ_ _ z=>z.elim);exact af ⟨rfl,v I8 (O.trans wk8) n8⟩
end
section
variable{X:Cx}
theorem cZw{e target iter:Expr}{ifs:List Expr}{it acc:ad}{env:Env}{A:a4}{prog:aF}{w:aS}{R:Result->ak->Prop}{s:ak}(hc:(clausesOf e)[1]?=some ⟨target,iter,ifs,0⟩)(hfr:(f6 e 1 it acc env).isFrame=false)(hA:A.under (f6 e 1 it acc env)=A)
  (h0:ew (aE prog w) A (.compLoop e 1 it acc env) R s)
  (h:aG (aE prog w) A (ir it) (λit' s'=>ew (aE prog w) A (.compLoop e 1 it' acc env) R s') (notedBy (aE prog w) A env λx s'=>R (.error x) s') s) :
  ew (aE prog w) A (.compStart e 1 it acc env) R s:=by
 refine fH ?_;have i:(aE prog w).den (.compStart e 1 it acc env)=(compStart e 1 it acc env).onRaise (λx=>do noteFrame x env;fF theWindowsPlace):=by
  show(if (f6 e 1 it acc env).isFrame=true then _ else _)=_
  rw[hfr];rfl
 rw[i,hA];refine wpAny_notedAt ?_;unfold compStart;rw[hc];simp only[Option.elim,bne_self_eq_false,aN,if_false];refine aa (c9 (wpAny_ite ?_))
 split
 ·first
   |exact aa (af (af (iG rfl h0)))
   |exact af (iG rfl h0)
 ·refine aa (c7 ?_);refine aa (e7 (aa (cT h (λit' s' h'=>af (iG rfl h')) λ_ _ x=>x)))
theorem dQf{e t2 i2:Expr}{ifs2:List Expr}{acc:ad}{m:ad->Sem Unit}{wi:TI}{g:TG}{tt:TT}{tb:TB}(hcalm:X.calm=true)(hxe:X.xe=λ_ _=>False)(hc:(clausesOf e)[1]?=some ⟨t2,i2,ifs2,0⟩)
  (hturn:∀it,eK e 1 (.ref it) acc X.env=aQx t2 ifs2 i2.pos (m acc) (.compLoop e 1 (.ref it) acc X.env) (.ref it) X.env)
  (hi:PI X t2 i2 wi) (hg:PG X t2 g) (ht:PTs X ifs2 tt) (hb:PB X (m acc) tb)
  (hs:∀x,b7 i2 X.env x=pure x) (hfr:∀it,(f6 e 1 it acc X.env).isFrame=false) (hfr2:∀it,(gC e 1 it acc X.env).isFrame=false)
  (hA:∀it,X.A.under (f6 e 1 it acc X.env)=X.A) (hA2:∀it,X.A.under (gC e 1 it acc X.env)=X.A) :
  PB X (innerOf e i2 acc X.env) (dZu wi g tt tb):=by
 intro pins s σ H N I h;unfold innerOf;have h1:=hi pins s σ H _ I h;rw[hxe] at h1;refine aa (thn h1 λv s1 z=>aa (e7 (aa (wpAny_of_eq (hs v) (aa (bn (thn z λB s2 j=>?_)))))));obtain⟨it,U,O,J,H2,rfl,D,T,i,f2,j⟩:=j;refine aa (wpAny_runOwn ?_);have loop:ew (aE X.prog X.w) X.A (.compLoop e 1 (.ref it) acc X.env) (λr s'=>match r with
   |.ok f=>aG (aE X.prog X.w) X.A (pure ()) (λ_ s'=>∃σ' H',Inv X pins σ' H' s'/\Wk σ σ'/\N H') (λ_ _=>False) s'
   |.error x=>cameBackBy (aE X.prog X.w) X.A X.env (λ_ _=>False) x s') s2 :=
  bQp hcalm hxe (hturn it) (hfr2 _) (hA2 _) T hg ht hb D i f2 j λH' s' L _ n=>af ⟨σ,H',L,Wk.refl σ,n⟩
 exact cZw hc (hfr _) (hA _) loop (T.self _ 0 _ _ _ i loop)
end
theorem aXk(env:Env):∀(names:List (Str×eZ)) (acc:List (Str×Addr)),(∀x,(x,aW)∈names->∃c,env.cells.lookup x=some c) ->
  ∃cl,(forIn names acc λ(y:Str×eZ) (cs:List (Str×Addr))=>(if (y.2==aW)=true then do let a <- cellOf env y.1;pure (bh ((y.1,a)::cs)) else pure (bh cs):Sem (ForInStep (List (Str×Addr)))))=pure cl /\
   (∀x c,cl.lookup x=some c->(x,aW)∈names\/acc.lookup x=some c)
 |[],acc,_=>⟨acc,by rfl,λ_ _ h=>.inr h⟩
 |(n,k)::rest,acc,j=>by
  by_cases hk:(k==aW)=true
  ·have v:k=aW:=by cases k <;> first|rfl|cases hk
   subst v;obtain⟨c,B⟩:=j n aq;obtain⟨cl,e,h1⟩:=aXk env rest ((n,c)::acc) (λx i=>j x (ay _ i));refine⟨cl,?_,λx d i=>?_⟩
   ·rw[fG];have D:cellOf env n=pure c:=by unfold cellOf;rw[B]
    simp only[hk,if_true,D,iF];exact e
   ·rcases h1 x d i with z|z
    ·exact .inl (ay _ z)
    ·simp only[cG] at z;cases hxn:x==n with
     |true=>rw[fQ hxn];exact .inl aq
     |false=>rw[hxn] at z;exact .inr z
  ·obtain⟨cl,e,h1⟩:=aXk env rest acc (λx i=>j x (ay _ i));refine⟨cl,?_,λx d i=>?_⟩
   ·rw[fG];simp only[hk,if_false,iF,aN];exact e
   ·rcases h1 x d i with z|z
    ·exact .inl (ay _ z)
    ·exact .inr z
theorem aX1{env:Env}{scope:Scope}(hn:∀x,(x,aW)∈scope.names->∃c,env.cells.lookup x=some c) :
  ∃cl,g6 scope env=pure cl/\(∀x c,cl.lookup x=some c->env.cells.lookup x=some c)/\(∀x,(x,aW)∈scope.names->(cl.lookup x).isSome=true)/\∀x c,cl.lookup x=some c->(x,aW)∈scope.names:=by
 obtain⟨cl,e,h1,h2⟩:=aXi env scope.names [] hn (λx c h=>by cases h)
 obtain⟨cl',B,j⟩:=aXk env scope.names [] hn;have v:cl=cl':=by
  have:=e.symm.trans B
  injection this
 subst v;refine⟨cl,?_,h1,λx i=>h2 x (.inl i),λx c i=>(j x c i).elim id λz=>by cases z⟩
 have q:g6 scope env=(forIn scope.names ([]:List (Str×Addr)) λ(y:Str×eZ) (cs:List (Str×Addr))=>(if (y.2==aW)=true then do let a <- cellOf env y.1;pure (bh ((y.1,a)::cs)) else pure (bh cs):Sem (ForInStep (List (Str×Addr))))):=by
  unfold g6;exact bind_pure _
 rw[q,e]
def ocl(oc:Option Str)(c:Addr)(cl:List (Str×Addr)):List (Str×Addr):=match oc with
 |none=>cl
 |some x=>(x,c)::cl
def ohp(oc:Option Str)(h:bd):bd:=match oc with
 |none=>h
 |some _=>h.push {cls:=.type "cell",data:=.cell none}
theorem aJi{oc:Option Str}{c d:Addr}{cl:List (Str×Addr)}{x:Str}(h:(ocl oc c cl).lookup x=some d):(oc=some x/\d=c)\/cl.lookup x=some d:=by
 cases oc with
 |none=>exact .inr h
 |some z =>
  unfold ocl at h;simp only[cG] at h;cases hx:x==z with
  |true=>rw[hx] at h;cases h;rw[fQ hx];exact .inl ⟨rfl,rfl⟩
  |false=>rw[hx] at h;exact .inr h
theorem bJu{oc:Option Str}{c:Addr}{cl:List (Str×Addr)}{x:Str}(h:(cl.lookup x).isSome=true):∃d,(ocl oc c cl).lookup x=some d:=by
 cases oc with
 |none=>exact cF.mp h
 |some z =>
  unfold ocl;simp only[cG];cases hx:x==z with
  |true=>exact⟨_,rfl⟩
  |false=>exact cF.mp h
theorem dJ6{c:Addr}{cl:List (Str×Addr)}{x:Str}:(ocl (some x) c cl).lookup x=some c:=by unfold ocl;simp
theorem aJ9{oc:Option Str}{h:bd}{b:Addr}{o:Obj}(e:h.get? b=some o):(ohp oc h).get? b=some o:=by
 cases oc with
 |none=>exact e
 |some _=>exact ae _ e
def aQ9(X:Cx)(N':List Str)(scope:Scope)(cl:List (Str×Addr))(C:Addr)(fp:List Addr)(s:ak)(H:Hp)(oc:Option Str):Cx :=
 {X with N:=N',s₀:=s,H₀:=H,env:=gE scope cl C X.env,outer:=X.stack,ex:=fp,fn:=λx=>decide (oc=some x),pn:=[],xe:=λ_ _=>False}
theorem cZx{scope:Scope}{env:Env}{cl:List (Str×Addr)}{M:Model}{A:a4}{E:ad->ak->Prop}{s:ak}{Q:Env->ak->Prop}
  (h:Q {scope:=scope,locals:=s.heap.objs.size,globals:=env.globals,cells:=eJ (s.heap.objs.size+1) scope.names cl,qual:=env.qual,func:=none,code:=env.code,frame:=env.frame,builtins:=env.builtins} {s with heap:=fT (s.heap.push {cls:=.type "dict",data:=.dict #[]}) scope.names}) :
  aG M A (newFunctionEnv scope env.globals cl [] env.qual none .none (some env)) Q E s:=by
 unfold newFunctionEnv;simp only[Option.isSome_some,if_true];refine aa (wpAny_alloc ?_);refine aa (wpAny_layCells _ (λname kind cells=>by cases hkc:kind==gA <;> simp[hkc]) _ _ _ _ ?_)
 rw[show({s with heap:=s.heap.push {cls:=.type "dict",data:=.dict #[]}}:ak).heap.objs.size=s.heap.objs.size+1 from cC ..]
 exact aa (af (af h))
section
variable{X:Cx}{pins:List (Addr×Obj)}{σ:St}{H H':Hp}{s s2:ak}
theorem bQ8{N':List Str}{scope:Scope}{cl:List (Str×Addr)}{fp:List Addr}{oc:Option Str}(I:Inv X pins σ H s)(hf:∀b∈fp,FpOk X pins H b)(hfl:∀b∈fp,b<s.heap.objs.size)(hkind:scope.kind=.function)
  (c1:∀x c,cl.lookup x=some c->X.env.cells.lookup x=some c) (c2:∀x,(x,aW)∈scope.names->(cl.lookup x).isSome=true) (hcell:∀y∈scope.names,y.2=.cell->oc=some y.1) (hun:∀x,oc=some x->cl.lookup x=none) :
  (aQ9 X N' scope (ocl oc (s.heap.objs.size+1) cl) s.heap.objs.size fp s H oc).Ok where
 mod:=I.ok.mod
 kind:=hkind
 glob:=I.ok.glob
 blt:=I.ok.blt
 above:=Nat.le_refl _
 inj:=λx y c h1 h2=>by
  have old:∀z,cl.lookup z=some (s.heap.objs.size+1)->False:=λz e=>by
   obtain⟨v,q⟩:=I.cell z _ (c1 z _ e);exact absurd (show s.heap.objs.size+1<s.heap.objs.size from q.lt) (Nat.not_lt.mpr (Nat.le_succ _))
  rcases aJi h1 with⟨D,rfl⟩|D <;> rcases aJi h2 with⟨B,e⟩|B
  ·rw[D] at B;exact aQ B
  ·exact(old y B).elim
  ·subst e;exact(old x D).elim
  ·exact I.ok.inj x y c (c1 x c D) (c1 y c B)
 has:=λx J=>by
  have i:scope.names.lookup x=some .cell\/scope.names.lookup x=some .free:=aXj (sc:=scope) J;rcases i with i|i
  ·have e:=hcell _ (aJh i) rfl;subst e;exact⟨_,dJ6⟩
  ·exact bJu (c2 x (aJh i))
 cab:=λx c h L=>by
  have h':oc=some x:=of_decide_eq_true h;rcases aJi L with⟨_,rfl⟩|e
  ·exact Nat.le_succ _
  ·rw[hun x h'] at e;cases e
 hd:=I.ok.hd
 frames:=I.ok.frames
 gd:=I.ok.gd
 stk:=.inl rfl
 exf:=λb j=>⟨Nat.ne_of_lt (hfl b j),λx c e=>by
  rcases aJi e with⟨_,rfl⟩|e
  ·intro z;exact absurd (show s.heap.objs.size+1<s.heap.objs.size from z▸hfl b j) (Nat.not_lt.mpr (Nat.le_succ _))
  ·exact(hf b j).2.2.2.2.1 x c (c1 x c e)⟩
 bs:=I.bs
 bsz:=Nat.le_trans I.ok.bsz I.sz
 noex:=λb o e j=>by
  rcases(hf b j).2.2.2.1 with z|z
  ·exact I.ok.noex b o e z
  ·have q:=I.ok.bs b o e;exact absurd (Nat.lt_of_lt_of_le (aD q.1) z) (Nat.lt_irrefl _)
 exfs:=λb j z=>by
  rcases aK.mp (I.stkSub b z) with e|e
  ·exact(hf b j).2.1 e
  ·exact(hf b j).2.2.1 e
 funs:=I.stack
 frf:=I.stkFree
theorem aJj{N':List Str}{is:List (Option Nat)}{scope:Scope}{cl:List (Str×Addr)}{fp:List Addr}{oc:Option Str}(I:Inv X pins σ H s)(ok:(aQ9 X N' scope (ocl oc (s.heap.objs.size+1) cl) s.heap.objs.size fp s H oc).Ok)(hN:X.N.Nodup)
  (c1:∀x c,cl.lookup x=some c->X.env.cells.lookup x=some c) (c2:∀x,(x,aW)∈scope.names->(cl.lookup x).isSome=true) (hu:∀x,(x,aW)∈scope.names->scope.names.lookup x=some .free) (cp:Cap X.N scope N' is)
  (hV:∀x,(x,aW)∈scope.names->Vis X.env.scope x/\X.env.scope.names.lookup x≠some .local) (hun:∀x,oc=some x->cl.lookup x=none) :
  Inv (aQ9 X N' scope (ocl oc (s.heap.objs.size+1) cl) s.heap.objs.size fp s H oc) [] (capt is σ) H {s with heap:=ohp oc (s.heap.push {cls:=.type "dict",data:=.dict #[]})}:=by
 have kp:∀b o,s.heap.get? b=some o->(ohp oc (s.heap.push {cls:=.type "dict",data:=.dict #[]})).get? b=some o:=λb o e=>aJ9 (ae _ e);exact {
 ok:=ok
 os:=rfl
 bare:=I.bare
 base:=Un.kept kp
 loc:=by
  refine⟨_,(bd.Ns.new s.heap (.type "dict")).keeps λb o e=>aJ9 e,λj x v e1 e2 e3=>?_⟩;have Z:N'[j]?=some x:=e1;unfold capt at e2;rw[aJ] at e2;cases hi:is[j]? with
  |none=>rw[hi] at e2;cases e2
  |some o =>
   rw[hi] at e2;cases o with
   |none=>cases e2
   |some i =>
    obtain⟨hx,B⟩:=cp.get Z hi;have e2':(σ[i]?).join=some v:=aQ e2;have e4:σ[i]?=some (some v):=by
     cases q:σ[i]? with
     |none=>rw[q] at e2';cases e2'
     |some z=>rw[q] at e2';cases z with
      |none=>cases e2'
      |some z=>cases e2';rfl
    obtain⟨m,hn,hl⟩:=I.loc;obtain⟨J,Y⟩:=hV x B;obtain⟨u,r,l⟩:=hl i x v hx e4 J;refine⟨u,r,.inr ⟨aZq (sc:=scope) (.inr (hu x B)),?_⟩⟩;rcases l with⟨k,_⟩|⟨k,c,e,z⟩
    ·exact absurd k Y
    ·obtain⟨L,e'⟩:=bJu (oc:=oc) (c:=s.heap.objs.size+1) (c2 x B);have ee:L=c:=by
      rcases aJi e' with⟨O,_⟩|O
      ·have:=c2 x B;rw[hun x O] at this;cases this
      ·have:=c1 x L O;rw[e] at this;exact(aQ this).symm
     subst ee;obtain⟨D,U,hd⟩:=z;exact⟨L,e',D,kp L D U,hd⟩
 cell:=λx c e=>by
  rcases aJi (show(ocl oc (s.heap.objs.size+1) cl).lookup x=some c from e) with⟨z,rfl⟩|e
  ·subst z;refine⟨none,{cls:=.type "cell",data:=.cell none},?_,rfl⟩;show((s.heap.push _).push _).get? _=_;rw[<- cC s.heap {cls:=.type "dict",data:=.dict #[]}];exact av _ rfl
  ·obtain⟨v,o,ho,hd⟩:=I.cell x c (c1 x c e);exact⟨v,o,kp c o ho,hd⟩
 free:=I.hok.fresh (Nat.le_refl _)
 freeC:=λx c e=>by
  rcases aJi (show(ocl oc (s.heap.objs.size+1) cl).lookup x=some c from e) with⟨z,rfl⟩|e
  ·exact I.hok.fresh (Nat.le_succ _)
  ·exact I.freeC x c (c1 x c e)
 pin:=λp hp=>absurd (show p∈([]:List (Addr×Obj)) from hp) (by simp)
 hok:=I.hok.kept kp
 len:=by
  show(capt is σ).length=N'.length;unfold capt;rw[am,cp.length]}
def FrC(X:Cx)(pins:List (Addr×Obj))(C:Addr)(H:Hp):Prop:=H C=none/\C≠X.env.locals/\X.s₀.heap.objs.size<=C/\(∀x c,X.env.cells.lookup x=some c->c≠C)/\∀p∈X.pn++pins,p.1≠C
theorem FrC.gone{C:Addr}{h':bd}(f:FrC X pins C H)(I:Inv X pins σ H s)(sb:dU C s.heap h'):Inv X pins σ H {s with heap:=h'} :=
 I.turned (t':=s.toks) (λb o i e=>(sb.2 b i).trans e) f.1 f.2.1 (.inr f.2.2.1) f.2.2.2.1 f.2.2.2.2
theorem comp_gen{elt target iter:Expr}{ifs:List Expr}{gs:List eE}{scope:Scope}{pos:Pos}{N':List Str}{is:List (Option Nat)}{wi:TI}{g:TG}{tt:TT}{tb:Addr->TB}{oc:Option Str}{m:ad->Env->Sem Unit}(hcalm:X.calm=true)(hN:X.N.Nodup)
  (hturn:∀it acc env,eK (.ListComp elt (⟨target,iter,ifs,0⟩::gs) scope pos) 0 it acc env=aQx target ifs iter.pos (m acc env) (.compLoop (.ListComp elt (⟨target,iter,ifs,0⟩::gs) scope pos) 0 it acc env) it env)
  (cp:Cap X.N scope N' is) (hi:PI X target iter wi)
  (hg:∀cl C fp s H,PG (aQ9 X N' scope cl C fp s H oc) target g) (ht:∀cl C fp s H,PTs (aQ9 X N' scope cl C fp s H oc) ifs tt) (hb:∀cl C fp s H D,PB (aQ9 X N' scope cl C fp s H oc) (m (.ref D) (gE scope cl C X.env)) (tb D))
  (hcf:∀n acc,eJ n scope.names acc=ocl oc n acc) (hpc:∀h,fT h scope.names=ohp oc h)
  (hkind:scope.kind=.function) (hcell:∀y∈scope.names,y.2=.cell->oc=some y.1)
  (hu:∀y∈scope.names,scope.names.lookup y.1=some y.2) (hoc:∀x,oc=some x->scope.names.lookup x=some .cell)
  (hVb:okV scope.names X.env.scope.names=true)
  (hs:∀x,b7 iter X.env x=pure x)
  {use:Option (ad->Sem Unit)}{Q:VK}{Qv:ad->ak->Prop}(I:Inv X pins σ H s) (h:bJt is wi g tt tb σ H Q)
  (fin:∀D C H5 s6,Inv X pins σ H5 s6->(∃m,s6.heap.Ns C m)->FrC X pins C H5->Q (.ref D) H5->compPost (aE X.prog X.w) X.A X.xe use Qv (.ref D) C (.ok .next) s6) :
  aG (aE X.prog X.w) X.A (comprehension (.ListComp elt (⟨target,iter,ifs,0⟩::gs) scope pos) scope X.env (firstIterPos (⟨target,iter,ifs,0⟩::gs) pos) (newList []) (firstAsync (⟨target,iter,ifs,0⟩::gs)) (firstIter (⟨target,iter,ifs,0⟩::gs) X.env) use) Qv X.xe s:=by
 have hV:=dZq hVb;have hV':∀x,(x,aW)∈scope.names->Vis X.env.scope x/\X.env.scope.names.lookup x≠some .local:=λx i=>hV (x,.free) i rfl;have hu':∀x,(x,aW)∈scope.names->scope.names.lookup x=some .free:=λx i=>hu (x,.free) i;have j:∀x∈scope.names,x.2=.local->scope.names.lookup x.1=some .local:=λx i hl=>by rw[hu x i,hl]
 obtain⟨cl,L,c1,c2,c3⟩:=aX1 (env:=X.env) (scope:=scope) λx i=>I.ok.has x (by
  obtain⟨v,n⟩:=hV' x i;rcases v with v|v|v
  ·exact absurd v n
  ·exact .inl v
  ·exact .inr v)
 have hun:∀x,oc=some x->cl.lookup x=none:=λx i=>by
  cases e:cl.lookup x with
  |none=>rfl
  |some c =>
   have:=hu' x (c3 x c e)
   rw[hoc x i] at this;cases this
 refine wpAny_comprehension_free (use:=use) rfl hs L hkind j (thn (hi pins s σ H _ I h) λv s1 h1=>thn h1 λitv s2 h2=>?_);obtain⟨it,fp,tn,J,H2,rfl,I2,T,st2,f2,q2⟩:=h2;refine bu ?_;have hD:H2 s2.heap.objs.size=none:=I2.hok.fresh (Nat.le_refl _);have fpl:∀b∈fp,b<s2.heap.objs.size:=λb hb=>by obtain⟨o,e,_⟩:=T.obj _ _ st2 b hb;exact aD e
 have O:Inv X pins σ (upd H2 s2.heap.objs.size (.lst [])) {s2 with heap:=s2.heap.push {cls:=.type "list",dict:=none,data:=.seq ([]:List ad).toArray}} :=
  I2.laid (t':=s2.toks) (λb u e=>ae _ e) (Nat.le_refl _) ⟨Nat.zero_le _,[],0,.nil,av _ rfl⟩
 have st3:tn 0 (s2.heap.push {cls:=.type "list",dict:=none,data:=.seq ([]:List ad).toArray}):=T.keep _ _ _ st2 λb hb o e=>ae _ e;have U:∀b∈fp,FpOk X pins (upd H2 s2.heap.objs.size (.lst [])) b:=λb hb=>⟨by rw[upd_ne (Nat.ne_of_lt (fpl b hb))];exact(f2 b hb).1,(f2 b hb).2⟩
 have B:∀b∈fp,b<(s2.heap.push {cls:=.type "list",dict:=none,data:=.seq ([]:List ad).toArray}).objs.size:=λb hb=>by rw[cC];exact Nat.lt_succ_of_lt (fpl b hb)
 have q3:=q2 _ hD;generalize hDe:s2.heap.objs.size=D at *
 generalize hs3:({s2 with heap:=s2.heap.push {cls:=.type "list",dict:=none,data:=.seq ([]:List ad).toArray}}:ak)=s3 at *
 have hsh:s3.heap=s2.heap.push {cls:=.type "list",dict:=none,data:=.seq ([]:List ad).toArray}:=by rw[<- hs3]
 rw[<- hsh] at st3 B;have ok:=bQ8 (N':=N') (cl:=cl) (oc:=oc) O U B hkind c1 c2 hcell hun;have I4:=aJj O ok hN c1 c2 hu' cp hV' hun;refine cZx ?_;rw[hcf,hpc];have kp:∀b o,s3.heap.get? b=some o->(ohp oc (s3.heap.push {cls:=.type "dict",data:=.dict #[]})).get? b=some o:=λb o e=>aJ9 (ae _ e);have Z:tn 0 (ohp oc (s3.heap.push {cls:=.type "dict",data:=.dict #[]})):=T.keep _ _ _ st3 λb _ o e=>kp b o e;have f4:∀b∈fp,FpOk (aQ9 X N' scope (ocl oc (s3.heap.objs.size+1) cl) s3.heap.objs.size fp s3 (upd H2 D (.lst [])) oc) [] (upd H2 D (.lst [])) b:=λb hb =>
  ⟨(U b hb).1,(ok.exf b hb).1,ok.exfs b hb,.inl hb,(ok.exf b hb).2,λp hp=>absurd (show p∈([]:List (Addr×Obj)) from hp) (by simp)⟩
 have loop:=bQp (X:=aQ9 X N' scope (ocl oc (s3.heap.objs.size+1) cl) s3.heap.objs.size fp s3 (upd H2 D (.lst [])) oc) (e:=.ListComp elt (⟨target,iter,ifs,0⟩::gs) scope pos) (d:=0) (acc:=.ref D)
  (R:=compPost (aE X.prog X.w) X.A X.xe use Qv (.ref D) s3.heap.objs.size) hcalm rfl (hturn _ _ _) rfl rfl T (hg _ _ _ _ _) (ht _ _ _ _ _) (hb _ _ _ _ _ D) I4 Z f4 q3 (by
   intro H5 s6 Y _ qn;obtain⟨m6,n6,_⟩:=id Y.loc;have un:Un (frs X.stack) fp (upd H2 D (.lst [])) H5 s3.heap s6.heap:=Y.base;have hok':HOk X.prog X.w H5 s6.heap:=Y.hok;refine fin D s3.heap.objs.size H5 s6 (O.call' (s':=s6) (ch:=fp) Y.os un hok' Y.bare λb hb=>⟨(U b hb).2.2.2.1,(U b hb).2.1,(U b hb).2.2.2.2.1,(U b hb).2.2.2.2.2⟩) ⟨m6,n6⟩ ⟨Y.free,Nat.ne_of_gt O.lt,O.sz,λx c e z=>?_,λp hp z=>?_⟩ qn
   ·obtain⟨v,q⟩:=O.cell x c e;exact absurd q.lt (by rw[z];exact Nat.lt_irrefl _)
   ·exact absurd (aD (O.pin p hp).1) (by rw[z];exact Nat.lt_irrefl _))
 exact codeAny_compStart_list loop (T.self _ 0 _ _ _ Z loop)
theorem dQg{elt target iter:Expr}{ifs:List Expr}{gs:List eE}{scope:Scope}{pos:Pos}{N':List Str}{is:List (Option Nat)}{wi:TI}{g:TG}{tt:TT}{tb:Addr->TB}{oc:Option Str}{m:ad->Env->Sem Unit}(hcalm:X.calm=true)(hN:X.N.Nodup)
  (hturn:∀it acc env,eK (.ListComp elt (⟨target,iter,ifs,0⟩::gs) scope pos) 0 it acc env=aQx target ifs iter.pos (m acc env) (.compLoop (.ListComp elt (⟨target,iter,ifs,0⟩::gs) scope pos) 0 it acc env) it env)
  (cp:Cap X.N scope N' is) (hi:PI X target iter wi)
  (hg:∀cl C fp s H,PG (aQ9 X N' scope cl C fp s H oc) target g) (ht:∀cl C fp s H,PTs (aQ9 X N' scope cl C fp s H oc) ifs tt) (hb:∀cl C fp s H D,PB (aQ9 X N' scope cl C fp s H oc) (m (.ref D) (gE scope cl C X.env)) (tb D))
  (hcf:∀n acc,eJ n scope.names acc=ocl oc n acc:=by intro _ _;rfl) (hpc:∀h,fT h scope.names=ohp oc h:=by intro _;rfl)
  (hkind:scope.kind=.function:=by rfl) (hcell:∀y∈scope.names,y.2=.cell->oc=some y.1:=by decide +kernel)
  (hu:∀y∈scope.names,scope.names.lookup y.1=some y.2:=by decide +kernel) (hoc:∀x,oc=some x->scope.names.lookup x=some .cell:=by intro x h;cases h <;> rfl)
  (hVb:okV scope.names X.env.scope.names=true:=by first|rfl|kernel_rfl)
  (hs:∀x,b7 iter X.env x=pure x:=by intro _;rfl) :
  PE X (.ListComp elt (⟨target,iter,ifs,0⟩::gs) scope pos) (bJt is wi g tt tb):=by
 intro pins s σ H Q I h;rw[eval_ListComp];refine comp_gen hcalm hN hturn cp hi hg ht hb hcf hpc hkind hcell hu hoc hVb hs I h λD C B J z ⟨m,n⟩ v j=>?_;exact⟨m,n,λh' i=>⟨.ref D,B,v.gone z i,rfl,j⟩⟩
theorem dJ7{x:Str}{i:Nat}{pos' spos:Pos}(hix:X.N[i]?=some x)(hx:Loc X.env.scope x){elt target iter:Expr}{ifs:List Expr}{gs:List eE}{scope:Scope}{pos:Pos}{N':List Str}{is:List (Option Nat)}{wi:TI}{g:TG}{tt:TT}{tb:Addr->TB}{oc:Option Str}{m:ad->Env->Sem Unit}(hcalm:X.calm=true)(hN:X.N.Nodup)
  (hturn:∀it acc env,eK (.ListComp elt (⟨target,iter,ifs,0⟩::gs) scope pos) 0 it acc env=aQx target ifs iter.pos (m acc env) (.compLoop (.ListComp elt (⟨target,iter,ifs,0⟩::gs) scope pos) 0 it acc env) it env)
  (cp:Cap X.N scope N' is) (hi:PI X target iter wi)
  (hg:∀cl C fp s H,PG (aQ9 X N' scope cl C fp s H oc) target g) (ht:∀cl C fp s H,PTs (aQ9 X N' scope cl C fp s H oc) ifs tt) (hb:∀cl C fp s H D,PB (aQ9 X N' scope cl C fp s H oc) (m (.ref D) (gE scope cl C X.env)) (tb D))
  (hcf:∀n acc,eJ n scope.names acc=ocl oc n acc:=by intro _ _;rfl) (hpc:∀h,fT h scope.names=ohp oc h:=by intro _;rfl)
  (hkind:scope.kind=.function:=by rfl) (hcell:∀y∈scope.names,y.2=.cell->oc=some y.1:=by decide +kernel)
  (hu:∀y∈scope.names,scope.names.lookup y.1=some y.2:=by decide +kernel) (hoc:∀x,oc=some x->scope.names.lookup x=some .cell:=by intro x h;cases h <;> rfl)
  (hVb:okV scope.names X.env.scope.names=true:=by first|rfl|kernel_rfl)
  (hs:∀x,b7 iter X.env x=pure x:=by intro _;rfl)
  (hsw:iB (.ListComp elt (⟨target,iter,ifs,0⟩::gs) scope pos) (some (.Name x pos')) spos.line X.env=pure true:=by first|rfl|kernel_rfl) (hf:X.fn x=true\/X.env.scope.names.lookup x=some .local:=by first|exact .inl rfl|exact .inr rfl|assumption) :
  PS X (.Assign [.Name x pos'] (.ListComp elt (⟨target,iter,ifs,0⟩::gs) scope pos) spos) (tAsg (bJt is wi g tt tb) (bXg i)):=by
 intro pins s σ H D I h;rw[exec_Assign_Name_used _ _ _ _ hsw];refine aa (e7 (aa ?_));show aG _ _ (comprehension _ _ _ _ _ _ _ (some _)>>=λ_=>pure ()) _ _ _;refine aa (comp_gen (Qv:=λ_ s'=>aG (aE X.prog X.w) X.A (pure ()) _ X.xe s') hcalm hN hturn cp hi hg ht hb hcf hpc hkind hcell hu hoc hVb hs I h λE C Z s6 Y ⟨m,n⟩ B L=>?_);refine wpAny_assign_Name (bZi Y hN hix hx (show RelV (.ref E) (.ref E) from rfl) (λs7 U ⟨a,J,O⟩=>?_) hf)
 have v:C≠a:=by
  rintro rfl;rcases O with z|z
  ·exact B.2.1 z
  ·exact B.2.2.2.1 x C z rfl
 refine⟨m,n.sameBut J v,λh' j=>af (af ?_)⟩;exact⟨_,Z,B.gone U j,L⟩
end
end L2
set_option maxHeartbeats 4000000
namespace L2
open PySem PySem.Spec PyProof.Rows
abbrev Dn(α:Type):=Hp->V->α->Prop
abbrev Fg:=au
def dS:Dn Str:=λ_ v x=>v=.str x
def dB:Dn Bool:=λ_ v b=>v=.bl b
def dT{α:Type}(K:Fg)(R:Dn α):Dn (List α):=λH v ds=>∃a xs,v=.ref a/\SqT K H a xs/\br (R H) xs ds
def dL{α:Type}(K:Fg)(R:Dn α):Dn (List α):=λH v ds=>∃a xs,v=.ref a/\SqL K H a xs/\br (R H) xs ds
theorem aQw{H:Hp}{p:Addr}{o:HO}(h:H p=none):Same H (upd H p o):=λb o' e=>by
 rw[upd_ne (by rintro rfl;rw[h] at e;cases e)];exact e
theorem Paired.imp{α β:Type}{F G:α->β->Prop}(h:∀a b,F a b->G a b):∀{l:List α}{m:List β},br F l m->br G l m
 |_,_,.nil=>.nil
 |_,_,.cons p q=>.cons (h _ _ p) (Paired.imp h q)
theorem beq_dec{α:Type}[DecidableEq α][BEq α][LawfulBEq α](a b:α):(a==b)=decide (a=b):=by
 by_cases h:a=b
 ·subst h;simp
 ·simp[h]
theorem Paired.get'{α β:Type}{F:α->β->Prop}:∀{l:List α}{m:List β}{i:Nat}{a:α},br F l m->l[i]?=some a->∃b,m[i]?=some b/\F a b
 |_,_,_,_,.nil,h=>by simp at h
 |_,_,0,_,.cons p _,h=>by simp at h;subst h;exact⟨_,rfl,p⟩
 |_,_,i+1,a,.cons _ q,h=>by
  obtain⟨b,e,f⟩:=Paired.get' (i:=i) (a:=a) q (by simpa using h)
  exact⟨b,by simpa using e,f⟩
theorem eXm{α:Type}[DecidableEq α]:∀(ds es:List α),((a7 (min ds.length es.length)).all λj=>decide (ds[j]?=es[j]?))=true->ds.length=es.length->ds=es:=λds es h hl=>by
 apply ff;intro i
 by_cases hi:i<ds.length
 ·have:=bF.mp h i (aZ.mpr (by lia))
  exact of_decide_eq_true this
 ·rw[bV (by lia),bV (by lia)]
theorem cZy{α:Type}[DecidableEq α](ds es:List α)(n m:Nat)(hn:n=ds.length)(hm:m=es.length):((a7 (min n m)).all (λj=>decide (ds[j]?=es[j]?))&&(n==m))=decide (ds=es):=by
 subst hn;subst hm
 by_cases h:ds=es
 ·subst h;simp
 ·rw[decide_eq_false h,Bool.and_eq_false_iff]
  by_cases hl:ds.length=es.length
  ·left
   cases q:(a7 (min ds.length es.length)).all λj=>decide (ds[j]?=es[j]?) with
   |false=>rfl
   |true=>exact absurd (eXm ds es q hl) h
  ·right;simpa using hl
variable{α β γ:Type}
end L2
namespace ST
open PySem PySem.SetTable
def step(mask:Nat)(p:Probe):Probe :=
 if p.more>0 then {p with j:=p.j+1,more:=p.more-1} else
 {p with j:=(leap mask p.i p.perturb).1,more:=runEnd mask (leap mask p.i p.perturb).1-(leap mask p.i p.perturb).1,i:=(leap mask p.i p.perturb).1,perturb:=(leap mask p.i p.perturb).2}
theorem bQ9(t:aT)(p:Probe):t.advance p=step t.mask p:=by
 unfold aT.advance step
 split <;> rfl
def road(mask:Nat):Nat->Probe->Probe
 |0,p=>p
 |m+1,p=>road mask m (step mask p)
theorem aJk(mask:Nat):∀(m:Nat) (p:Probe),road mask (m+1) p=step mask (road mask m p)
 |0,_=>rfl
 |m+1,p=>by
  show road mask (m+1) (step mask p)=step mask (road mask m (step mask p));exact aJk mask m (step mask p)
theorem aQo(mask:Nat):∀(a b:Nat) (p:Probe),road mask (a+b) p=road mask b (road mask a p)
 |0,b,p=>by rw[Nat.zero_add];rfl
 |a+1,b,p=>by
  rw[Nat.add_right_comm];show road mask (a+b) (step mask p)=road mask b (road mask a (step mask p));exact aQo mask a b _
theorem bQa(mask:Nat)(p:Probe):(step mask p).dummy=p.dummy:=by unfold step;split <;> rfl
theorem aJl(mask i:Nat)(h:i<=mask):i<=runEnd mask i/\runEnd mask i<=mask/\runEnd mask i<=i+9:=by
 unfold runEnd;split <;> lia
structure PV(mask:Nat)(p:Probe):Prop where
 more:p.more<=9
 i:p.i<=mask
 j:p.j+p.more<=mask
 pt:p.perturb<2^64
theorem bXl(mask i pt:Nat):(leap mask i pt).1<=mask:=by
 unfold leap
 have:=Nat.mod_lt (i*5+1+pt/32) (show 0<mask+1 by lia)
 show(i*5+1+pt/32)%(mask+1)<=mask;lia
theorem PV.step{mask:Nat}{p:Probe}(v:PV mask p):PV mask (ST.step mask p):=by
 unfold ST.step;have h1:=v.more;have h2:=v.i;have B:=v.j;have z:=v.pt
 split
 ·exact⟨by dsimp only;lia,h2,by dsimp only;lia,z⟩
 ·have l:=bXl mask p.i p.perturb;have r:=aJl mask _ l;refine⟨by dsimp only;lia,l,by dsimp only;lia,?_⟩
  show p.perturb/32<2^64;exact Nat.lt_of_le_of_lt (Nat.div_le_self _ _) z
theorem PV.road{mask:Nat}:∀(m:Nat) {p:Probe},PV mask p->PV mask (ST.road mask m p)
 |0,_,v=>v
 |m+1,_,v=>PV.road m v.step
theorem dJ8(h:Int):bits h<2^64:=by
 unfold bits;have h1:=Int.emod_nonneg h (show(2^64:Int)≠0 by decide)
 have h2:=Int.emod_lt_of_pos h (show(0:Int)<2^64 by decide)
 have:(2:Int)^64=18446744073709551616:=by decide
 have:(2:Nat)^64=18446744073709551616:=by decide
 lia
def start(mask:Nat)(h:Int):Probe:={j:=bits h%(mask+1),more:=runEnd mask (bits h%(mask+1))-bits h%(mask+1),i:=bits h%(mask+1),perturb:=bits h,dummy:=none}
theorem aX7(mask:Nat)(h:Int):PV mask (start mask h):=by
 have l:bits h%(mask+1)<=mask:=Nat.le_of_lt_succ (Nat.mod_lt _ (Nat.succ_pos mask));have r:=aJl mask _ l;exact⟨by show _-_<=9;lia,l,by show bits h%(mask+1)+(runEnd mask (bits h%(mask+1))-bits h%(mask+1))<=mask;lia,dJ8 h⟩
theorem cZz(mask:Nat):∀(k:Nat) (p:Probe),k<=p.more->road mask k p={p with j:=p.j+k,more:=p.more-k}
 |0,p,_=>rfl
 |k+1,p,h=>by
  show road mask k (step mask p)=_;have e:step mask p={p with j:=p.j+1,more:=p.more-1}:=by unfold step;rw[if_pos (by lia)]
  rw[e,cZz mask k _ (by show k<=p.more-1;lia)]
  show({j:=p.j+1+k,more:=p.more-1-k,i:=p.i,perturb:=p.perturb,dummy:=p.dummy}:Probe)={j:=p.j+(k+1),more:=p.more-(k+1),i:=p.i,perturb:=p.perturb,dummy:=p.dummy};rw[show p.j+1+k=p.j+(k+1) by lia,show p.more-1-k=p.more-(k+1) by lia]
theorem cX0(mask:Nat)(p:Probe):road mask (p.more+1) p={p with j:=(leap mask p.i p.perturb).1,more:=runEnd mask (leap mask p.i p.perturb).1-(leap mask p.i p.perturb).1,i:=(leap mask p.i p.perturb).1,perturb:=(leap mask p.i p.perturb).2}:=by
 rw[aJk,cZz mask p.more p (Nat.le_refl _)];unfold step;rw[if_neg (by show ¬ p.more-p.more>0;lia)]
def aZa(mask:Nat):Nat->Nat×Nat->Nat×Nat
 |0,s=>s
 |l+1,s=>aZa mask l (leap mask s.1 s.2)
theorem aZe(mask:Nat):∀(l:Nat) (s:Nat×Nat),aZa mask (l+1) s=leap mask (aZa mask l s).1 (aZa mask l s).2
 |0,_=>rfl
 |l+1,s=>by
  show aZa mask (l+1) (leap mask s.1 s.2)=_;exact aZe mask l _
theorem bQq(mask:Nat):∀(l:Nat) (s:Nat×Nat),(aZa mask l s).2=s.2/32^l
 |0,s=>by simp[aZa]
 |l+1,s=>by
  rw[aZe];show(aZa mask l s).2/32=_;rw[bQq mask l s,Nat.div_div_eq_div_mul,Nat.pow_succ]
theorem far(mask:Nat):∀(l:Nat) (p:Probe),PV mask p->∃m,m<=10*l/\(road mask m p).i=(aZa mask l (p.i,p.perturb)).1/\(road mask m p).perturb=(aZa mask l (p.i,p.perturb)).2/\(0<l->(road mask m p).j=(road mask m p).i)
 |0,p,_=>⟨0,Nat.le_refl _,rfl,rfl,λh=>absurd h (Nat.lt_irrefl _)⟩
 |l+1,p,v=>by
  obtain⟨m,h1,h2,B,D⟩:=far mask l p v;have z:=PV.road m v;refine⟨m+((road mask m p).more+1),?_,?_⟩
  ·have:=z.more;lia
  ·rw[aQo,cX0,aZe,<- h2,<- B];exact⟨rfl,rfl,λ_=>rfl⟩
def f5(N x:Nat):Nat:=(x*5+1)%N
def f5s(N:Nat):Nat->Nat->Nat
 |0,x=>x
 |a+1,x=>f5s N a (f5 N x)
theorem bQr(N:Nat):∀(a b x:Nat),f5s N (a+b) x=f5s N b (f5s N a x)
 |0,b,x=>by rw[Nat.zero_add];rfl
 |a+1,b,x=>by rw[Nat.add_right_comm];exact bQr N a b _
def dJ9(N:Nat):Nat->Nat->List Nat->List Nat
 |0,_,acc=>acc
 |a+1,x,acc=>dJ9 N a (f5 N x) (x::acc)
theorem bZp(N:Nat):∀(a x:Nat) (acc:List Nat) (y:Nat),y∈dJ9 N a x acc->y∈acc\/∃b,b<a/\f5s N b x=y
 |0,_,_,_,h=>.inl h
 |a+1,x,acc,y,h=>by
  rcases bZp N a (f5 N x) (x::acc) y h with h|⟨b,i,e⟩
  ·rcases aK.mp h with h|h
   ·exact .inr ⟨0,Nat.succ_pos _,h.symm⟩
   ·exact .inl h
  ·exact .inr ⟨b+1,Nat.succ_lt_succ i,e⟩
def Full(N:Nat):Prop:=f5s N N 0=0/\∀y,y<N->∃b,b<N/\f5s N b 0=y
theorem bQs{N:Nat}(h:(f5s N N 0==0&&(a7 N).all λy=>(dJ9 N N 0 []).contains y)=true):Full N:=by
 simp only[a6,beq_iff_eq,bF,aZ] at h;refine⟨h.1,λy i=>?_⟩;have q:=h.2 y i;rcases bZp N N 0 [] y (by simpa using q) with z|z
 ·cases z
 ·exact z
theorem Full.from{N:Nat}(F:Full N){x y:Nat}(hx:x<N)(hy:y<N):∃a,a<N/\f5s N a x=y:=by
 obtain⟨b,z,j⟩:=F.2 x hx;obtain⟨c,v,i⟩:=F.2 y hy
 by_cases h:b<=c
 ·refine⟨c-b,by lia,?_⟩
  rw[<- j,<- bQr,show b+(c-b)=c by lia,i]
 ·refine⟨N-b+c,by lia,?_⟩
  rw[<- j,<- bQr,show b+(N-b+c)=N+c by lia,bQr,F.1,i]
theorem fZ4:Full 8:=bQs (by decide +kernel)
theorem eXn:Full 32:=bQs (by decide +kernel)
theorem dJa:Full 128:=bQs (by decide +kernel)
theorem dJb:Full 512:=bQs (by decide +kernel)
def Mask(mask:Nat):Prop:=mask=7\/mask=31\/mask=127\/mask=511
theorem Mask.full{mask:Nat}(h:Mask mask):Full (mask+1):=by
 rcases h with rfl|rfl|rfl|rfl
 ·exact fZ4
 ·exact eXn
 ·exact dJa
 ·exact dJb
theorem bQt{mask:Nat}:∀(a:Nat) (s:Nat×Nat),s.2<32->(aZa mask a s).1=f5s (mask+1) a s.1
 |0,_,_=>rfl
 |a+1,s,h=>by
  show(aZa mask a (leap mask s.1 s.2)).1=f5s (mask+1) a (f5 (mask+1) s.1);have e:s.2/32=0:=Nat.div_eq_of_lt h;have i:(leap mask s.1 s.2).1=f5 (mask+1) s.1:=by
   show(s.1*5+1+s.2/32)%(mask+1)=_;rw[e];rfl
  rw[bQt a _ (by show s.2/32<32;lia),i]
theorem aJm(mask:Nat):∀(a b:Nat) (s:Nat×Nat),aZa mask (a+b) s=aZa mask b (aZa mask a s)
 |0,b,s=>by rw[Nat.zero_add];rfl
 |a+1,b,s=>by rw[Nat.add_right_comm];exact aJm mask a b _
theorem eXo{mask:Nat}(hm:Mask mask){p:Probe}(v:PV mask p){y:Nat}(hy:y<=mask):∃m,m<10*(mask+15)/\(road mask m p).j=y:=by
 have z:(aZa mask 12 (p.i,p.perturb)).1<mask+1:=by
  rw[aZe mask 11];exact Nat.lt_succ_of_le (bXl _ _ _)
 have B:(aZa mask 12 (p.i,p.perturb)).2<32:=by
  rw[bQq]
  have:=v.pt
  show p.perturb/32^12<32;have e:(2:Nat)^64=18446744073709551616:=by decide
  have L:(32:Nat)^12=1152921504606846976:=by decide
  rw[L];lia
 obtain⟨a,N,J⟩:=hm.full.from z (Nat.lt_succ_of_le hy)
 obtain⟨m,h1,h2,_,D⟩:=far mask (12+a) p v;refine⟨m,by lia,?_⟩
 rw[D (by lia),h2,aJm,bQt a _ B,J]
def Ris(xs:List Nat):Prop:=xs.Pairwise (· < ·)
theorem bQu(xs:Array Nat)(j:Nat)(hr:Ris xs.toList):∀(fuel lo hi:Nat),hi-lo<=fuel->lo<=hi->hi<=xs.size->(∀i,i<lo->xs.getD i j<j)->(∀i,hi<=i->i<xs.size->j<=xs.getD i j) ->
  below.go xs j fuel lo hi<=xs.size/\(∀i,i<below.go xs j fuel lo hi->xs.getD i j<j)/\∀i,below.go xs j fuel lo hi<=i->i<xs.size->j<=xs.getD i j
 |0,lo,hi,hf,hl,B,h1,h2=>by
  have e:lo=hi:=by lia
  subst e;exact⟨B,h1,h2⟩
 |fuel+1,lo,hi,hf,hl,B,h1,h2=>by
  unfold below.go
  by_cases v:lo<hi
  ·rw[if_pos v];have mlt:(lo+hi)/2<xs.size:=by lia
   have mono:∀a b,a<=b->b<xs.size->xs.getD a j<=xs.getD b j:=λa b N J=>by
    rcases Nat.lt_or_eq_of_le N with h|h
    ·have q:=(bE.mp hr) a b (by simpa using Nat.lt_trans h J) (by simpa using J) h
     simp only[gw,J,Nat.lt_trans h J,dif_pos];simpa using Nat.le_of_lt q
    ·subst h;exact Nat.le_refl _
   show(if xs.getD ((lo+hi)/2) j<j then _ else _)<=_/\_
   by_cases D:xs.getD ((lo+hi)/2) j<j
   ·simp only[D,if_true];exact bQu xs j hr fuel _ hi (by lia) (by lia) B (λi z=>Nat.lt_of_le_of_lt (mono i ((lo+hi)/2) (by lia) mlt) D) h2
   ·simp only[D,if_false];exact bQu xs j hr fuel lo _ (by lia) (by lia) (by lia) h1 (λi z L=>Nat.le_trans (Nat.le_of_not_lt D) (mono _ i z L))
  ·rw[if_neg v];have e:lo=hi:=by lia
   subst e;exact⟨B,h1,h2⟩
theorem bQb{xs:Array Nat}(hr:Ris xs.toList)(j:Nat):below xs j<=xs.size/\(∀i,i<below xs j->xs.getD i j<j)/\∀i,below xs j<=i->i<xs.size->j<=xs.getD i j :=
 bQu xs j hr xs.size 0 xs.size (by lia) (by lia) (Nat.le_refl _) (λi h=>absurd h (Nat.not_lt_zero _)) (λi h h'=>absurd h' (Nat.not_lt.mpr h))
theorem dQh{xs:Array Nat}(hr:Ris xs.toList){i j:Nat}(h:xs[i]?=some j):below xs j=i:=by
 obtain⟨hi,e⟩:=dl.mp h;obtain⟨Y,J,D⟩:=bQb hr j;have U:∀k,k<xs.size->xs.getD k j=xs.getD k 0:=λk B=>by simp[gw,B]
 have O:xs.getD i j=j:=by simp[gw,hi,e]
 have inc:∀a b,a<b->b<xs.size->xs.getD a j<xs.getD b j:=λa b v z=>by
  have q:=(bE.mp hr) a b (by simpa using Nat.lt_trans v z) (by simpa using z) v
  simp only[gw,z,Nat.lt_trans v z,dif_pos];simpa using q
 rcases Nat.lt_trichotomy (below xs j) i with h|h|h
 ·have N:=inc _ _ h hi;have L:=D _ (Nat.le_refl _) (Nat.lt_trans h hi);lia
 ·exact h
 ·have q:=J i h;lia
structure Tab(t:aT):Prop where
 mask:Mask t.mask
 nodum:t.dummies=#[]
 ris:Ris t.place.toList
 top:∀j∈t.place.toList,j<=t.mask
theorem bXm{t:aT}(T:Tab t){j i:Nat}(h:t.place[i]?=some j):t.slot j=.live i:=by
 unfold aT.slot;dsimp only;rw[dQh T.ris h,h];simp
theorem cX1{t:aT}(T:Tab t){j:Nat}(h:j∉t.place.toList):t.slot j=.empty:=by
 unfold aT.slot;dsimp only;have e:(t.place[below t.place j]?==some j)=false:=by
  cases q:t.place[below t.place j]?==some j with
  |false=>rfl
  |true =>
   have:=fQ q
   obtain⟨hi,e⟩:=dl.mp this;exact absurd (by rw[<- e];simp) h
 rw[e];simp only[aN,if_false];have i:has t.dummies j=false:=by rw[T.nodum];unfold has;simp
 rw[i];simp
theorem cQx{t:aT}(T:Tab t)(j:Nat):(∃i,t.slot j=.live i/\t.place[i]?=some j)\/(t.slot j=.empty/\j∉t.place.toList):=by
 by_cases h:j∈t.place.toList
 ·obtain⟨i,hi,e⟩:=be h;have q:t.place[i]?=some j:=by
   rw[dl];exact⟨by simpa using hi,by simpa using e⟩
  exact .inl ⟨i,bXm T q,q⟩
 ·exact .inr ⟨cX1 T h,h⟩
theorem cX2{t:aT}(T:Tab t)(hashAt:Nat->Int)(h:Int):∀(fuel:Nat) (p:Probe),p.dummy=none->(∃m,m<fuel/\(road t.mask m p).j∉t.place.toList) ->
    ∃m,m<fuel/\(∀m',m'<m->∃i,t.place[i]? =some (road t.mask m' p).j/\hashAt i≠h) /\
      (((road t.mask m p).j ∉ t.place.toList /\ probe.go t hashAt h fuel p=some (.empty (road t.mask m p).j none)) \/
       ∃i,t.place[i]? =some (road t.mask m p).j/\t.slot (road t.mask m p).j=.live i/\hashAt i=h/\probe.go t hashAt h fuel p=some (.candidate (road t.mask m p).j i (road t.mask (m+1) p)))
  |0,p,_,⟨m,hm,_⟩ =>absurd hm (Nat.not_lt_zero _)
  |fuel+1,p,hd,⟨m,hm,hf⟩ =>by
    unfold probe.go;rcases cQx T p.j with⟨i,e,q⟩|⟨e,q⟩
    · rw [e]
      dsimp only
      by_cases hh:hashAt i=h
      · refine⟨0,Nat.succ_pos _,λ_ h' =>absurd h' (Nat.not_lt_zero _),.inr ⟨i,q,e,hh,?_⟩⟩
        rw [if_pos (by simpa using hh),bQ9]
        rfl
      · rw [if_neg (by simpa using hh),bQ9]
        cases m with
        |zero =>exact absurd (dN.mpr (e9 q)) hf
        |succ m =>
          obtain⟨v,h1,h2,B⟩:=cX2 T hashAt h fuel (step t.mask p) (by rw [bQa]; exact hd) ⟨m,by lia,hf⟩
          refine⟨v+1,by lia,λm' z =>?_,B⟩
          cases m' with
          |zero =>exact⟨i,q,hh⟩
          |succ m' =>exact h2 m' (by lia)
    · rw [e]
      exact⟨0,Nat.succ_pos _,λ_ h' =>absurd h' (Nat.not_lt_zero _),.inl ⟨q,by rw [hd]; rfl⟩⟩
theorem bQc{t:aT}(T:Tab t)(hn:t.place.size<=t.mask):∃y,y<=t.mask/\y∉t.place.toList:=by
 apply aY;intro j;have all:∀y,y<t.mask+1->y∈t.place.toList:=λy i=>aY λh=>j ⟨y,Nat.le_of_lt_succ i,h⟩;have hl:(a7 (t.mask+1)).length<=t.place.toList.length:=by
  apply fL.length_le_of_subset List.nodup_range;intro y i;exact all y (aZ.mp i)
 rw[b9] at hl
 have:t.place.toList.length=t.place.size:=by simp
 lia
theorem cQy{t:aT}(T:Tab t)(hn:t.place.size<=t.mask)(hashAt:Nat->Int)(h:Int){p:Probe}(v:PV t.mask p)(hd:p.dummy=none) :
    ∃m,(∀m',m'<m->∃i,t.place[i]? =some (road t.mask m' p).j/\hashAt i≠h) /\
      (((road t.mask m p).j ∉ t.place.toList /\ t.probe hashAt h p=some (.empty (road t.mask m p).j none)) \/
       ∃i,t.place[i]? =some (road t.mask m p).j/\t.slot (road t.mask m p).j=.live i/\hashAt i=h/\t.probe hashAt h p=some (.candidate (road t.mask m p).j i (road t.mask (m+1) p))):=by
  obtain⟨y,B,hf⟩:=bQc T hn;obtain⟨m,hm,e⟩:=eXo T.mask v B;obtain⟨z,_,h2,D⟩:=cX2 T hashAt h (10*turns t.mask) p hd ⟨m,hm,by rw [e]; exact hf⟩
  exact⟨z,h2,D⟩
end ST
set_option autoImplicit false
namespace ST
open PySem PySem.SetTable
theorem aX8{α:Type}(xs:Array α)(p:Nat)(x:α)(h:p<=xs.size):(insertAt xs p x).toList=xs.toList.take p++x::xs.toList.drop p:=by
 unfold insertAt;simp only[cr,ca,Array.toList_extract,aV,List.singleton_append];simp only[List.extract,f7,Nat.sub_zero];rw[bi (l:=List.drop p xs.toList) (by simp)]
theorem aZx{α:Type}{l:List α}{p i:Nat}{x y:α}(hp:p<=l.length)(h:(l.take p++x::l.drop p)[i]?=some y):(i<p/\l[i]?=some y)\/(i=p/\y=x)\/(p<i/\l[i-1]?=some y):=by
 have hl:(l.take p).length=p:=by rw[aR];lia
 rcases Nat.lt_trichotomy i p with c|c|c
 ·left
  rw[dG (by lia),fB c] at h
  exact⟨c,h⟩
 ·right;left
  subst c;rw[bU (by lia),hl,Nat.sub_self] at h
  simp at h;exact⟨rfl,h.symm⟩
 ·right;right
  rw[bU (by lia),hl] at h
  rw[show i-p=(i-1-p)+1 by lia,iH,g7] at h
  rw[show p+(i-1-p)=i-1 by lia] at h
  exact⟨c,h⟩
structure SetI(es:Array (Int×ad))(t:aT):Prop where
 tab:Tab t
 size:t.place.size=es.size
 room:es.size*5<t.mask*3
 reach:∀(i j:Nat) (e:Int×ad),t.place[i]?=some j->es[i]?=some e->∃r,(road t.mask r (start t.mask e.1)).j=j/\∀r',r'<r->(road t.mask r' (start t.mask e.1)).j∈t.place.toList
theorem SetI.le{es:Array (Int×ad)}{t:aT}(I:SetI es t):t.place.size<=t.mask:=by have:=I.size;have:=I.room;lia
theorem SetI.fits{es:Array (Int×ad)}{t:aT}(I:SetI es t):t.fits es.size=true:=by
 unfold jz jA;rw[I.tab.nodum,I.size]
 have:=I.room
 simp only[a6,beq_iff_eq,decide_eq_true_eq];refine⟨trivial,?_⟩;simp;lia
theorem SetI.way{es:Array (Int×ad)}{t:aT}(I:SetI es t):t.gaveWay=false:=by
 unfold aT.gaveWay;rcases I.tab.mask with e|e|e|e <;> rw[e] <;> rfl
theorem dQi(f m:Nat)(led:Bool):SetI #[] (jj f m led) where
 tab:=⟨.inl rfl,rfl,.nil,λj h=>by simp[jj] at h⟩
 size:=rfl
 room:=by show 0*5<7*3;decide
 reach:=λi j e h=>by simp[jj] at h
structure Put(t t':aT)(j p:Nat):Prop where
 tab:Tab t'
 mask:t'.mask=t.mask
 le:p<=t.place.size
 place:t'.place.toList=t.place.toList.take p++j::t.place.toList.drop p
theorem eXp{t:aT}(T:Tab t){j:Nat}(hj:j<=t.mask)(hf:j∉t.place.toList):Put t (t.put j).1 j (t.put j).2:=by
 obtain⟨U,b2,Z⟩:=bQb T.ris j;have e:(t.put j).1.place.toList=t.place.toList.take (below t.place j)++j::t.place.toList.drop (below t.place j):=aX8 _ _ _ U;have Y:(t.put j).1.dummies=#[]:=by
  show(if has t.dummies j=true then _ else t.dummies)=#[]
  have q:has t.dummies j=false:=by rw[T.nodum];unfold has;simp
  rw[q];simp[T.nodum]
 refine⟨⟨T.mask,Y,?_,?_⟩,rfl,U,e⟩
 ·unfold Ris;rw[e,a9,bz];have N:=T.ris;unfold Ris at N;have D:∀a∈t.place.toList.take (below t.place j),a<j:=λa v=>by
   obtain⟨i,hi,L⟩:=be v;rw[aR] at hi;have B:i<t.place.size:=by (have:t.place.toList.length=t.place.size:=by simp);lia
   have q:=b2 i (by lia)
   simp only[gw,B,dif_pos] at q;rw[f8] at L;rw[<- L];simpa using q
  have J:∀a∈t.place.toList.drop (below t.place j),j<a:=λa v=>by
   obtain⟨i,hi,L⟩:=be v;rw[bo] at hi;have hl:t.place.toList.length=t.place.size:=by simp
   have B:below t.place j+i<t.place.size:=by lia
   have q:=Z (below t.place j+i) (by lia) B
   simp only[gw,B,dif_pos] at q;rw[f9] at L;have ne:a≠j:=λz=>hf (by rw[<- z];exact da v)
   have q':j<=a:=by rw[<- L];simpa using q
   lia
  refine⟨N.sublist (dj _ _),⟨J,N.sublist (List.drop_sublist _ _)⟩,λa v b O=>?_⟩;rcases aK.mp O with rfl|O
  ·exact D a v
  ·exact Nat.lt_trans (D a v) (J b O)
 ·intro a v;rw[e] at v;rcases aP.mp v with v|v
  ·exact T.top a (cL v)
  ·rcases aK.mp v with rfl|v
   ·exact hj
   ·exact T.top a (da v)
theorem put_set{es:Array (Int×ad)}{t:aT}(I:SetI es t){j r:Nat}{h:Int}{x:ad}(hj:j<=t.mask)(hf:j∉t.place.toList)(e:(road t.mask r (start t.mask h)).j=j)(hr:∀r',r'<r->(road t.mask r' (start t.mask h)).j∈t.place.toList) :
  ∀b,(insertAt es (t.put j).2 (h,x)).toList=es.toList.take (t.put j).2++(h,x)::es.toList.drop (t.put j).2/\(insertAt es (t.put j).2 (h,x)).size=es.size+1 /\
   Tab { (t.put j).1 with plain:=b}/\(t.put j).1.place.size=es.size+1/\(t.put j).1.mask=t.mask /\
   ∀(i j':Nat) (e':Int×ad),(t.put j).1.place[i]?=some j'->(insertAt es (t.put j).2 (h,x))[i]?=some e'->∃r,(road t.mask r (start t.mask e'.1)).j=j'/\∀r',r'<r->(road t.mask r' (start t.mask e'.1)).j∈(t.put j).1.place.toList:=by
 intro b;have P:=eXp I.tab hj hf;have hle:(t.put j).2<=es.size:=by rw[<- I.size];exact P.le
 have el:=aX8 es (t.put j).2 (h,x) hle;have sz:(insertAt es (t.put j).2 (h,x)).size=es.size+1:=by
  have q:=congrArg fN el;rw[aA,bG,aR,bo] at q
  have:es.toList.length=es.size:=by simp
  rw[show(insertAt es (t.put j).2 (h,x)).toList.length=(insertAt es (t.put j).2 (h,x)).size by simp] at q
  lia
 have O:(t.put j).1.place.size=es.size+1:=by
  have q:=congrArg fN P.place;rw[aA,bG,aR,bo] at q
  have:t.place.toList.length=t.place.size:=by simp
  have:=I.size
  have:=P.le
  rw[show(t.put j).1.place.toList.length=(t.put j).1.place.size by simp] at q
  lia
 refine⟨el,sz,⟨P.tab.mask,P.tab.nodum,P.tab.ris,P.tab.top⟩,O,P.mask,λi j' e' h1 h2=>?_⟩;have sub:∀a∈t.place.toList,a∈(t.put j).1.place.toList:=λa L=>by
  rw[P.place];rw[<- bb (t.put j).2 t.place.toList] at L;rcases aP.mp L with L|L
  ·exact cy _ L
  ·exact a8 _ (ay _ L)
 have old:∀N,t.place.toList[N]?=some j'->es.toList[N]?=some e'->∃r,(road t.mask r (start t.mask e'.1)).j=j'/\∀r',r'<r->(road t.mask r' (start t.mask e'.1)).j∈(t.put j).1.place.toList:=λN a b=>by
  obtain⟨r,B,v⟩:=I.reach N j' e' (by rw[<- aL];exact a) (by rw[<- aL];exact b)
  exact⟨r,B,λr' D=>sub _ (v r' D)⟩
 have U:(t.place.toList.take (t.put j).2++j::t.place.toList.drop (t.put j).2)[i]?=some j':=by rw[<- P.place];simpa using h1
 have J:(es.toList.take (t.put j).2++(h,x)::es.toList.drop (t.put j).2)[i]?=some e':=by rw[<- el];simpa using h2
 rcases aZx (by simpa using P.le) U with⟨Y,B⟩|⟨Y,B⟩|⟨Y,B⟩
 ·rcases aZx (by simpa using hle) J with⟨z,v⟩|⟨z,v⟩|⟨z,v⟩
  ·exact old i B v
  ·lia
  ·lia
 ·rcases aZx (by simpa using hle) J with⟨z,v⟩|⟨z,v⟩|⟨z,v⟩
  ·lia
  ·subst B v;exact⟨r,e,λr' D=>sub _ (hr r' D)⟩
  ·lia
 ·rcases aZx (by simpa using hle) J with⟨z,v⟩|⟨z,v⟩|⟨z,v⟩
  ·lia
  ·lia
  ·exact old (i-1) B v
abbrev Own:=Array (Option Nat)
def liveOf(mask:Nat)(owner:Own):List (Nat×Nat):=(a7 (mask+1)).filterMap λj=>(owner.getD j none).map (j,·)
theorem aQz{α β:Type}{f g:α->Option β}:∀{l:List α},(∀a∈l,f a=g a)->l.filterMap f=l.filterMap g
 |[],_=>rfl
 |a::l,h=>by
  rw[cq,cq,h a aq,aQz λb i=>h b (ay _ i)]
theorem dQj{mask:Nat}{owner:Own}{j k:Nat}(hs:owner.size=mask+1)(hj:j<=mask)(hn:owner.getD j none=none):(liveOf mask (owner.setIfInBounds j (some k))).Perm ((j,k)::liveOf mask owner):=by
 unfold liveOf;obtain⟨s,u,e⟩:=List.append_of_mem (aZ.mpr (Nat.lt_succ_of_le hj));have nd:(a7 (mask+1)).Nodup:=List.nodup_range;rw[e] at nd ⊢;have h1:j∉s:=λh=>by
  have:=eC.mp nd
  exact absurd rfl (this.2.2 j h j aq)
 have h2:j∉u:=λh=>by
  have:=eC.mp nd
  exact(bZ.mp this.2.1).1 h
 have g:∀a,a≠j->(owner.setIfInBounds j (some k)).getD a none=owner.getD a none:=λa i=>by
  rw[bO,bO,gj (cz i)]
 have v:(owner.setIfInBounds j (some k)).getD j none=some k:=by
  rw[bO,fh (by lia)];rfl
 rw[gk,gk,cq,cq,v,hn];simp only[Option.map_some,Option.map_none];rw[aQz (l:=s) (g:=λj=>(owner.getD j none).map (j,·)) λa i=>by rw[g a λz=>h1 (z▸i)],aQz (l:=u) (g:=λj=>(owner.getD j none).map (j,·)) λa i=>by rw[g a λz=>h2 (z▸i)]]
 exact fx
theorem bJv{owner:Own}{j:Nat}(h:j<owner.size)(d:Option Nat):owner.getD j d=owner[j]:=by simp[gw,h]
theorem bZq{mask:Nat}{owner:Own}(hs:owner.size=mask+1):∀(fuel:Nat) (p:Probe),PV mask p->p.j=p.i->p.more=runEnd mask p.i-p.i->(∃l,l<fuel/\owner.getD (aZa mask l (p.i,p.perturb)).1 none=none) ->
  ∃r j,layClean.free mask owner fuel p.i p.perturb=some j/\(road mask r p).j=j/\j<=mask/\owner.getD j none=none/\∀r',r'<r->(owner.getD (road mask r' p).j none).isSome=true
 |0,p,_,_,_,⟨l,h,_⟩=>absurd h (Nat.not_lt_zero _)
 |fuel+1,p,v,O,hm,⟨l,hl,hf⟩=>by
  have re:=aJl mask p.i v.i;have jm:=v.j;have D:∀k,k<=p.more->p.i+k<=mask:=λk B=>by lia
  have gd:∀k,k<=p.more->owner.getD (p.i+k) (some 0)=owner.getD (p.i+k) none:=λk B=>by
   have:p.i+k<owner.size:=by have:=D k B;lia
   rw[bJv this,bJv this]
  have rd:∀k,k<=p.more->(road mask k p).j=p.i+k:=λk B=>by rw[cZz mask k p B,<- O]
  unfold layClean.free;have Z:runEnd mask p.i+1-p.i=p.more+1:=by lia
  rw[Z];cases hq:(a7 (p.more+1)).find? λk=>(owner.getD (p.i+k) (some 0)).isNone with
  |some k =>
   rw[List.find?_range_eq_some] at hq;obtain⟨h1,h2,U⟩:=hq;have B:k<=p.more:=Nat.le_of_lt_succ (aZ.mp h2);refine⟨k,p.i+k,rfl,rd k B,D k B,?_,λr' J=>?_⟩
   ·rw[gd k B] at h1;exact Option.isNone_iff_eq_none.mp h1
   ·have q:=U r' J;rw[gd r' (by lia)] at q
    rw[rd r' (by lia)]
    cases e:owner.getD (p.i+r') none with
    |none=>rw[e] at q;cases q
    |some z=>rfl
  |none =>
   rw[List.find?_eq_none] at hq;have taken:∀k,k<=p.more->(owner.getD (p.i+k) none).isSome=true:=λk B=>by
    have q:=hq k (aZ.mpr (Nat.lt_succ_of_le B));rw[gd k B] at q;cases e:owner.getD (p.i+k) none with
    |none=>rw[e] at q;exact absurd rfl q
    |some z=>rfl
   cases l with
   |zero =>
    have q:=taken 0 (Nat.zero_le _);have L:owner.getD p.i none=none:=hf;rw[Nat.add_zero,L] at q;cases q
   |succ l =>
    have e:=cX0 mask p;have N:PV mask (road mask (p.more+1) p):=PV.road _ v;obtain⟨r,j,f1,f2,Y,f4,f5⟩:=bZq hs fuel (road mask (p.more+1) p) N (by rw[e]) (by rw[e]) ⟨l,by lia,by rw[e];exact hf⟩
    refine⟨p.more+1+r,j,?_,by rw[aQo];exact f2,Y,f4,λr' J=>?_⟩
    ·rw[e] at f1;exact f1
    ·by_cases c:r'<=p.more
     ·rw[rd r' c];exact taken r' c
     ·have q:=f5 (r'-(p.more+1)) (by lia)
      rw[<- aQo,show p.more+1+(r'-(p.more+1))=r' by lia] at q
      exact q
structure OwnI(mask:Nat)(owner:Own)(hs:List Int):Prop where
 size:owner.size=mask+1
 perm:((liveOf mask owner).map (·.2)).Perm (a7 hs.length)
 reach:∀(j k:Nat),owner.getD j none=some k->∃h,hs[k]?=some h/\∃r,(road mask r (start mask h)).j=j/\∀r',r'<r->(owner.getD (road mask r' (start mask h)).j none).isSome=true
theorem OwnI.free{mask:Nat}(hm:Mask mask){owner:Own}{hs:List Int}(I:OwnI mask owner hs)(hl:hs.length<=mask):∃y,y<=mask/\owner.getD y none=none:=by
 apply aY;intro v;have all:∀y,y<mask+1->(owner.getD y none).isSome=true:=λy i=>by
  cases e:owner.getD y none with
  |none=>exact absurd ⟨y,Nat.le_of_lt_succ i,e⟩ v
  |some z=>rfl
 have len:((a7 (mask+1)).filterMap λj=>(owner.getD j none).map (j,·)).length=mask+1:=by
  have gen:∀l:List Nat,(∀y∈l,(owner.getD y none).isSome=true)->(l.filterMap λj=>(owner.getD j none).map (j,·)).length=l.length:=by
   intro l
   induction l with
   |nil=>intro _;rfl
   |cons a l B =>
    intro h;obtain⟨z,e⟩:=cF.mp (h a aq);rw[cq,e];simp only[Option.map_some,bG];rw[B λy i=>h y (ay _ i)]
  rw[gen _ λy i=>all y (aZ.mp i),b9]
 have q:=I.perm.length_eq;rw[am,b9] at q;unfold liveOf at q;lia
theorem cX3{mask:Nat}(hm:Mask mask){owner:Own}{y:Nat}(hy:y<=mask)(hf:owner.getD y none=none)(p:Probe)(v:PV mask p):∃l,l<turns mask/\owner.getD (aZa mask l (p.i,p.perturb)).1 none=none:=by
 have j:(aZa mask 12 (p.i,p.perturb)).1<mask+1:=by rw[aZe mask 11];exact Nat.lt_succ_of_le (bXl _ _ _)
 have z:(aZa mask 12 (p.i,p.perturb)).2<32:=by
  rw[bQq]
  have:=v.pt
  show p.perturb/32^12<32;have e:(2:Nat)^64=18446744073709551616:=by decide
  have D:(32:Nat)^12=1152921504606846976:=by decide
  rw[D];lia
 obtain⟨a,J,B⟩:=hm.full.from j (Nat.lt_succ_of_le hy)
 refine⟨12+a,by unfold turns;lia,?_⟩
 rw[aJm,bQt a _ z,B];exact hf
def cX4(mask:Nat)(acc:Option (Own×Nat))(h:Int):Option (Own×Nat):=do
 let (owner,k) <- acc
 let j <- layClean.free mask owner (turns mask) (bits h%(mask+1)) (bits h)
 pure (owner.setIfInBounds j (some k),k+1)
theorem bJw{mask:Nat}(hm:Mask mask):∀(hs done:List Int) (owner:Own),OwnI mask owner done->done.length+hs.length<=mask ->
  ∃owner',hs.foldl (cX4 mask) (some (owner,done.length))=some (owner',(done++hs).length)/\OwnI mask owner' (done++hs)
 |[],done,owner,I,_=>⟨owner,by rw[bB];rfl,by rw[bB];exact I⟩
 |h::hs,done,owner,I,hl=>by
  rw[bG] at hl;obtain⟨y,Y,hf⟩:=I.free hm (by lia)
  have v:=aX7 mask h;obtain⟨r,j,f1,f2,f3,f4,f5⟩:=bZq I.size (turns mask) (start mask h) v rfl rfl (cX3 hm Y hf _ v);have L:j<owner.size:=by have:=I.size;lia
  have i:∀a,a≠j->(owner.setIfInBounds j (some done.length)).getD a none=owner.getD a none:=λa N=>by
   rw[bO,bO,gj (cz N)]
  have U:(owner.setIfInBounds j (some done.length)).getD j none=some done.length:=by
   rw[bO,fh L];rfl
  have more:∀a,(owner.getD a none).isSome=true->((owner.setIfInBounds j (some done.length)).getD a none).isSome=true:=λa N=>by
   by_cases c:a=j
   ·rw[c,U];rfl
   ·rw[i a c];exact N
  have I':OwnI mask (owner.setIfInBounds j (some done.length)) (done++[h]):=by
   refine⟨by rw[Array.size_setIfInBounds];exact I.size,?_,λa k e=>?_⟩
   ·have q:=(dQj (k:=done.length) I.size f3 f4).map (·.2);rw[bC] at q;refine q.trans ?_;rw[aA,d6,List.range_succ];exact(I.perm.cons _).trans (g8 _ _).symm
   ·by_cases c:a=j
    ·subst c;rw[U] at e;cases e;refine⟨h,by simp,r,f2,λD J=>more _ (f5 D J)⟩
    ·rw[i a c] at e;obtain⟨h',z,D,B,e3⟩:=I.reach a k e;exact⟨h',by rw[dG (aC.mp z).1];exact z,D,B,λx Z=>more _ (e3 x Z)⟩
  obtain⟨owner',z,B⟩:=bJw hm hs (done++[h]) _ I' (by rw[aA,d6];lia)
  refine⟨owner',?_,by rw[aV] at B;exact B⟩
  rw[List.foldl_cons];have es:cX4 mask (some (owner,done.length)) h=some (owner.setIfInBounds j (some done.length),done.length+1):=by
   show(do let j <- layClean.free mask owner (turns mask) (bits h%(mask+1)) (bits h);pure (owner.setIfInBounds j (some done.length),done.length+1))=_
   have O:layClean.free mask owner (turns mask) (bits h%(mask+1)) (bits h)=some j:=f1;rw[O]
   rfl
  rw[es];rw[aA,d6,aV] at z;exact z
theorem cX5(mask:Nat):OwnI mask (fJ (mask+1) none) [] where
 size:=by simp
 perm:=by
  have e:liveOf mask (fJ (mask+1) none)=[]:=by
   unfold liveOf;rw[List.filterMap_eq_nil_iff];intro a i
   have:(fJ (mask+1) (none:Option Nat)).getD a none=none:=by
    rw[bO,iu];split <;> rfl
   rw[this];rfl
  rw[e];exact dq _
 reach:=λj k e=>by
  have:(fJ (mask+1) (none:Option Nat)).getD j none=none:=by
   rw[bO,iu];split <;> rfl
  rw[this] at e;cases e
theorem bXn{mask:Nat}(hm:Mask mask)(hs:Array Int)(hl:hs.size<=mask):∃owner,layClean mask hs=some owner/\OwnI mask owner hs.toList:=by
 obtain⟨owner,v,i⟩:=bJw hm hs.toList [] _ (cX5 mask) (by simpa using hl)
 refine⟨owner,?_,by simpa using i⟩
 unfold layClean
 have:hs.foldl (init:=some (fJ (mask + 1) (none:Option Nat),0)) (λacc h=>do
  let (owner,k) <- acc
  let j <- layClean.free mask owner (turns mask) (bits h%(mask+1)) (bits h)
  pure (owner.setIfInBounds j (some k),k+1))=some (owner,hs.size):=by
  rw[<- Array.foldl_toList];have q:=v;simp only[bS,dQ] at q;rw[show hs.toList.length=hs.size by simp] at q
  exact q
 rw[this]
 rfl
theorem bJx{α β:Type}{f:α->Option β}:∀{l:List α},(∀a∈l,(f a).isSome=true)->(l.filterMap f).length=l.length/\∀i:Nat,(l.filterMap f)[i]?=(l[i]?).bind f
 |[],_=>⟨rfl,λi=>by simp⟩
 |a::l,h=>by
  obtain⟨z,e⟩:=cF.mp (h a aq);obtain⟨h1,h2⟩:=bJx (l:=l) (f:=f) λb j=>h b (ay _ j);rw[cq,e];refine⟨by simp[h1],λi=>?_⟩
  cases i with
  |zero=>simp[e]
  |succ i=>simpa using h2 i
theorem bJy{mask:Nat}{owner:Own}{j k:Nat}(h:(j,k)∈liveOf mask owner):j<=mask/\owner.getD j none=some k:=by
 unfold liveOf at h;obtain⟨a,i,e⟩:=eW.mp h;cases q:owner.getD a none with
 |none=>rw[q] at e;cases e
 |some z=>rw[q] at e;cases e;exact⟨Nat.le_of_lt_succ (aZ.mp i),q⟩
theorem dQk{mask:Nat}{owner:Own}{j k:Nat}(h1:j<=mask)(h2:owner.getD j none=some k):(j,k)∈liveOf mask owner :=
 eW.mpr ⟨j,aZ.mpr (Nat.lt_succ_of_le h1),by rw[h2];rfl⟩
theorem dQl(mask:Nat)(owner:Own):Ris ((liveOf mask owner).map (·.1)):=by
 unfold Ris liveOf;rw[cV];refine jB.filterMap _ ?_ (ga (n:=mask+1));intro a j i b hb B hb';cases q:owner.getD a none with
 |none=>rw[q] at hb;cases hb
 |some z =>
  rw[q] at hb;cases hb;cases q':owner.getD j none with
  |none=>rw[q'] at hb';cases hb'
  |some v=>rw[q'] at hb';cases hb';exact i
theorem bJz{α:Type}(es:Array α):((a7 es.size).filterMap λk=>es[k]?)=es.toList:=by
 apply ff;intro i;have h:=bJx (l:=a7 es.size) (f:=λk=>es[k]?) (λa j=>by
  have:=aZ.mp j
  simp[this])
 rw[h.2 i]
 by_cases c:i<es.size
 ·rw[gJ c];simp
 ·rw[bV (by simpa using c)];simp[c]
theorem cX6{es:Array (Int×ad)}{mask' wanted:Nat}(t:aT)(hm:Mask mask')(hw:sizeAbove wanted-1=mask')(hsz:es.size*5<mask'*3) :
  ∃t' order,t.relaid (es.map (·.1)) wanted=some (t',order)/\(order.filterMap (es[·]?)).size=es.size/\SetI (order.filterMap (es[·]?)) t'/\(order.filterMap (es[·]?)).toList.Perm es.toList:=by
 obtain⟨owner,e1,I⟩:=bXn hm (es.map (·.1)) (by rw[jl];lia)
 have el:(es.map (·.1)).toList.length=es.size:=by simp
 have D:=I.perm;rw[el] at D;have ks:∀k∈(liveOf mask' owner).map (·.2),(es[k]?).isSome=true:=λk hk=>by
  have:=aZ.mp (D.mem_iff.mp hk)
  simp[this]
 obtain⟨f1,f2⟩:=bJx (f:=λk=>es[k]?) ks;have B:(jc (es[·]?) ((liveOf mask' owner).map (·.2)).toArray).toList=((liveOf mask' owner).map (·.2)).filterMap (λk=>es[k]?):=by simp
 have perm:(jc (es[·]?) ((liveOf mask' owner).map (·.2)).toArray).toList.Perm es.toList:=by
  rw[B,<- bJz es];exact D.filterMap _
 have size:(jc (es[·]?) ((liveOf mask' owner).map (·.2)).toArray).size=es.size:=by
  have:=perm.length_eq
  simpa using this
 refine⟨{mask:=mask',place:=((liveOf mask' owner).map (·.1)).toArray,dummies:=#[],finger:=t.finger,led:=t.led,moves:=t.movedTo mask',plain:=t.plain},((liveOf mask' owner).map (·.2)).toArray,?_,size,?_,perm⟩
 ·unfold relaid laid;rw[hw,e1]
  rfl
 ·refine⟨⟨hm,rfl,?_,λj hj=>?_⟩,?_,?_,λi j e h1 h2=>?_⟩
  ·show Ris ((liveOf mask' owner).map (·.1)).toArray.toList;exact dQl _ _
  ·have L:j∈(liveOf mask' owner).map (·.1):=hj;obtain⟨⟨a,k⟩,h,rfl⟩:=bI.mp L;exact(bJy h).1
  ·rw[size];show((liveOf mask' owner).map (·.1)).toArray.size=es.size
   have:=D.length_eq
   simpa using this
  ·rw[size];exact hsz
  ·have h1':((liveOf mask' owner).map (·.1))[i]?=some j:=by simpa using h1
   have v:(((liveOf mask' owner).map (·.2)).filterMap (λk=>es[k]?))[i]?=some e:=by
    rw[<- B,aL];exact h2
   rw[f2 i] at v;rw[aJ] at h1' v;cases q:(liveOf mask' owner)[i]? with
   |none=>rw[q] at h1';cases h1'
   |some jk =>
    obtain⟨a,k⟩:=jk;rw[q] at h1' v;have ea:a=j:=aQ h1';subst ea;have ek:es[k]?=some e:=v;obtain⟨_,ow⟩:=bJy (ao q);obtain⟨h,U,r,Z,Y⟩:=I.reach a k ow;have N:e.1=h:=by
     have:(es.map (·.1)).toList[k]?=some e.1:=by
      rw[aL,Array.getElem?_map,ek];rfl
     rw[this] at U;exact aQ U
    rw[N];refine⟨r,Z,λO J=>?_⟩;obtain⟨z,ez⟩:=cF.mp (Y O J);have pv:=PV.road O (aX7 mask' h)
    have:=pv.j
    show _∈((liveOf mask' owner).map (·.1)).toArray.toList;exact bI.mpr ⟨_,dQk (by lia) ez,rfl⟩
theorem grow{mask n:Nat}(hm:Mask mask)(h1:n*5<mask*3)(h2:(n+1)*5>=mask*3)(hn:n+1<=300):∃mask',Mask mask'/\sizeAbove (grown (n+1))-1=mask'/\(n+1)*5<mask'*3/\¬ sizeAbove (grown (n+1))>sizeLine:=by
 rcases hm with rfl|rfl|rfl|rfl
 ·have e:n=4:=by lia
  subst e;exact⟨31,.inr (.inl rfl),by decide +kernel,by decide,by decide +kernel⟩
 ·have e:n=18:=by lia
  subst e;exact⟨127,.inr (.inr (.inl rfl)),by decide +kernel,by decide,by decide +kernel⟩
 ·have e:n=76:=by lia
  subst e;exact⟨511,.inr (.inr (.inr rfl)),by decide +kernel,by decide,by decide +kernel⟩
 ·lia
open PySem.Spec PyProof.Rows
section
variable{prog:aF}{w:aS}{A:a4}{E:ad->ak->Prop}{s:ak}
def TK(prog:aF)(w:aS)(h:bd)(k:List Str)(v:ad):Prop:=∃b,v=.ref b/\IsTupleKey (strKind prog w) h k b
theorem TK.inj{h:bd}{k k':List Str}{v:ad}(a:TK prog w h k v)(b:TK prog w h k' v):k=k':=by
 obtain⟨j,rfl,h1⟩:=a;obtain⟨i,e,h2⟩:=b;cases e;exact h1.inj h2
abbrev aQt(prog:aF)(w:aS)(k:List Str):Int:=tupleKeyHash (strKind prog w) k
theorem bQv{k:List Str}{vs:List ad}(h:ItemsAre (strKind prog w) k vs):∀v∈vs,∃x t,v=iz x t:=by
 induction h with
 |nil=>intro v hv;cases hv
 |cons h1 _ i =>
  intro v hv;rcases aK.mp hv with rfl|hv
  ·obtain⟨t,e⟩:=eG h1;exact⟨_,t,e⟩
  ·exact i v hv
theorem cQ0{k:List Str}{v:ad}{Q:Bool->ak->Prop}(hk:TK prog w s.heap k v)(h:Q false s):aG (aE prog w) A (fg 8 v) Q E s:=by
 obtain⟨b,rfl,hk⟩:=hk;have D:=hk.typeIs;obtain⟨o,items,n,B,_,hd,hi⟩:=hk;unfold fg;refine aa (fY D ?_);dsimp only;simp only[beq_self_eq_true,if_true];refine aa (af ?_);simp only[fE,aN,if_false];refine aa (eL B hd ?_);dsimp only;refine aa ?_;show aG _ _ (forIn items _ _) _ _ s;rw[<- Array.forIn_toList];refine iI _ (λrest r s'=>r.1=none/\s'=s/\∀v∈rest,∃x t,v=iz x t) _ ?_ ?_ _ _ ⟨rfl,rfl,bQv hi⟩
 ·rintro x rest r s' ⟨j,rfl,i⟩;obtain⟨y,t,rfl⟩:=i x aq;unfold fg;refine aa (af ?_);simp only[aN,if_false];exact af ⟨rfl,rfl,λu z=>i u (ay _ z)⟩
 ·rintro⟨L,J⟩ s' ⟨j,rfl,_⟩;simp only at j;subst j;exact af h
theorem dZv{k:List Str}{v:ad}{Q:Bool->ak->Prop}(hk:TK prog w s.heap k v)(h:Q true s):aG (aE prog w) A (eqIsQuiet 8 v) Q E s:=by
 obtain⟨b,rfl,hk⟩:=hk;exact wpAny_eqIsQuiet_tuple hk h
theorem dJc{k:List Str}{x:ad}{stored:List ad}{Q:Bool->ak->Prop}(hx:TK prog w s.heap k x)(hs:∀y∈stored,∃k',TK prog w s.heap k' y)(h:Q false s) :
  aG (aE prog w) A (searchCouldBeSeen x stored) Q E s:=by
 unfold searchCouldBeSeen;refine aa (iI _ (λrest r s'=>r.1=none/\s'=s/\∀y∈rest,∃k',TK prog w s.heap k' y) _ ?_ ?_ _ _ ⟨rfl,rfl,hs⟩)
 ·rintro y rest r s' ⟨J,rfl,i⟩;obtain⟨k',D⟩:=i y aq;have fin:∀y∈rest,∃k',TK prog w s'.heap k' y:=λz N=>i z (ay _ N);obtain⟨L,ex,_⟩:=id hx;obtain⟨v,O,_⟩:=id D
  have main:∀ c:Bool,aG (aE prog w) A (if c=true then pure (bh ((none,()):Option Bool × Unit)) else do
    if !(<- eqIsQuiet 8 x) then pure (ba (some true,())) else
    if !(<- eqIsQuiet 8 y) then pure (ba (some true,())) else
    if <- fg 8 x then pure (ba (some true,())) else
    if <- fg 8 y then pure (ba (some true,())) else pure (bh (none,())))
    (λr j=>match r with
     |bh B=>B.fst=none/\j=s'/\∀(y:ad),y∈rest->∃k',TK prog w s'.heap k' y
     |ba B=>False) E s':=by
   intro c;cases c with
   |true=>exact af ⟨rfl,rfl,fin⟩
   |false =>
    simp only[aN,if_false];refine aa (dZv hx ?_);simp only[fE,aN,if_false];refine aa (dZv D ?_);simp only[fE,aN,if_false];refine aa (cQ0 hx ?_);simp only[aN,if_false];refine aa (cQ0 D ?_);simp only[aN,if_false];exact af ⟨rfl,rfl,fin⟩
  rw[ex,O] at main ⊢;dsimp only;refine cT (main ((L==v)||(carriedByValue (.ref L)&&carriedByValue (.ref v)))) (λr s1 h=>?_) (λ_ _ e=>e)
  cases r with
  |yield B=>exact h
  |done B=>exact h.elim
 ·rintro⟨Y,U⟩ s' ⟨J,rfl,_⟩;simp only at J;subst J;exact af h
def ElT(prog:aF)(w:aS)(h:bd)(es:List (Int×ad)):Prop:=∀e∈es,∃k,TK prog w h k e.2/\e.1=aQt prog w k
structure SetAt(h:bd)(a:Addr)(es:Array (Int×ad))(ep:Nat)(t:aT):Prop where
 obj:h.get? a=some {cls:=.type "set",dict:=none,data:=.set es ep t}
 inv:SetI es t
theorem SetAt.state{a:Addr}{es:Array (Int×ad)}{ep:Nat}{t:aT}{Q:(Array (Int×ad)×Nat×aT)->ak->Prop}(S:SetAt s.heap a es ep t)(h:Q (es,ep,t) s):aG (aE prog w) A (setState a) Q E s :=
 dr S.obj rfl S.inv.fits h
theorem bXo{a:Addr}{es:Array (Int×ad)}{ep:Nat}{t:aT}{k:List Str}{x:ad}{adding:Bool}(S:SetAt s.heap a es ep t)(hu:A.units<cB)(hel:ElT prog w s.heap es.toList)(hx:TK prog w s.heap k x)
  {M0:Nat}(hM:(road t.mask M0 (start t.mask (aQt prog w k))).j∉t.place.toList) {Q:SetFound->ak->Prop}
  (hfound:∀i?,(adding=true\/i?.isSome=true)->(∃e∈es.toList,TK prog w s.heap k e.2)->Q (.there i?) s)
  (hfree:∀j r,j<=t.mask->j∉t.place.toList->(road t.mask r (start t.mask (aQt prog w k))).j=j->(∀r',r'<r->(road t.mask r' (start t.mask (aQt prog w k))).j∈t.place.toList)->(¬ ∃e∈es.toList,TK prog w s.heap k e.2)->Q (.free j false) s) :
  ∀(fuel m:Nat) (stand:Option Probe),M0<fuel+m->stand.getD (t.probeStart (aQt prog w k))=road t.mask m (start t.mask (aQt prog w k)) ->
   (∀m',m'<m->∃(i:Nat) (e:Int×ad),t.place[i]?=some (road t.mask m' (start t.mask (aQt prog w k))).j/\es[i]?=some e/\¬ TK prog w s.heap k e.2)->m<=M0 ->
   aG (aE prog w) A (setSearchFrom a x (aQt prog w k) adding fuel stand) Q E s
 |0,m,stand,hf,_,_,hm=>by lia
 |fuel+1,m,stand,hf,hst,Z,hm=>by
  unfold setSearchFrom;refine aa (S.state ?_);dsimp only;rw[S.inv.way];simp only[aN,if_false];have v:=PV.road m (aX7 t.mask (aQt prog w k));have dn:∀m,(road t.mask m (start t.mask (aQt prog w k))).dummy=none:=λm=>by
   induction m with
   |zero=>rfl
   |succ m ih=>rw[aJk,bQa];exact ih
  obtain⟨L,p1,p2⟩:=cQy S.inv.tab S.inv.le (λi=>(es[i]?.map (·.1)).getD 0) (aQt prog w k) v (dn m);rw[hst];have ahead:∀r,r<m+L->∃(i:Nat) (e:Int×ad),t.place[i]?=some (road t.mask r (start t.mask (aQt prog w k))).j/\es[i]?=some e/\¬ TK prog w s.heap k e.2:=λr hr=>by
   by_cases c:r<m
   ·exact Z r c
   ·obtain⟨i,J,q2⟩:=p1 (r-m) (by lia)
    rw[<- aQo,show m+(r-m)=r by lia] at J
    obtain⟨hi,_⟩:=dl.mp J;have O:i<es.size:=by rw[<- S.inv.size];exact hi
    have U:es[i]?=some es[i]:=by simp[O]
    refine⟨i,es[i],J,U,λz=>q2 ?_⟩;obtain⟨N,z',eh⟩:=hel es[i] (by simp)
    rw[U];show es[i].1=_;rw[eh,z'.inj z]
  have inplace:∀r,r<m+L->(road t.mask r (start t.mask (aQt prog w k))).j∈t.place.toList:=λr hr=>by
   obtain⟨i,e,q,_⟩:=ahead r hr;exact dN.mpr (e9 q)
  have hmM:m+L<=M0:=by
   rcases Nat.lt_or_ge M0 (m+L) with c|c
   ·exact absurd (inplace M0 c) hM
   ·exact c
  rcases p2 with⟨J,q2⟩|⟨i,J,q2,q3,q4⟩
  ·generalize hP:aT.probe t _ (aQt prog w k) (road t.mask m (start t.mask (aQt prog w k)))=pr;have e2:pr=some (.empty (road t.mask L (road t.mask m (start t.mask (aQt prog w k)))).j none):=by rw[<- hP];exact q2
   rw[e2];dsimp only;rw[<- aQo] at J ⊢;have pv:=(PV.road (m+L) (aX7 t.mask (aQt prog w k))).j;refine af (hfree _ (m+L) (by lia) J rfl inplace ?_)
   rintro⟨e,he,hke⟩;obtain⟨i,hi,ei⟩:=be he;have U:es[i]?=some e:=by
    have h2:i<es.size:=by simpa using hi
    rw[<- ei];simp[h2]
   have O:i<t.place.size:=by rw[S.inv.size];simpa using hi
   obtain⟨r,r1,r2⟩:=S.inv.reach i t.place[i] e (by simp[O]) U
   obtain⟨N,z',eh⟩:=hel e he;have hk':N=k:=z'.inj hke;rw[eh,hk'] at r1 r2;rcases Nat.lt_or_ge r (m+L) with c|c
   ·obtain⟨i',e',a1,a2,a3⟩:=ahead r c;rw[r1] at a1;have s1:=bXm S.inv.tab a1;have s2:=bXm (j:=t.place[i]) (i:=i) S.inv.tab (by simp[O])
    rw[s1] at s2;cases s2;rw[U] at a2;cases a2;exact a3 hke
   ·rcases Nat.lt_or_eq_of_le c with c|c
    ·exact J (r2 _ c)
    ·rw[c,r1] at J;exact J (by simp)
  ·generalize hP:aT.probe t _ (aQt prog w k) (road t.mask m (start t.mask (aQt prog w k)))=pr;have e2:pr=some (.candidate (road t.mask L (road t.mask m (start t.mask (aQt prog w k)))).j i (road t.mask (L+1) (road t.mask m (start t.mask (aQt prog w k))))):=by rw[<- hP];exact q4
   rw[e2];dsimp only;have O:i<es.size:=by
    obtain⟨hi,_⟩:=dl.mp J;rw[<- S.inv.size];exact hi
   have U:es[i]?=some es[i]:=by simp[O]
   obtain⟨N,hy,eh⟩:=hel es[i] (by simp)
   by_cases Y:t.led=true
   ·rw[Y];simp only[fE,aN,if_false];rw[U];obtain⟨b,eb,hb⟩:=hy;obtain⟨bx,ex,hbx⟩:=id hx;have D:es[i]=(es[i].1,ju b):=by rw[<- eb]
    rw[D];dsimp only;refine aa (bn ?_);rw[ex];refine wpAny_eqBool_tuple hu hb hbx ?_;refine aa (S.state ?_);dsimp only;have yes:N=k->∃e∈es.toList,TK prog w s.heap k e.2:=λc=>⟨es[i],by simp,⟨b,eb,c▸hb⟩⟩
    by_cases B:(adding&&decide (N=k))=true
    ·rw[if_pos B];have c:N=k:=by
      simp only[a6,decide_eq_true_eq] at B;exact B.2
     exact af (hfound none (.inl (by simp only[a6] at B;exact B.1)) (yes c))
    ·rw[if_neg B];have sm:t.sameMemory t.moves t.mask=some true:=by unfold sameMemory;rw[if_pos (by simp)]
     rw[sm];dsimp only;rw[if_pos rfl,q2];dsimp only;rw[U,D];dsimp only;refine aa (wpAny_isSame_ref_self ?_);rw[if_pos rfl];refine aa (af ?_);dsimp only
     by_cases c:N=k
     ·rw[decide_eq_true c,if_pos rfl];exact af (hfound _ (.inr rfl) (yes c))
     ·rw[decide_eq_false c,if_neg dH];rw[<- ex];refine bXo S hu hel hx hM hfound hfree fuel (m+L+1) _ (by lia) ?_ (λr hr=>?_) ?_
      ·show road t.mask (L+1) (road t.mask m _)=_;rw[<- aQo,Nat.add_assoc]
      ·rcases Nat.lt_or_eq_of_le (Nat.le_of_lt_succ hr) with d|d
       ·exact ahead r d
       ·rw[d];rw[<- aQo] at J;refine⟨i,es[i],J,U,λz=>c ?_⟩;exact TK.inj ⟨b,eb,hb⟩ z
      ·rcases Nat.lt_or_eq_of_le hmM with d|d
       ·exact d
       ·rw[<- aQo] at J;rw[d] at J;exact absurd (dN.mpr (e9 J)) hM
   ·have hled':t.led=false:=eB.mpr Y;rw[hled'];simp only[jn,if_true];refine aa (dJc hx (λy hy'=>?_) ?_)
    ·obtain⟨e,he,rfl⟩:=bI.mp hy';have he':e∈es.toList:=by
      have:=dN.mp he
      exact dN.mpr (Array.mem_filter.mp this).1
     obtain⟨N,z,_⟩:=hel e he';exact⟨N,z⟩
    ·simp only[aN,if_false];rw[U];obtain⟨b,eb,hb⟩:=hy;obtain⟨bx,ex,hbx⟩:=id hx;have D:es[i]=(es[i].1,ju b):=by rw[<- eb]
     rw[D];dsimp only;refine aa (bn ?_);rw[ex];refine wpAny_eqBool_tuple hu hb hbx ?_;refine aa (S.state ?_);dsimp only;have yes:N=k->∃e∈es.toList,TK prog w s.heap k e.2:=λc=>⟨es[i],by simp,⟨b,eb,c▸hb⟩⟩
     by_cases B:(adding&&decide (N=k))=true
     ·rw[if_pos B];have c:N=k:=by
       simp only[a6,decide_eq_true_eq] at B;exact B.2
      exact af (hfound none (.inl (by simp only[a6] at B;exact B.1)) (yes c))
     ·rw[if_neg B];have sm:t.sameMemory t.moves t.mask=some true:=by unfold sameMemory;rw[if_pos (by simp)]
      rw[sm];dsimp only;rw[if_pos rfl,q2];dsimp only;rw[U,D];dsimp only;refine aa (wpAny_isSame_ref_self ?_);rw[if_pos rfl];refine aa (af ?_);dsimp only
      by_cases c:N=k
      ·rw[decide_eq_true c,if_pos rfl];exact af (hfound _ (.inr rfl) (yes c))
      ·rw[decide_eq_false c,if_neg dH];rw[<- ex];refine bXo S hu hel hx hM hfound hfree fuel (m+L+1) _ (by lia) ?_ (λr hr=>?_) ?_
       ·show road t.mask (L+1) (road t.mask m _)=_;rw[<- aQo,Nat.add_assoc]
       ·rcases Nat.lt_or_eq_of_le (Nat.le_of_lt_succ hr) with d|d
        ·exact ahead r d
        ·rw[d];rw[<- aQo] at J;refine⟨i,es[i],J,U,λz=>c ?_⟩;exact TK.inj ⟨b,eb,hb⟩ z
       ·rcases Nat.lt_or_eq_of_le hmM with d|d
        ·exact d
        ·rw[<- aQo] at J;rw[d] at J;exact absurd (dN.mpr (e9 J)) hM
end
section
variable{prog:aF}{w:aS}{A:a4}{E:ad->ak->Prop}{s:ak}
theorem bXp(a:Addr)(wanted:Nat):setRelay a wanted=(do
 let (es,_,t) <- setState a
 if aT.sizeAbove wanted>sizeLine then eR "set:memory"
 let (es,t) <- (do
  let some (t,order):=t.relaid (es.map (·.1)) wanted|eR "internal:set-table-without-room"
  let es':=order.filterMap (es[·]?)
  if es'.size !=es.size then eR "internal:set-table-lost-an-element"
  pure (es',t))
 storeSet a es t):=by rfl
theorem hbvT{k:List Str}{v:ad}{Q:Bool->ak->Prop}(hk:TK prog w s.heap k v)(h:Q (decide (k=[])) s):aG (aE prog w) A (hashByValue 8 v) Q E s:=by
 obtain⟨b,rfl,hk⟩:=hk;have j:=hk.typeIs;obtain⟨o,items,n,i,_,hd,hi⟩:=hk;unfold hashByValue;refine aa (wpAny_specialOf j PySem.F.slot_tuple_hash.lookup ?_);dsimp only;refine aa (eL i hd ?_);refine aa ?_;show aG _ _ (forIn items _ _) _ _ s;rw[<- Array.forIn_toList];generalize hits:items.toList=its at hi;cases hi with
 |nil =>
  rw[List.forIn_nil];exact af (af h)
 |cons h1 h2 =>
  obtain⟨t,e⟩:=eG h1;subst e;rw[fG];have z:∀n x t,hashByValue n (iz x t)=pure false:=λn x t=>by unfold hashByValue;rfl
  rw[z];refine aa (aa (af ?_));simp only[jn,if_true];refine af ?_;exact af (af (by simpa using h))
def bQd(prog:aF)(w:aS)(h:bd)(es:List (Int×ad))(t:aT):Prop:=t.plain=true->∀e∈es,TK prog w h [] e.2
theorem addT{a:Addr}{es:Array (Int×ad)}{ep:Nat}{t:aT}{k:List Str}{x:ad}(S:SetAt s.heap a es ep t)(hu:A.units<cB)(hel:ElT prog w s.heap es.toList)(hpl:bQd prog w s.heap es.toList t)(hx:TK prog w s.heap k x)(hn:es.size+1<=300){Q:Bool->ak->Prop}
  (h:∀ h' es' ep' t' added,SetAt h' a es' ep' t'->dU a s.heap h'->bQd prog w s.heap es'.toList t'->t'.led=t.led ->
   ((added=false/\es'=es/\∃e∈es.toList,TK prog w s.heap k e.2)\/(added=true/\es'.toList.Perm ((aQt prog w k,x)::es.toList)/\¬ ∃e∈es.toList,TK prog w s.heap k e.2))->Q added {s with heap:=h'}) :
  aG (aE prog w) A (iZ a x (aQt prog w k)) Q E s:=by
 unfold iZ setAddHashedIn;refine bn (aa (S.state ?_));dsimp only;have hbs:byScan x es=false:=by
  obtain⟨b,rfl,_⟩:=hx
  rfl
 rw[hbs];simp only[aN,if_false];obtain⟨y,hy,hf⟩:=bQc S.inv.tab S.inv.le;obtain⟨m,hm,e⟩:=eXo S.inv.tab.mask (aX7 t.mask (aQt prog w k)) hy;have hm':m<100000+0:=by
  have:=S.inv.tab.mask
  have:t.mask<=511:=by rcases this with z|z|z|z <;> lia
  lia
 refine aa ?_;unfold setSearch;refine bXo S hu hel hx (M0:=m) (by rw[e];exact hf) (λi? _ hyes=>?_) (λj r hj hfj ej hrj hno=>?_) 100000 0 none hm' rfl (λm' h'=>absurd h' (Nat.not_lt_zero _)) (Nat.zero_le _)
 ·dsimp only;have q:=h s.heap es ep t false S (jD a s.heap) hpl rfl (.inl ⟨rfl,rfl,hyes⟩);exact af q
 ·dsimp only;refine aa (S.state ?_);dsimp only;have P:=put_set (x:=x) S.inv hj hfj ej hrj true;obtain⟨p1,p2,p3,p4,p5,p6⟩:=P;have Z:(t.put j).1.dummies=#[]:=p3.nodum;have p3r:Ris (t.put j).1.place.toList:=p3.ris;have p3t:∀a∈(t.put j).1.place.toList,a<=(t.put j).1.mask:=p3.top;generalize hes:aT.insertAt es (t.put j).2 (aQt prog w k,x)=v at p1 p2 p6 ⊢;have B:v.toList.Perm ((aQt prog w k,x)::es.toList):=by
   rw[p1];refine fx.trans ?_;rw[bb]
  have rest:∀ tt:aT,tt.place=(t.put j).1.place->tt.dummies=#[]->tt.mask=t.mask->tt.led=t.led->(tt.plain=true->t.plain=true/\k=[])->aG (aE prog w) A (do
    storeSet a v tt
    if (!false&&tt.tooFull)=true then do
     setRelay a (du (es.size+1))
     pure true
    else pure true) Q E s:=by
   intro tt h1 h2 h3 h4 h5;have T':Tab tt:=⟨by rw[h3];exact S.inv.tab.mask,h2,by rw[h1];exact p3r,λa ha=>by rw[h1] at ha;rw[h3,<- p5];exact p3t a ha⟩
   have J:∀L:List (Int×ad),L.Perm ((aQt prog w k,x)::es.toList)->∀t2:aT,t2.plain=tt.plain->bQd prog w s.heap L t2:=by
    intro L hp t2 ht2 hpt ee hee;rw[ht2] at hpt;obtain⟨q1,q2⟩:=h5 hpt;rcases aK.mp (hp.mem_iff.mp hee) with q|q
    ·rw[q,<- q2];exact hx
    ·exact hpl q1 ee q
   have hz:v.size<=sizeLine:=by rw[p2,bf];lia
   refine aa (gb S.obj rfl ?_ hz);have O:(s.heap.update a (dI v tt)).get? a=some {cls:=.type "set",dict:=none,data:=.set v (ep+1) tt}:=by
    have:=cI (dI v tt) S.obj (by rw[gx _ _ rfl];rfl)
    rw[gx _ _ rfl] at this;exact this
   have U:=cH s.heap a (dI v tt);have tf:tt.tooFull=decide ((es.size+1)*5>=t.mask*3):=by
    unfold aT.tooFull jA;rw[h2,h1,p4,h3]
    rfl
   have room:=S.inv.room
   by_cases D:(es.size+1)*5>=t.mask*3
   ·rw[tf,decide_eq_true D];simp only[jn,Bool.and_self,if_true];obtain⟨mask',hm1,hm2,hm3,hm4⟩:=grow S.inv.tab.mask room D hn;obtain⟨t',order,r1,r2,r3,r4⟩:=cX6 (es:=v) tt hm1 hm2 (by rw[p2];exact hm3)
    have Y:t'.led=tt.led/\t'.plain=tt.plain:=by
     unfold relaid laid at r1;cases hq:layClean (sizeAbove (grown (es.size+1))-1) (Array.map (·.1) v) with
     |none=>rw[hq] at r1;cases r1
     |some ow=>rw[hq] at r1;cases r1;exact⟨rfl,rfl⟩
    have hfit1:tt.fits v.size=true:=by
     unfold jz jA
     have:t.mask>=7:=by rcases S.inv.tab.mask with z|z|z|z <;> lia
     simp only[a6,beq_iff_eq,decide_eq_true_eq];rw[h2,h1,p4,p2,h3];refine⟨rfl,?_⟩;show es.size+1+0<=t.mask;lia
    refine aa ?_;rw[bXp];refine aa (dr O rfl hfit1 ?_);dsimp only;rw[if_neg hm4,r1];dsimp only;rw[r2];simp only[bne_self_eq_false,aN,if_false,iF];have hz2:(order.filterMap (v[·]?)).size<=sizeLine:=by rw[r2];exact hz
    refine gb O rfl ?_ hz2;have ho2:((s.heap.update a (dI v tt)).update a (dI (order.filterMap (v[·]?)) t')).get? a=some {cls:=.type "set",dict:=none,data:=.set (order.filterMap (v[·]?)) (ep+1+1) t'}:=by
     have:=cI (dI (order.filterMap (v[·]?)) t') O (by rw[gx _ _ rfl];rfl)
     rw[gx _ _ rfl] at this;exact this
    have hsb2:=U.trans (cH (s.heap.update a (dI v tt)) a (dI (order.filterMap (v[·]?)) t'));exact af (h _ _ _ _ true ⟨ho2,r3⟩ hsb2 (J _ (r4.trans B) _ Y.2) (Y.1.trans h4) (.inr ⟨rfl,r4.trans B,hno⟩))
   ·rw[tf,decide_eq_false D];simp only[Bool.and_false,aN,if_false];have I':SetI v tt:=by
     refine⟨T',by rw[h1,p4,p2],by rw[h3,p2];lia,λi j' e' q1 q2=>?_⟩
     rw[h1] at q1;obtain⟨r,r1,r2⟩:=p6 i j' e' q1 q2;rw[h3,h1];exact⟨r,r1,r2⟩
    exact af (h _ _ (ep+1) _ true ⟨O,I'⟩ U (J _ B _ rfl) h4 (.inr ⟨rfl,B,hno⟩))
  by_cases hp:t.plain=true
  ·have N:(t.put j).1.plain=true:=hp;rw[N];simp only[if_true];refine aa (hbvT hx ?_)
   by_cases hk:k=[]
   ·rw[decide_eq_true hk];simp only[if_true];exact rest (t.put j).1 rfl Z p5 rfl (λ_=>⟨hp,hk⟩)
   ·rw[decide_eq_false hk];simp only[aN,if_false];exact rest { (t.put j).1 with plain:=false} rfl Z p5 rfl (λz=>nomatch z)
  ·have N:(t.put j).1.plain=false:=eB.mpr hp;rw[N];simp only[aN,if_false];refine aa (af ?_);simp only[if_true];exact rest (t.put j).1 rfl Z p5 rfl (λz=>by rw[N] at z;cases z)
theorem dJd{a:Addr}{es:Array (Int×ad)}{ep:Nat}{t:aT}{k:List Str}{x:ad}(S:SetAt s.heap a es ep t)(hu:A.units<cB)(hel:ElT prog w s.heap es.toList)(hpl:bQd prog w s.heap es.toList t)(hx:TK prog w s.heap k x)(hn:es.size+1<=300){Q:Bool->ak->Prop}
  (h:∀ h' tk es' ep' t' added,SetAt h' a es' ep' t'->dU a s.heap h'->bQd prog w s.heap es'.toList t'->t'.led=t.led->s.toks<=tk ->
   ((added=false/\es'=es/\∃e∈es.toList,TK prog w s.heap k e.2)\/(added=true/\es'.toList.Perm ((aQt prog w k,x)::es.toList)/\¬ ∃e∈es.toList,TK prog w s.heap k e.2))->Q added {s with heap:=h',toks:=tk}) :
  aG (aE prog w) A (setAdd a x) Q E s:=by
 obtain⟨b,rfl,i⟩:=id hx;unfold setAdd;refine bn (aa (wpAny_pyHash_tuple hu i ?_));exact addT (s:={s with toks:=s.toks+(k.length+1)}) S hu hel hpl hx hn λh' es' ep' t' added h1 h2 z v j=>h h' _ es' ep' t' added h1 h2 z v (Nat.le_add_right _ _) j
end
def TupKeep(h h':bd):Prop:=∀b o,h.get? b=some o->o.cls=.type "tuple"->h'.get? b=some o
theorem TupKeep.trans{a b c:bd}(x:TupKeep a b)(y:TupKeep b c):TupKeep a c:=λd o e h=>y d o (x d o e h) h
def setOb(es:Array (Int×ad))(ep:Nat)(t:aT):Obj:={cls:=.type "set",dict:=none,data:=.set es ep t}
structure SetKd(prog:aF)(w:aS)(κ:Type) where
 is:bd->κ->ad->Prop
 I:bd->Addr->Array (Int×ad)->Nat->aT->Prop
 inj:∀{h:bd}{k k':κ}{v:ad},is h k v->is h k' v->k=k'
 obj:∀{h:bd}{a:Addr}{es:Array (Int×ad)}{ep:Nat}{t:aT},I h a es ep t->h.get? a=some (setOb es ep t)
 fits:∀{h:bd}{a:Addr}{es:Array (Int×ad)}{ep:Nat}{t:aT},I h a es ep t->t.fits es.size=true
 few:∀{h:bd}{a:Addr}{es:Array (Int×ad)}{ep:Nat}{t:aT}{ks:List κ},I h a es ep t->br (λ(e:Int×ad) k=>is h k e.2) es.toList ks->ks.Nodup->t.plain=true->es.size<=1
 fresh:∀{h:bd}{a:Addr}{led:Bool},h.get? a=some (setOb #[] 0 (.fresh 0 0 led))->I h a #[] 0 (.fresh 0 0 led)
 keepIs:∀{h h':bd}{k:κ}{v:ad},is h k v->TupKeep h h'->is h' k v
 keepI:∀{h h':bd}{a:Addr}{es:Array (Int×ad)}{ep:Nat}{t:aT},I h a es ep t->h'.get? a=h.get? a->TupKeep h h'->I h' a es ep t
 add:∀{A:a4}{E:ad->ak->Prop}{s:ak}{a:Addr}{es:Array (Int×ad)}{ep:Nat}{t:aT}{k:κ}{x:ad}{Q:Bool->ak->Prop},A.units<cB->I s.heap a es ep t->is s.heap k x->es.size+1<=300 ->
  (∀ h' tk es' ep' t' added,I h' a es' ep' t'->dU a s.heap h'->t'.led=t.led->s.toks<=tk ->
   ((added=false/\es'=es/\∃e∈es.toList,is s.heap k e.2)\/(added=true/\(∃hh,es'.toList.Perm ((hh,x)::es.toList))/\¬ ∃e∈es.toList,is s.heap k e.2))->Q added {s with heap:=h',toks:=tk}) ->
  aG (aE prog w) A (setAdd a x) Q E s
theorem aJn{h h':bd}{a:Addr}{es:Array (Int×ad)}{ep:Nat}{t:aT}(ho:h.get? a=some (setOb es ep t))(sb:dU a h h'):TupKeep h h':=λb o e c=>by
 refine(sb.2 b ?_).trans e;rintro rfl;rw[ho] at e;have j:o=setOb es ep t:=(aQ e).symm;rw[j] at c;have v:c6 "set"=c6 "tuple":=c;injection v with i
 exact absurd i (by decide)
section
variable{prog:aF}{w:aS}
theorem TK.keep{h h':bd}{k:List Str}{v:ad}(x:TK prog w h k v)(kp:TupKeep h h'):TK prog w h' k v:=by
 obtain⟨b,rfl,o,items,n,j,i,hd,hi⟩:=x;exact⟨b,rfl,o,items,n,kp b o j i,i,hd,hi⟩
theorem bQe{α β:Type}{R:α->β->Prop}:∀{l:List α}{m:List β},br R l m->∀a∈l,∃b∈m,R a b
 |_,_,.nil,a,h=>nomatch h
 |_,_,.cons r t,a,h=>by
  rcases aK.mp h with rfl|h
  ·exact⟨_,aq,r⟩
  ·obtain⟨b,i,q⟩:=bQe t a h;exact⟨b,ay _ i,q⟩
theorem aJo{α β:Type}{R:α->β->Prop}:∀{l:List α}{m:List β},br R l m->∀b∈m,∃a∈l,R a b
 |_,_,.nil,a,h=>nomatch h
 |_,_,.cons r t,a,h=>by
  rcases aK.mp h with rfl|h
  ·exact⟨_,aq,r⟩
  ·obtain⟨b,i,q⟩:=aJo t a h;exact⟨b,ay _ i,q⟩
theorem bXq{α β:Type}{R:α->β->Prop}{l l':List α}(p:l'.Perm l):∀{m:List β},br R l m->∃m',m'.Perm m/\br R l' m':=by
 have gen:∀{l l':List α},l.Perm l'->∀{m:List β},br R l m->∃m',m'.Perm m/\br R l' m':=by
  intro l l' p
  induction p with
  |nil=>intro m h;cases h;exact⟨[],dq _,.nil⟩
  |cons x _ D =>
   intro m h;cases h with
   |cons r t =>
    obtain⟨m',h1,h2⟩:=D t;exact⟨_,h1.cons _,.cons r h2⟩
  |swap x y l =>
   intro m h;cases h with
   |cons r t =>
    cases t with
    |cons z v=>exact⟨_,jv.swap _ _ _,.cons z (.cons r v)⟩
  |trans _ _ j i =>
   intro m h;obtain⟨N,a1,L⟩:=j h;obtain⟨B,a2,J⟩:=i L;exact⟨B,a2.trans a1,J⟩
 intro m h;exact gen p.symm h
theorem few_aux{α β:Type}{R:α->β->Prop}{k0:β}{l:List α}{m:List β}(hp:br R l m)(h0:∀a∈l,R a k0)(inj:∀a b b',R a b->R a b'->b=b')(nd:m.Nodup):l.length<=1:=by
 cases hp with
 |nil=>exact Nat.zero_le _
 |cons j t1 =>
  cases t1 with
  |nil=>exact Nat.le_refl _
  |cons i B =>
   have z:=inj _ _ _ (h0 _ aq) j;have v:=inj _ _ _ (h0 _ (ay _ aq)) i
   have:=(bZ.mp nd).1
   exact absurd (by rw[<- z,v];exact aq) this
theorem empty_el{P:Int×ad->Prop}:∀e∈(#[]:Array (Int×ad)).toList,P e:=λe he=>absurd he (by simp)
def tupKd(prog:aF)(w:aS):SetKd prog w (List Str) where
 is:=TK prog w
 I:=λh a es ep t=>SetAt h a es ep t/\ElT prog w h es.toList/\bQd prog w h es.toList t
 inj:=λa b=>a.inj b
 obj:=λx=>x.1.obj
 fits:=λx=>x.1.inv.fits
 few:=λ{h a es ep t ks} x hp nd hpl=>by
  have q:=few_aux hp (x.2.2 hpl) (λ_ _ _ r1 r2=>r1.inj r2) nd;simpa using q
 fresh:=λho=>⟨⟨ho,dQi _ _ _⟩,empty_el,λ_=>empty_el⟩
 keepIs:=λx kp=>x.keep kp
 keepI:=λx e kp=>⟨⟨by rw[e];exact x.1.obj,x.1.inv⟩,λe he=>by
  obtain⟨k,q1,q2⟩:=x.2.1 e he;exact⟨k,q1.keep kp,q2⟩,λhp e he=>(x.2.2 hp e he).keep kp⟩
 add:=λ{A E s a es ep t k x Q} hu hI hx hn h=>by
  obtain⟨S,hel,hpl⟩:=hI;refine dJd S hu hel hpl hx hn λh' tk es' ep' t' added h1 h2 h3 h4 h5 h6=>?_;have kp:=aJn S.obj h2;refine h h' tk es' ep' t' added ⟨h1,?_,λhp e he=>(h3 hp e he).keep kp⟩ h2 h4 h5 ?_
  ·intro e he;rcases h6 with⟨_,rfl,_⟩|⟨_,hp,_⟩
   ·obtain⟨k,q1,q2⟩:=hel e he;exact⟨k,q1.keep kp,q2⟩
   ·rcases aK.mp (hp.mem_iff.mp he) with q|q
    ·rw[q];exact⟨k,hx.keep kp,rfl⟩
    ·obtain⟨k,q1,q2⟩:=hel e q;exact⟨k,q1.keep kp,q2⟩
  ·rcases h6 with q|⟨q1,q2,q3⟩
   ·exact .inl q
   ·exact .inr ⟨q1,⟨_,q2⟩,q3⟩
theorem bXr(t:aT)(n:Nat):(t.orStandIn n).led=t.led:=by unfold aT.orStandIn;split <;> rfl
theorem addS{A:a4}{E:ad->ak->Prop}{s:ak}{a:Addr}{es:Array (Int×ad)}{ep:Nat}{t:aT}{k:Str}{x:ad}{Q:Bool->ak->Prop}(ho:s.heap.get? a=some (setOb es ep t))(hf:t.fits es.size=true)(hel:ElemsOf (strKind prog w) es.toList)
    (hpl:t.plain=true->es=#[]) (hx:(strKind prog w).is k x=true) (hn:es.size+1<=300)
    (h:∀ h' es' ep' t' added,h'.get? a=some (setOb es' ep' t') -> t'.fits es'.size=true -> ElemsOf (strKind prog w) es'.toList -> (t'.plain=true -> es'=#[]) -> dU a s.heap h' -> t'.led=t.led ->
      ((added=false/\es'=es/\∃e∈es.toList,(strKind prog w).is k e.2=true)\/(added=true/\es'.toList.Perm (((strKind prog w).hash k,x)::es.toList)/\¬ ∃e∈es.toList,(strKind prog w).is k e.2=true))->Q added {s with heap:=h'}) :
    aG (aE prog w) A (iZ a x ((strKind prog w).hash k)) Q E s:=by
  obtain⟨tok,rfl⟩:=eG hx;have hb:es.size<scanBound:=by unfold scanBound; lia
  unfold iZ setAddHashedIn;refine bn (aa (dr ho rfl hf ?_));dsimp only;rw [byScan_of rfl hb hel];simp only [↓reduceIte];unfold setAddByScan;refine aa ?_;refine aa (c7 ?_);refine aa (wpAny_setScan_of hx ho rfl hf hel ?_);cases hr:List.findIdx? (λe=>(strKind prog w).is k e.2) es.toList with
  |some j =>
    dsimp only;obtain⟨hj,hpj,_⟩:=List.findIdx?_eq_some_iff_getElem.mp hr;refine af (af ?_);exact h s.heap es ep t false ho hf hel hpl (jD a s.heap) rfl (.inl ⟨rfl,rfl,es.toList[j],db hj,hpj⟩)
  |none =>
    dsimp only;have hno:¬ ∃e∈es.toList,(strKind prog w).is k e.2=true:=by
      rintro⟨e,he,Z⟩;have:=List.findIdx?_eq_none_iff.mp hr e he;rw [Z] at this; exact Bool.noConfusion this
    have hgw:∀(b:Bool) {s1:ak}{Q':Unit->ak->Prop},Q' () s1->aG (aE prog w) A (match b with|true=>rule "set.scan.the-table-gave-way"|false=>pure ()) Q' E s1 :=
      λb s1 Q' hq =>by cases b <;> first|exact af hq|exact c7 hq
    have i:=layNew_perm t es ((strKind prog w).hash k) (.str k tok);have B:=layNew_fits t es ((strKind prog w).hash k) (.str k tok);have D:(layNew t es ((strKind prog w).hash k) (.str k tok)).2.1.led=t.led:=by
      unfold layNew
      split
      · exact bXr _ _
      · rfl
    generalize hL:layNew t es ((strKind prog w).hash k) (.str k tok)=L at i B D ⊢;obtain⟨es1,t1,J,gave⟩:=L;dsimp only at i B D ⊢;rw [ca] at i;have v:es1.toList.Perm (((strKind prog w).hash k,.str k tok)::es.toList):=i.trans (g8 _ _);have Y:ElemsOf (strKind prog w) es1.toList:=(hel.push hx rfl).perm i;have hsz1:es1.size=es.size+1:=by
      have:=v.length_eq;simpa using this
    have hz1:es1.size<=sizeLine:=by rw [hsz1,bf]; lia
    refine aa (hgw _ ?_)
    have rest:∀ t2:aT,t2.fits es1.size=true -> t2.plain=false -> t2.led=t.led -> aG (aE prog w) A (do
        storeSet a es1 t2
        if (!J&&t2.tooFull)=true then do
            (match (iJ t2 es1 (du es1.size)).2.2 with|true =>rule "set.scan.the-table-gave-way"|false =>pure ())
            storeSet a (iJ t2 es1 (du es1.size)).1 (iJ t2 es1 (du es1.size)).2.1
            pure (some true)
          else pure (some true)) (λr s'=>aG (aE prog w) A (match r with|some added=>pure added|none=>setAddHashedIn a (.str k tok) ((strKind prog w).hash k) 99999) Q E s') E s:=by
      intro t2 q1 q2 q3;refine aa (gb ho rfl ?_ hz1);have ho1:(s.heap.update a (dI es1 t2)).get? a=some (setOb es1 (ep+1) t2):=by
        have:=cI (dI es1 t2) ho (by rw [gx _ _ rfl]; rfl)
        rw [gx _ _ rfl] at this; exact this
      have U:=cH s.heap a (dI es1 t2)
      split
      · have Z:=relayAll_perm t2 es1 (du es1.size)
        have hfr:=relayAll_fits t2 es1 (du es1.size);have O:(iJ t2 es1 (du es1.size)).2.1.led=t2.led/\(iJ t2 es1 (du es1.size)).2.1.plain=false:=by
          unfold iJ
          split
          · rename_i t' order hq
            have : t'.led=t2.led/\t'.plain=t2.plain:=by
              unfold relaid laid at hq;cases hc:layClean (sizeAbove (du es1.size)-1) (Array.map (·.1) es1) with
              |none =>rw [hc] at hq; cases hq
              |some ow =>rw [hc] at hq; cases hq; exact⟨rfl,rfl⟩
            dsimp only
            split
            · exact⟨this.1,this.2.trans q2⟩
            · exact⟨rfl,rfl⟩
          · exact⟨rfl,rfl⟩
        generalize hRl:iJ t2 es1 (du es1.size)=Rl at Z hfr O ⊢;obtain⟨N,t3,gave2⟩:=Rl;dsimp only at Z hfr O ⊢;have hsz2:N.size=es1.size:=by
          have:=Z.length_eq;simpa using this
        refine aa (hgw _ ?_);refine aa (gb ho1 rfl ?_ (by rw [hsz2]; exact hz1))
        have ho2:((s.heap.update a (dI es1 t2)).update a (dI N t3)).get? a=some (setOb N (ep+1+1) t3):=by
          have:=cI (dI N t3) ho1 (by rw [gx _ _ rfl]; rfl)
          rw [gx _ _ rfl] at this; exact this
        refine af (af ?_);exact h _ N _ t3 true ho2 hfr (Y.perm Z) (λz =>by rw [O.2] at z; cases z) (U.trans (cH _ a _)) (O.1.trans q3) (.inr ⟨rfl,Z.trans v,hno⟩)
      · refine af (af ?_)
        exact h _ es1 _ t2 true ho1 q1 Y (λz =>by rw [q2] at z; cases z) U q3 (.inr ⟨rfl,v,hno⟩)
    split
    · refine aa ?_
      rw [hashByValue_scannable 8 rfl];refine af ?_;exact rest _ (aT.fits_plain_off B) rfl D
    · rename_i hnp
      refine aa (af ?_);simp only [↓reduceIte];exact rest t1 B (eB.mpr hnp) D
end
section
variable{prog:aF}{w:aS}
def strKd(prog:aF)(w:aS):SetKd prog w Str where
 is:=λ_ k v=>(dM prog w).is k v=true
 I:=λh a es ep t=>h.get? a=some (setOb es ep t)/\t.fits es.size=true/\ElemsOf (dM prog w) es.toList/\(t.plain=true->es=#[])
 inj:=λa b=>(dM prog w).inj _ _ _ a b
 obj:=λx=>x.1
 fits:=λx=>x.2.1
 few:=λx _ _ hp=>by rw[x.2.2.2 hp];exact Nat.zero_le _
 fresh:=λho=>⟨ho,rfl,empty_el,λ_=>rfl⟩
 keepIs:=λx _=>x
 keepI:=λx e _=>⟨by rw[e];exact x.1,x.2⟩
 add:=λ{A E s a es ep t k x Q} hu hI hx hn h=>by
  obtain⟨ho,hf,hel,hpl⟩:=hI;unfold setAdd;refine bn (aa ((dM prog w).pyHash hx ?_));exact addS (s:={ s with toks:=s.toks + 1 }) ho hf hel hpl hx hn λh' es' ep' t' added h1 h2 h3 h4 h5 h6 h7=>h h' _ es' ep' t' added ⟨h1,h2,h3,h4⟩ h5 h6 (Nat.le_succ _) (by
   rcases h7 with q|⟨q1,q2,q3⟩
   ·exact .inl q
   ·exact .inr ⟨q1,⟨_,q2⟩,q3⟩)
structure Mem{κ:Type}(D:SetKd prog w κ)(h:bd)(a:Addr)(done:List κ)(led:Bool)(ks:List κ):Prop where
 ex:∃es ep t,D.I h a es ep t/\t.led=led/\br (λ(e:Int×ad) k=>D.is h k e.2) es.toList ks
 nd:ks.Nodup
 mem:∀k,k∈ks↔k∈done
theorem Mem.keep{κ:Type}{D:SetKd prog w κ}{h h':bd}{a:Addr}{done:List κ}{led:Bool}{ks:List κ}(M:Mem D h a done led ks)(e:h'.get? a=h.get? a)(kp:TupKeep h h'):Mem D h' a done led ks:=by
 obtain⟨es,j,t,h1,h2,i⟩:=M.ex;exact⟨⟨es,j,t,D.keepI h1 e kp,h2,L2.Paired.mapP i λ_ _ q=>D.keepIs q kp⟩,M.nd,M.mem⟩
theorem Mem.size{κ:Type}{D:SetKd prog w κ}{h:bd}{a:Addr}{done:List κ}{led:Bool}{ks:List κ}(M:Mem D h a done led ks):ks.length<=done.length :=
 M.nd.length_le_of_subset λk i=>(M.mem k).mp i
theorem addM{κ:Type}[DecidableEq κ](D:SetKd prog w κ){A:a4}{E:ad->ak->Prop}{s:ak}{a:Addr}{done:List κ}{led:Bool}{ks:List κ}{k:κ}{x:ad}{Q:Bool->ak->Prop}(hu:A.units<cB)(M:Mem D s.heap a done led ks)(hx:D.is s.heap k x)(hn:ks.length+1<=300)
  (h:∀h' tk ks',Mem D h' a (done++[k]) led ks'->dU a s.heap h'->TupKeep s.heap h'->s.toks<=tk->Q (decide (k∉ks)) {s with heap:=h',toks:=tk}) :
  aG (aE prog w) A (setAdd a x) Q E s:=by
 obtain⟨es,ep,t,h1,h2,L⟩:=M.ex;have hl:es.size=ks.length:=by have:=cw L;simpa using this
 refine D.add hu h1 hx (by lia) λh' tk v B t' added q1 Y q3 q4 q5=>?_
 have kp:=aJn (D.obj h1) Y;have j:br (λ(e:Int×ad) k=>D.is h' k e.2) es.toList ks:=L2.Paired.mapP L λ_ _ q=>D.keepIs q kp;have isin:(∃e∈es.toList,D.is s.heap k e.2)↔k∈ks:=by
  constructor
  ·rintro⟨e,he,q⟩;obtain⟨J,Z,q'⟩:=bQe L e he;rw[D.inj q q'];exact Z
  ·intro i;obtain⟨e,he,q⟩:=aJo L k i;exact⟨e,he,q⟩
 rcases q5 with⟨U,O,N⟩|⟨U,⟨hh,O⟩,N⟩
 ·have i:=isin.mp N;have q:=h h' tk ks ⟨⟨v,B,t',q1,q3.trans h2,by rw[O];exact j⟩,M.nd,λJ=>by
   rw[M.mem J,aP,aU];exact⟨.inl,λz=>z.elim id λz=>by rw[z];exact(M.mem k).mp i⟩⟩ Y kp q4
  rw[decide_eq_false (λz=>z i)] at q;rw[U];exact q
 ·have i:k∉ks:=λz=>N (isin.mpr z);obtain⟨ks',p1,p2⟩:=bXq O (R:=λ(e:Int × ad) k=>D.is h' k e.2) (m:=k::ks) (.cons (D.keepIs hx kp) j);have q:=h h' tk ks' ⟨⟨v,B,t',q1,q3.trans h2,p2⟩,p1.nodup_iff.mpr (bZ.mpr ⟨i,M.nd⟩),λJ=>by
   rw[p1.mem_iff,aK,aP,aU,M.mem J];exact⟨λz=>z.symm,λz=>z.symm⟩⟩ Y kp q4
  rw[decide_eq_true i] at q;rw[U];exact q
theorem dQm{κ:Type}[DecidableEq κ](D:SetKd prog w κ){A:a4}{R:Result->ak->Prop}{I S l:Addr}{items:Array ad}{ks:List κ}{led:Bool}(hh:A.in1.handled=none)(hu:A.in1.units<cB)(hne:l≠I)(hSI:S≠I)(hSl:S≠l){cs:List κ}(hcs:∀k∈ks,k∈cs)(hn:cs.length+1<=300) :
  ∀(j i:Nat) (s:ak),items.size-i=j->i<=items.size->s.heap.IsListIter I l i->s.heap.IsList l items->br (λv k=>D.is s.heap k v) items.toList ks->(∃ms,Mem D s.heap S (ks.take i) led ms) ->
   (∀h' tk ms,Mem D h' S ks led ms->TupKeep s.heap h'->(∀b o,b≠S->b≠I->s.heap.get? b=some o->h'.get? b=some o)->R (.ok (.ret .none)) {s with heap:=h',toks:=tk}) ->
   ew (aE prog w) A (.builtin "set.update.loop" ⟨[.ref S,.ref I],[]⟩) R s:=by
 have Z:∀ {h h':bd} {i:Nat},h.IsListIter I l i->(∀ b o,b≠I->h.get? b=some o->h'.get? b=some o)->TupKeep h h':=λst k b o e c=>k b o (by
  rintro rfl;obtain⟨o',e',c',_⟩:=st;rw[e] at e';cases e';rw[c] at c';injection c' with c''
  exact absurd c'' (by decide)) e
 intro j
 induction j with
 |zero =>
  intro i s hj hi z hl N hM hR;have hin:i=items.size:=by lia
  subst hin;refine bM cU ?_;rw[bq bN _];show aG _ A.in1 (eV (.ref I)>>=_) _ _ s;refine aa (wpAny_pyNext_list_end hh z hl (by simp) λh' eb=>?_)
  show aG _ A.in1 (ret cK) _ _ _;have kp:=Z z λb o hb e=>eb b o hb e;obtain⟨ms,M⟩:=hM;have hlen:ks.length=items.size:=by have:=cw N;simpa using this.symm
  rw[bi (by lia)] at M
  obtain⟨es,ep,t,h1,_⟩:=id M.ex;have hS:=D.obj h1;exact af (hR h' s.toks ms (M.keep (by rw[hS];exact eb S _ hSI hS) kp) kp λb o _ hb e=>eb b o hb e)
 |succ j ih =>
  intro i s hj hi z hl N hM hR;have O:i<items.size:=by lia
  refine bM cU ?_;rw[bq bN _];show aG _ A.in1 (eV (.ref I)>>=_) _ _ s;refine aa (wpAny_pyNext_list_item z hl (x:=items[i]) (by simp[O]) λh1 st1 B=>?_)
  have J:=Z z λb o hb e=>(B.2 b hb).trans e;obtain⟨ms,M⟩:=hM;obtain⟨es,ep,t,q1,_⟩:=id M.ex;have hS:=D.obj q1;have M1:=M.keep (h':=h1) (by rw[B.2 S hSI]) J
  have hlen:ks.length=items.size:=by have:=cw N;simpa using this.symm
  have hki:ks[i]?=some ks[i]:=ag (by lia)
  have hx:D.is s.heap ks[i] items[i]:=by
   have gen:∀{l:List ad}{m:List κ},br (λv k=>D.is s.heap k v) l m->∀(n:Nat) (v:ad) (k:κ),l[n]?=some v->m[n]?=some k->D.is s.heap k v:=by
    intro l m N
    induction N with
    |nil=>intro n v k h;simp at h
    |cons r _ ih =>
     intro n v k h1 h2;cases n with
     |zero=>simp at h1 h2;subst h1;subst h2;exact r
     |succ n=>exact ih n v k (by simpa using h1) (by simpa using h2)
   exact gen N i _ _ (by simp[O]) hki
  show aG _ A.in1 (fb [items[i]] (setAdd S items[i])>>=_) _ _ _;refine aa (bn ?_);have hms:ms.length<=cs.length:=M1.nd.length_le_of_subset λk hk=>hcs k (cL ((M1.mem k).mp hk));refine addM D (s:={s with heap:=h1}) hu M1 (D.keepIs hx J) (by lia) λh2 tk ms' M2 L Y htk=>?_
  have hl2:h2.IsList l items:=by
   obtain⟨o,e,r⟩:=hl;exact⟨o,(L.2 l (cz hSl)).trans ((B.2 l hne).trans e),r⟩
  have st2:h2.IsListIter I l (i+1):=by
   obtain⟨o,e,r⟩:=st1;exact⟨o,(L.2 I (cz hSI)).trans e,r⟩
  refine af ⟨cZ bN _,ih (i+1) _ (by lia) O st2 hl2 (L2.Paired.mapP N λ_ _ q=>D.keepIs q (J.trans Y)) ⟨ms',?_⟩ λh' tk' U a1 a2 a3=>?_⟩
  ·have et:ks.take (i+1)=ks.take i++[ks[i]]:=by rw[bT,hki];rfl
   rw[et];exact M2
  ·exact hR h' tk' U a1 ((J.trans Y).trans a2) λb o hb1 hb2 e=>a3 b o hb1 hb2 ((L.2 b hb1).trans ((B.2 b hb2).trans e))
abbrev ledOf(w:aS):Bool:=!(w.params.followText "set-order")
theorem cQ1{A:a4}{E:ad->ak->Prop}{s:ak}(a:ad){Q1:ad->ak->Prop}
  (h:Q1 (.ref s.heap.objs.size) {s with heap:=s.heap.push (setOb #[] 0 (.fresh 0 0 (ledOf w)))}) :
  ew (aE prog w) A (.call (.builtin "set.__new__") ⟨[.type "set",a],[]⟩) (wants Q1 E) s:=by
 refine fH ?_;show aG _ A.in1 (do checkBuiltinCall "set.__new__" ⟨[.type "set",a],[]⟩;again (.builtin "set.__new__" ⟨[.type "set",a],[]⟩)) _ _ s
 refine aa (wpAny_of_eq (PySem.F.newCall_set_1 a) (af ⟨cZ jh _,bM PySem.F.entry_set_new ?_⟩));rw[bq jh _];unfold cR.«set.__new__» cR.Frozenset.newClass;have i:=sub_set_self;obtain⟨v,g,d,j,os⟩:=s;dsimp only
 wp_walk
 refine c9 (af ?_);dsimp only;simp only[newObj];refine aa (wpAny_alloc (af ?_));exact af h
end
section
variable{prog:aF}{w:aS}
theorem cQz{κ:Type}[DecidableEq κ](D:SetKd prog w κ){A:a4}{E:ad->ak->Prop}{s:ak}{l:Addr}{items:Array ad}{ks:List κ}{Q:ad->ak->Prop}
  (hh:A.handled=none) (hu:A.units+8<cB) (hl:s.heap.IsList l items) (hi:br (λv k=>D.is s.heap k v) items.toList ks) {cs:List κ}(hcs:∀k∈ks,k∈cs) (hb:cs.length+1<=300)
  (h:∀ (h':bd) (tk:Nat) ms,Mem D h' s.heap.objs.size ks (ledOf w) ms->TupKeep s.heap h' ->
   (∀b o,b<s.heap.objs.size->s.heap.get? b=some o->h'.get? b=some o)->Q (.ref s.heap.objs.size) {s with heap:=h',toks:=tk}) :
  aG (aE prog w) A (call (.type "set") [.ref l]) Q E s:=by
 obtain⟨c,tl,hmro⟩:=bj.mro;have hmade:=bj.made;have hsub:=bj.sub;refine wpAny_call (fH ?_);show aG _ _ (callAny (.type "set") _) _ _ _;refine af ⟨Code.quiet_builtin _ (by decide +kernel),bM iK ?_⟩
 rw[Around.under_plain (weight_type_call_type "set" [.ref l] []) rfl];have h1:=bj.notType;have h2:=bj.canCreate;have hct:=i6 (.ref l)
 repeat (any_goals (first|assumption|wp_step))
 refine fv (cQ1 (.ref l) (E:=E) (Q1:=λobj s1=>obj=.ref s.heap.objs.size/\s1={s with heap:=s.heap.push (setOb #[] 0 (.fresh 0 0 (ledOf w)))}) ⟨rfl,rfl⟩) λr s1 hr=>?_
 cases r with
 |error e=>exact hr
 |ok fl =>
  cases fl with
  |ret obj =>
   obtain⟨rfl,rfl⟩:=hr;have hS:(s.heap.push (setOb #[] 0 (.fresh 0 0 (ledOf w)))).get? s.heap.objs.size=some (setOb #[] 0 (.fresh 0 0 (ledOf w))):=av _ rfl;have hT:ak.TypeIs {s with heap:=s.heap.push (setOb #[] 0 (.fresh 0 0 (ledOf w)))} (.ref s.heap.objs.size) "set":=⟨_,hS,rfl⟩
   have hli:=bj.init.lookup;have hbi:=bj.init.bind (.ref s.heap.objs.size)
   repeat (any_goals (first|assumption|wp_step))
   refine fv (codeAny_call_builtin (R:=wants (λr s2=>r=.none/\∃ h' tk ms,s2={ s with heap:=h',toks:=tk }/\Mem D h' s.heap.objs.size ks (ledOf w) ms/\TupKeep s.heap h' /\
     (∀b o,b<s.heap.objs.size->s.heap.get? b=some o->h'.get? b=some o)) E) bj.init.plain i7 (check_set_init_1 hT ?_)) λr2 s2 B=>?_
   ·obtain⟨ol,N,hcl,nl,hdl⟩:=hl;obtain⟨ocls,j,odata,i⟩:=ol;simp only at hcl hdl;subst hcl;subst hdl;have L:(s.heap.push (setOb #[] 0 (.fresh 0 0 (ledOf w)))).get? l=some {cls:=.type "list",dict:=j,data:=.seq items nl,slots:=i}:=ae _ N;have hsls:=PySem.F.sub_list_set;have hslf:=PySem.F.sub_list_frozenset;have hne:(c6 "list" ==c6 "dict")=false:=by decide
    have Y:(s.heap.push (setOb #[] 0 (.fresh 0 0 (ledOf w)))).IsList l items:=⟨_,L,rfl,nl,rfl⟩;unfold cR.«set.__init__» noKeywords gH;generalize hPI:ir=PI;unfold setOb at *
    wp_walk
    subst hPI;refine gg Y ?_;refine aa (wpAny_runValue ?_);have U:l<s.heap.objs.size:=aD N;have hh3:A.in1.in1.in1.handled=none:=by simp[hh]
    have hu3:A.in1.in1.in1.units<cB:=by show A.units+1+1+1<cB;lia
    have O:l≠(s.heap.push {cls:=.type "set",dict:=none,data:=.set #[] 0 (.fresh 0 0 (ledOf w))}).objs.size:=by
     rw[cC];exact Nat.ne_of_lt (Nat.lt_succ_of_lt U)
    have hSI:s.heap.objs.size≠(s.heap.push {cls:=.type "set",dict:=none,data:=.set #[] 0 (.fresh 0 0 (ledOf w))}).objs.size:=by
     rw[cC];exact Nat.ne_of_lt (Nat.lt_succ_self _)
    have kp:TupKeep s.heap ((s.heap.push {cls:=.type "set",dict:=none,data:=.set #[] 0 (.fresh 0 0 (ledOf w))}).push {cls:=.type "list_iterator",data:=.fields #[.ref l,.int 0 0]}):=λb o e _=>ae _ (ae _ e)
    have Z:((s.heap.push {cls:=.type "set",dict:=none,data:=.set #[] 0 (.fresh 0 0 (ledOf w))}).push {cls:=.type "list_iterator",data:=.fields #[.ref l,.int 0 0]}).get? s.heap.objs.size
       =some (setOb #[] 0 (.fresh 0 0 (ledOf w))):=ae _ hS
    refine dQm D hh3 hu3 O hSI (cz (Nat.ne_of_lt U)) hcs hb (items.size-0) 0 _ (by lia) (Nat.zero_le _) ⟨_,av _ rfl,rfl,rfl⟩ (Y.push _) (L2.Paired.mapP hi λ_ _ q=>D.keepIs q kp)
     ⟨[],⟨⟨#[],0,.fresh 0 0 (ledOf w),D.fresh Z,rfl,.nil⟩,eM,λk=>by simp⟩⟩ ?hR
    case hR =>
     intro h' tk' ms hM z J;show aG _ _ _ _ _ _;refine af ?_;show aG _ _ (ret cK) _ _ _;refine af ⟨rfl,h',tk',ms,rfl,hM,kp.trans z,λb o hb e=>?_⟩;exact J b o (Nat.ne_of_lt hb) (by rw[cC];exact Nat.ne_of_lt (Nat.lt_succ_of_lt hb)) (ae _ (ae _ e))
   ·cases r2 with
    |error e=>exact B
    |ok fl2 =>
     cases fl2 with
     |ret r =>
      obtain⟨rfl,h',tk,ms,rfl,hM,z,J⟩:=B
      repeat (any_goals (first|assumption|wp_step))
      exact h _ _ _ hM z J
     |_=>exact B.elim
  |_=>exact hr.elim
theorem call_setK{κ:Type}[DecidableEq κ](D:SetKd prog w κ){A:a4}{E:ad->ak->Prop}{s:ak}{l:Addr}{items:Array ad}{ks:List κ}{Q:ad->ak->Prop}
  (hh:A.handled=none) (hu:A.units+8<cB) (hl:s.heap.IsList l items) (hi:br (λv k=>D.is s.heap k v) items.toList ks) (hb:items.size+1<=300)
  (h:∀ (h':bd) (tk:Nat) ms,Mem D h' s.heap.objs.size ks (ledOf w) ms->TupKeep s.heap h' ->
   (∀b o,b<s.heap.objs.size->s.heap.get? b=some o->h'.get? b=some o)->Q (.ref s.heap.objs.size) {s with heap:=h',toks:=tk}) :
  aG (aE prog w) A (call (.type "set") [.ref l]) Q E s :=
 cQz D hh hu hl hi (cs:=ks) (λ_ h=>h) (by have:=cw hi;simp at this;lia) h
end
section
variable{prog:aF}{w:aS}
theorem cX7{κ:Type}[DecidableEq κ](D:SetKd prog w κ){A:a4}{R:Result->ak->Prop}{I S l:Addr}{items:Array ad}{ks:List κ}{led:Bool}(hh:A.in1.handled=none)(hu:A.in1.units<cB)(hne:l≠I)(hSI:S≠I)(hSl:S≠l)(hn:items.size+1<=300) :
  ∀(j i:Nat) (s:ak),items.size-i=j->i<=items.size->s.heap.IsTupleIter I l i->s.heap.IsTuple l items->br (λv k=>D.is s.heap k v) items.toList ks->(∃ms,Mem D s.heap S (ks.take i) led ms) ->
   (∀h' tk ms,Mem D h' S ks led ms->TupKeep s.heap h'->(∀b o,b≠S->b≠I->s.heap.get? b=some o->h'.get? b=some o)->R (.ok (.ret .none)) {s with heap:=h',toks:=tk}) ->
   ew (aE prog w) A (.builtin "set.update.loop" ⟨[.ref S,.ref I],[]⟩) R s:=by
 have Z:∀ {h h':bd} {i:Nat},h.IsTupleIter I l i->(∀ b o,b≠I->h.get? b=some o->h'.get? b=some o)->TupKeep h h':=λst k b o e c=>k b o (by
  rintro rfl;obtain⟨o',e',c',_⟩:=st;rw[e] at e';cases e';rw[c] at c';injection c' with c''
  exact absurd c'' (by decide)) e
 intro j
 induction j with
 |zero =>
  intro i s hj hi z hl N hM hR;have hin:i=items.size:=by lia
  subst hin;refine bM cU ?_;rw[bq bN _];show aG _ A.in1 (eV (.ref I)>>=_) _ _ s;refine aa (wpAny_pyNext_tuple_end hh z hl (by simp) λh' eb=>?_)
  show aG _ A.in1 (ret cK) _ _ _;have kp:=Z z λb o hb e=>eb b o hb e;obtain⟨ms,M⟩:=hM;have hlen:ks.length=items.size:=by have:=cw N;simpa using this.symm
  rw[bi (by lia)] at M
  obtain⟨es,ep,t,h1,_⟩:=id M.ex;have hS:=D.obj h1;exact af (hR h' s.toks ms (M.keep (by rw[hS];exact eb S _ hSI hS) kp) kp λb o _ hb e=>eb b o hb e)
 |succ j ih =>
  intro i s hj hi z hl N hM hR;have O:i<items.size:=by lia
  refine bM cU ?_;rw[bq bN _];show aG _ A.in1 (eV (.ref I)>>=_) _ _ s;refine aa (wpAny_pyNext_tuple_item z hl (x:=items[i]) (by simp[O]) λh1 st1 B=>?_)
  have J:=Z z λb o hb e=>(B.2 b hb).trans e;obtain⟨ms,M⟩:=hM;obtain⟨es,ep,t,q1,_⟩:=id M.ex;have hS:=D.obj q1;have M1:=M.keep (h':=h1) (by rw[B.2 S hSI]) J
  have hlen:ks.length=items.size:=by have:=cw N;simpa using this.symm
  have hki:ks[i]?=some ks[i]:=ag (by lia)
  have hx:D.is s.heap ks[i] items[i]:=by
   have gen:∀{l:List ad}{m:List κ},br (λv k=>D.is s.heap k v) l m->∀(n:Nat) (v:ad) (k:κ),l[n]?=some v->m[n]?=some k->D.is s.heap k v:=by
    intro l m N
    induction N with
    |nil=>intro n v k h;simp at h
    |cons r _ ih =>
     intro n v k h1 h2;cases n with
     |zero=>simp at h1 h2;subst h1;subst h2;exact r
     |succ n=>exact ih n v k (by simpa using h1) (by simpa using h2)
   exact gen N i _ _ (by simp[O]) hki
  show aG _ A.in1 (fb [items[i]] (setAdd S items[i])>>=_) _ _ _;refine aa (bn ?_);refine addM D (s:={s with heap:=h1}) hu M1 (D.keepIs hx J) (by have:=M1.size;rw[aR] at this;lia) λh2 tk ms' M2 L Y htk=>?_
  have hl2:h2.IsTuple l items:=by
   obtain⟨o,e,r⟩:=hl;exact⟨o,(L.2 l (cz hSl)).trans ((B.2 l hne).trans e),r⟩
  have st2:h2.IsTupleIter I l (i+1):=by
   obtain⟨o,e,r⟩:=st1;exact⟨o,(L.2 I (cz hSI)).trans e,r⟩
  refine af ⟨cZ bN _,ih (i+1) _ (by lia) O st2 hl2 (L2.Paired.mapP N λ_ _ q=>D.keepIs q (J.trans Y)) ⟨ms',?_⟩ λh' tk' U a1 a2 a3=>?_⟩
  ·have et:ks.take (i+1)=ks.take i++[ks[i]]:=by rw[bT,hki];rfl
   rw[et];exact M2
  ·exact hR h' tk' U a1 ((J.trans Y).trans a2) λb o hb1 hb2 e=>a3 b o hb1 hb2 ((L.2 b hb1).trans ((B.2 b hb2).trans e))
theorem call_setT{κ:Type}[DecidableEq κ](D:SetKd prog w κ){A:a4}{E:ad->ak->Prop}{s:ak}{l:Addr}{items:Array ad}{ks:List κ}{Q:ad->ak->Prop}
  (hh:A.handled=none) (hu:A.units+8<cB) (hl:s.heap.IsTuple l items) (hi:br (λv k=>D.is s.heap k v) items.toList ks) (hb:items.size+1<=300)
  (h:∀ (h':bd) (tk:Nat) ms,Mem D h' s.heap.objs.size ks (ledOf w) ms->TupKeep s.heap h' ->
   (∀b o,b<s.heap.objs.size->s.heap.get? b=some o->h'.get? b=some o)->Q (.ref s.heap.objs.size) {s with heap:=h',toks:=tk}) :
  aG (aE prog w) A (call (.type "set") [.ref l]) Q E s:=by
 obtain⟨c,tl,hmro⟩:=bj.mro;have hmade:=bj.made;have hsub:=bj.sub;refine wpAny_call (fH ?_);show aG _ _ (callAny (.type "set") _) _ _ _;refine af ⟨Code.quiet_builtin _ (by decide +kernel),bM iK ?_⟩
 rw[Around.under_plain (weight_type_call_type "set" [.ref l] []) rfl];have h1:=bj.notType;have h2:=bj.canCreate;have hct:=i6 (.ref l)
 repeat (any_goals (first|assumption|wp_step))
 refine fv (cQ1 (.ref l) (E:=E) (Q1:=λobj s1=>obj=.ref s.heap.objs.size/\s1={s with heap:=s.heap.push (setOb #[] 0 (.fresh 0 0 (ledOf w)))}) ⟨rfl,rfl⟩) λr s1 hr=>?_
 cases r with
 |error e=>exact hr
 |ok fl =>
  cases fl with
  |ret obj =>
   obtain⟨rfl,rfl⟩:=hr;have hS:(s.heap.push (setOb #[] 0 (.fresh 0 0 (ledOf w)))).get? s.heap.objs.size=some (setOb #[] 0 (.fresh 0 0 (ledOf w))):=av _ rfl;have hT:ak.TypeIs {s with heap:=s.heap.push (setOb #[] 0 (.fresh 0 0 (ledOf w)))} (.ref s.heap.objs.size) "set":=⟨_,hS,rfl⟩
   have hli:=bj.init.lookup;have hbi:=bj.init.bind (.ref s.heap.objs.size)
   repeat (any_goals (first|assumption|wp_step))
   refine fv (codeAny_call_builtin (R:=wants (λr s2=>r=.none/\∃ h' tk ms,s2={ s with heap:=h',toks:=tk }/\Mem D h' s.heap.objs.size ks (ledOf w) ms/\TupKeep s.heap h' /\
     (∀b o,b<s.heap.objs.size->s.heap.get? b=some o->h'.get? b=some o)) E) bj.init.plain i7 (check_set_init_1 hT ?_)) λr2 s2 B=>?_
   ·obtain⟨ol,N,hcl,nl,hdl⟩:=hl;obtain⟨ocls,j,odata,i⟩:=ol;simp only at hcl hdl;subst hcl;subst hdl;have L:(s.heap.push (setOb #[] 0 (.fresh 0 0 (ledOf w)))).get? l=some {cls:=.type "tuple",dict:=j,data:=.seq items nl,slots:=i}:=ae _ N;have hsls:=PySem.F.sub_tuple_set;have hslf:=PySem.F.sub_tuple_frozenset;have hne:(c6 "tuple" ==c6 "dict")=false:=by decide
    have Y:(s.heap.push (setOb #[] 0 (.fresh 0 0 (ledOf w)))).IsTuple l items:=⟨_,L,rfl,nl,rfl⟩;unfold cR.«set.__init__» noKeywords gH;generalize hPI:ir=PI;unfold setOb at *
    wp_walk
    subst hPI;refine fM Y ?_;refine aa (wpAny_runValue ?_);have U:l<s.heap.objs.size:=aD N;have hh3:A.in1.in1.in1.handled=none:=by simp[hh]
    have hu3:A.in1.in1.in1.units<cB:=by show A.units+1+1+1<cB;lia
    have O:l≠(s.heap.push {cls:=.type "set",dict:=none,data:=.set #[] 0 (.fresh 0 0 (ledOf w))}).objs.size:=by
     rw[cC];exact Nat.ne_of_lt (Nat.lt_succ_of_lt U)
    have hSI:s.heap.objs.size≠(s.heap.push {cls:=.type "set",dict:=none,data:=.set #[] 0 (.fresh 0 0 (ledOf w))}).objs.size:=by
     rw[cC];exact Nat.ne_of_lt (Nat.lt_succ_self _)
    have kp:TupKeep s.heap ((s.heap.push {cls:=.type "set",dict:=none,data:=.set #[] 0 (.fresh 0 0 (ledOf w))}).push {cls:=.type "tuple_iterator",data:=.fields #[.ref l,.int 0 0]}):=λb o e _=>ae _ (ae _ e)
    have Z:((s.heap.push {cls:=.type "set",dict:=none,data:=.set #[] 0 (.fresh 0 0 (ledOf w))}).push {cls:=.type "tuple_iterator",data:=.fields #[.ref l,.int 0 0]}).get? s.heap.objs.size
       =some (setOb #[] 0 (.fresh 0 0 (ledOf w))):=ae _ hS
    refine cX7 D hh3 hu3 O hSI (cz (Nat.ne_of_lt U)) hb (items.size-0) 0 _ (by lia) (Nat.zero_le _) ⟨_,av _ rfl,rfl,rfl⟩ (Y.push _) (L2.Paired.mapP hi λ_ _ q=>D.keepIs q kp)
     ⟨[],⟨⟨#[],0,.fresh 0 0 (ledOf w),D.fresh Z,rfl,.nil⟩,eM,λk=>by simp⟩⟩ ?hR
    case hR =>
     intro h' tk' ms hM z J;show aG _ _ _ _ _ _;refine af ?_;show aG _ _ (ret cK) _ _ _;refine af ⟨rfl,h',tk',ms,rfl,hM,kp.trans z,λb o hb e=>?_⟩;exact J b o (Nat.ne_of_lt hb) (by rw[cC];exact Nat.ne_of_lt (Nat.lt_succ_of_lt hb)) (ae _ (ae _ e))
   ·cases r2 with
    |error e=>exact B
    |ok fl2 =>
     cases fl2 with
     |ret r =>
      obtain⟨rfl,h',tk,ms,rfl,hM,z,J⟩:=B
      repeat (any_goals (first|assumption|wp_step))
      exact h _ _ _ hM z J
     |_=>exact B.elim
  |_=>exact hr.elim
end
end ST
set_option maxHeartbeats 1000000
namespace L2
open PySem PySem.Spec PyProof.Rows
variable{α β:Type}
theorem cX8{H:Hp}{xs:List V}{us:List ad}{bs:List Bool}(p:br (dB H) xs bs)(r:Vals xs us){i:Nat}{v:ad}(h:us[i]?=some v):∃b,bs[i]?=some b/\v=.bool b:=by
 have hl:=r.length;have hi:i<xs.length:=by
  rcases Nat.lt_or_ge i us.length with z|z
  ·omega
  ·rw[bV z] at h;cases h
 obtain⟨b,e,D⟩:=Paired.get' p (ag hi);obtain⟨u,eu,B⟩:=r.get (ag hi);rw[h] at eu;cases eu;have j:xs[i]=V.bl b:=D;rw[j] at B;exact⟨b,e,B⟩
theorem cQ2{h h':bd}{o:Obj}(hk:∀b x,b∉[h.objs.size]->(h.push o).get? b=some x->h'.get? b=some x):∀b x,h.get? b=some x->h'.get? b=some x:=λb x e =>
 hk b x (λz=>by have:=aU.mp z;subst this;exact Nat.lt_irrefl _ (aD e)) (ae _ e)
theorem cZ0(bs:List Bool):∀n,n=bs.length->((a7 n).all λi=>(bs[i]?).getD true)=bs.all id:=by
 rintro n rfl;rw[jd,bF,bF];refine⟨λh b v=>?_,λh i hi=>?_⟩
 ·obtain⟨i,hi,rfl⟩:=be v
  have:=h i (aZ.mpr hi)
  rwa [ag hi] at this
 ·have j:=aZ.mp hi;rw[ag j];exact h _ (db j)
theorem cZ1(bs:List Bool):∀n,n=bs.length->((a7 n).any λi=>(bs[i]?).getD false)=bs.any id:=by
 rintro n rfl;rw[jd,d3,d3];refine⟨λ⟨i,hi,h⟩=>?_,λ⟨b,v,h⟩=>?_⟩
 ·have j:=aZ.mp hi;rw[ag j] at h;exact⟨_,db j,h⟩
 ·obtain⟨i,hi,rfl⟩:=be v;exact⟨i,aZ.mpr hi,by rw[ag hi];exact h⟩
section
variable{X:Cx}
theorem cX9(hc:X.calm=true):CallR X (.builtin "all") (λxs H Q=>∃x bs,xs=[x]/\dL X.K dB H x bs/\Q (.bl (bs.all id)) H):=by
 intro pins s σ H xs us Q I r h;obtain⟨x,bs,rfl,⟨a,ys,rfl,D,p⟩,q⟩:=h;obtain⟨u,rfl,rx⟩:=aZp r;cases rx;obtain⟨its,j,pl,_⟩:=I.list D;obtain⟨o,J,_⟩:=id pl.isList;refine PySem.call_all_walk (gg pl.isList ⟨_,_,_,_,_,_,λi=>(bs[i]?).getD true,rfl,PySem.Walks.list (A:=X.A.in1) (by have:=I.ok.hd hc;simp[this]) _ a (Nat.ne_of_lt (aD J)) its.toArray,⟨⟨_,av _ rfl,rfl,rfl⟩,pl.isList.push _⟩,λi v s' O U N z=>?_,λh' B L=>?_⟩)
 ·obtain⟨b,e,rfl⟩:=cX8 p j (show its[i]?=some v by simpa using N)
  simp only[e,Option.getD_some] at z;exact dO z
 ·rw[cZ0 bs _ (by rw[ar,<- j.length,p.length])]
  exact⟨.bl _,H,I.kept (t':=B) (cQ2 L),rfl,q⟩
theorem cXa(hc:X.calm=true):CallR X (.builtin "any") (λxs H Q=>∃x bs,xs=[x]/\dL X.K dB H x bs/\Q (.bl (bs.any id)) H):=by
 intro pins s σ H xs us Q I r h;obtain⟨x,bs,rfl,⟨a,ys,rfl,D,p⟩,q⟩:=h;obtain⟨u,rfl,rx⟩:=aZp r;cases rx;obtain⟨its,j,pl,_⟩:=I.list D;obtain⟨o,J,_⟩:=id pl.isList;refine PySem.call_any_walk (gg pl.isList ⟨_,_,_,_,_,_,λi=>(bs[i]?).getD false,rfl,PySem.Walks.list (A:=X.A.in1) (by have:=I.ok.hd hc;simp[this]) _ a (Nat.ne_of_lt (aD J)) its.toArray,⟨⟨_,av _ rfl,rfl,rfl⟩,pl.isList.push _⟩,λi v s' O U N z=>?_,λh' B L=>?_⟩)
 ·obtain⟨b,e,rfl⟩:=cX8 p j (show its[i]?=some v by simpa using N)
  simp only[e,Option.getD_some] at z;exact dO z
 ·rw[cZ1 bs _ (by rw[ar,<- j.length,p.length])]
  exact⟨.bl _,H,I.kept (t':=B) (cQ2 L),rfl,q⟩
def szO(a:Addr)(n:Nat):HO:=.ext λh=>∃es ep t,h.get? a=some (ST.setOb es ep t)/\t.fits es.size=true/\es.size=n
def SzOk(ds:List α)(n:Nat):Prop:=n<=ds.length/\(n=ds.length↔ds.Nodup)
theorem aXu[DecidableEq α]:∀(ds ms:List α),ms.Nodup->ms⊆ds->ds.length<=ms.length->ds.Nodup
 |[],_,_,_,_=>eM
 |x::xs,ms,nd,sub,le=>by
  have j:x∉xs:=λj=>by
   have:ms⊆xs:=λk v=>by
    rcases aK.mp (sub v) with rfl|z
    ·exact j
    ·exact z
   have:=nd.length_le_of_subset this
   simp only[bG] at le;omega
  refine bZ.mpr ⟨j,aXu xs (ms.erase x) (nd.erase x) (λk v=>?_) ?_⟩
  ·have i:=(fL.mem_erase_iff nd).mp v;exact(aK.mp (sub i.2)).resolve_left i.1
  ·simp only[bG] at le
   have:=List.length_erase (a:=x) (l:=ms)
   split at this <;> omega
theorem dJe[DecidableEq α]{ds ms:List α}(nd:ms.Nodup)(h:∀k,k∈ms↔k∈ds):SzOk ds ms.length:=by
 have sub:ms⊆ds:=λk j=>(h k).mp j;have le:ms.length<=ds.length:=nd.length_le_of_subset sub;refine⟨le,λe=>?_,λi=>Nat.le_antisymm le (i.length_le_of_subset λk j=>(h k).mpr j)⟩;exact aXu ds ms nd sub (by omega)
theorem fZ5{P:aF}{w:aS}{h:bd}{H:Hp}{K:Fg}{b:Addr}{xs:List V}{its:List ad}{k:List Str}(p:br (dS H) xs k)(r:Vals xs its)(t:iA h b its.toArray):ST.TK P w h k (.ref b):=by
 obtain⟨o,j,v,n,hd⟩:=t;refine⟨b,rfl,o,its.toArray,n,j,v,hd,?_⟩;show ItemsAre (dM P w) k its;have go:∀{xs:List V}{its:List ad}{k:List Str},br (dS H) xs k->Vals xs its->ItemsAre (dM P w) k its:=by
  intro xs its k p r
  induction p generalizing its with
  |nil=>cases r;first|exact trivial|exact .nil
  |cons e _ i =>
   cases r with
   |cons r t =>
    cases e;obtain⟨z,rfl⟩:=r
    first
     |exact⟨by simp[dM,dY],i t⟩
     |exact .cons (by simp[dM,dY]) (i t)
 exact go p r
theorem eXq{P:aF}{w:aS}{pins:List (Addr×Obj)}{σ:St}{H:Hp}{s:ak}(I:Inv X pins σ H s):∀{xs:List V}{us:List ad}{ds:List (List Str)},br (dT X.K dS H) xs ds->Vals xs us->br (λv k=>ST.TK P w s.heap k v) us ds
 |_,_,_,.nil,.nil=>.nil
 |_,_,_,.cons p q,.cons r t=>by
  refine .cons ?_ (eXq I q t);obtain⟨b,ys,rfl,z,pp⟩:=p;cases r;obtain⟨its,j,i,_⟩:=I.tuple z;exact fZ5 (K:=X.K) pp j i
theorem dZw{P:aF}{w:aS}{H:Hp}{h:bd}:∀{xs:List V}{us:List ad}{ds:List Str},br (dS H) xs ds->Vals xs us->br (λv k=>(ST.strKd P w).is h k v) us ds
 |_,_,_,.nil,.nil=>.nil
 |_,_,_,.cons p q,.cons r t=>by
  refine .cons ?_ (dZw q t);cases p;obtain⟨i,rfl⟩:=r;unfold ST.strKd;simp[dM,dY]
theorem dZx{κ:Type}[DecidableEq κ]{pins:List (Addr×Obj)}{σ:St}{H:Hp}{s:ak}{Q:VK}{D:ST.SetKd X.prog X.w κ}{ds:List κ}(I:Inv X pins σ H s)(q:∀p n,H p=none->SzOk ds n->Q (.ref p) (upd H p (szO p n))){h':bd}{tk:Nat}{ms:List κ}{led:Bool}(M:ST.Mem D h' s.heap.objs.size ds led ms)
  (hk:∀b o,b<s.heap.objs.size->s.heap.get? b=some o->h'.get? b=some o):EP X pins σ Q (.ref s.heap.objs.size) {s with heap:=h',toks:=tk}:=by
 obtain⟨es,J,t,i,_,B⟩:=M.ex;have hl:es.size=ms.length:=by have:=cw B;simpa using this
 refine⟨.ref s.heap.objs.size,_,I.laid (t':=tk) (o:=szO s.heap.objs.size ms.length) (λb o e=>hk b o (aD e) e) (Nat.le_refl _) ?_,rfl,q _ _ (I.hok.fresh (Nat.le_refl _)) (dJe M.nd M.mem)⟩;refine⟨⟨es,J,t,D.obj i,D.fits i,hl⟩,⟨_,D.obj i⟩,?_⟩;rintro h1 h2 ⟨j,v,t',g,f,z⟩ k;exact⟨j,v,t',k _ g,f,z⟩
theorem cZ2(hc:X.calm=true)(hu:X.A.units+8<cB):CallR X (.type "set") (λxs H Q=>∃x ds,xs=[x]/\dT X.K (dT X.K dS) H x ds/\ds.length+1<=300/\∀p n,H p=none->SzOk ds n->Q (.ref p) (upd H p (szO p n))):=by
 intro pins s σ H xs us Q I r h;obtain⟨x,ds,rfl,⟨a,ys,rfl,j,p⟩,v,q⟩:=h;obtain⟨u,rfl,rx⟩:=aZp r;cases rx;obtain⟨its,i,pl,_⟩:=I.tuple j;exact ST.call_setT (ST.tupKd X.prog X.w) (I.ok.hd hc) hu pl (eXq I p i) (by rw[ar,<- i.length,p.length];exact v) λh' B ms M _ z=>dZx I q M z
theorem cZ3(hc:X.calm=true)(hu:X.A.units+8<cB):CallR X (.type "set") (λxs H Q=>∃x ds,xs=[x]/\dL X.K dS H x ds/\ds.length+1<=300/\∀p n,H p=none->SzOk ds n->Q (.ref p) (upd H p (szO p n))):=by
 intro pins s σ H xs us Q I r h;obtain⟨x,ds,rfl,⟨a,ys,rfl,j,p⟩,v,q⟩:=h;obtain⟨u,rfl,rx⟩:=aZp r;cases rx;obtain⟨its,i,pl,_⟩:=I.list j;exact ST.call_setK (ST.strKd X.prog X.w) (I.ok.hd hc) hu pl.isList (dZw p i) (by rw[ar,<- i.length,p.length];exact v) λh' B ms M _ z=>dZx I q M z
theorem cXb:CallR X (.builtin "len") (λxs H Q=>∃p n,xs=[.ref p]/\H p=some (szO p n)/\n<1000000/\Q (.int n) H):=by
 intro pins s σ H xs us Q I r h;obtain⟨p,n,rfl,i,j,q⟩:=h;obtain⟨u,rfl,rx⟩:=aZp r;cases rx;obtain⟨⟨es,v,t,g,f,z⟩,_⟩:=I.hok p _ i;refine call_len_set g ⟨rfl,rfl,rfl⟩ rfl f (by rw[z];omega) ⟨.int n,H,I.tok _,⟨_,by rw[z]⟩,q⟩
end
end L2
set_option maxHeartbeats 4000000
namespace L2
open PySem PySem.Spec PyProof.Rows
end L2
namespace HT
open PySem PyProof.Rows
def ltS(a b:Str):Bool:=decide (a.cps.toList<b.cps.toList)
def lexS:List Str->List Str->Bool
 |[],[]=>false
 |[],_::_=>true
 |_::_,[]=>false
 |x::xs,y::ys=>if x=y then lexS xs ys else ltS x y
theorem lexS_cons(x y:Str)(xs ys:List Str):lexS (x::xs) (y::ys)=if x=y then lexS xs ys else ltS x y:=rfl
theorem bZr:lexS [] []=false:=rfl
theorem lexS_nil_cons(y:Str)(ys:List Str):lexS [] (y::ys)=true:=rfl
theorem lexS_cons_nil(x:Str)(xs:List Str):lexS (x::xs) []=false:=rfl
abbrev SAre:List ad->List Str->Prop:=br λv x=>∃t,v=.str x t
theorem SAre.len{l:List ad}{m:List Str}(h:SAre l m):l.length=m.length:=cw h
theorem dJf(A:a4)(s:ak)(a:Str)(t:Tok)(c:Str)(u:Tok):∃e,c5 A s (.str a t) (.str c u) e/\(e=true↔a=c) :=
 ⟨(a==c),g9 a t c u,by simp⟩
theorem dJg(A:a4)(s:ak)(a:Str)(t:Tok)(c:Str)(u:Tok)(prog:aF)(w:aS)(E:ad->ak->Prop)(Q:ad->ak->Prop)(h:Q (.bool (ltS a c)) s) :
  aG (aE prog w) A (richCompare .Lt (.str a t) (.str c u)) Q E s :=
 (jw h:aG (aE prog w) A (cD .Lt (.str a t) (.str c u)) Q E s)
section
open PySem.SeqAt
open PySem.AutoSeq1 (wpAny_loadPart')
open PySem.MeetsSeq PySem.MeetsSeq2 PySem.MeetsSeq3
theorem tuple_lt_strs(l b:Addr)(items items2:Array ad)(n n2:Nat)(dd dd2:Option Addr)(sl sl2:Array (Option ad))(ns ms:List Str)(hi:SAre items.toList ns)(hj:SAre items2.toList ms) :
  Meets (cR.«tuple.__lt__» ⟨[.ref l,.ref b],[]⟩)
   (λ_ R s=>s.heap.get? l=some { cls:=.type "tuple",dict:=dd,data:=.seq items n,slots:=sl }/\s.heap.get? b=some { cls:=.type "tuple",dict:=dd2,data:=.seq items2 n2,slots:=sl2 } /\
    R (.ok (.ret (.bool (lexS ns ms)))) s) :=
 .of_wp λprog w A R s h=>by
  obtain⟨U,g,d,O,os⟩:=s;obtain⟨hl,hb,h⟩:=h;have f2:=AutoSeq1.sub_tuple_tuple;have z1:items.size=ns.length:=by rw[<- hi.len];simp
  have z2:items2.size=ms.length:=by rw[<- hj.len];simp
  wp_walk using wpAny_loadPart' hl,wpAny_loadPart' hb,iI _ (λrest b s'=>b.1=none/\s'=⟨U,g,d,O,os⟩/\∃ (N ws:List ad) (i j:List Str),rest=N.zip ws /\
   SAre N i/\SAre ws j/\i.length+items2.size=j.length+items.size/\R (.ok (.ret (.bool (lexS i j)))) ⟨U,g,d,O,os⟩) _
  case turn =>
   rintro⟨y,x⟩ rest b s' ⟨D,rfl,N,ws,i,j,hz,hvi,hwi,hlen,z⟩;cases hvi with
   |nil=>rw[List.zip_nil_left] at hz;cases hz
   |@cons va a _ _ ha L =>
    obtain⟨t,rfl⟩:=ha;cases hwi with
    |nil=>rw[hJ] at hz;cases hz
    |@cons vc c _ _ hc J =>
     obtain⟨u,rfl⟩:=hc;rw[eX] at hz;injection hz with Y B
     injection Y with hy hx
     subst hy hx;rw[lexS_cons] at z;simp only[bG] at hlen;obtain⟨e,he,v⟩:=dJf A.in1 ⟨U,g,d,O,os⟩ a t c u;refine aa (he prog w _ _ ?_);cases e with
     |true =>
      rw[if_pos (v.mp rfl)] at z
      wp_walk
      exact⟨rfl,rfl,_,_,_,_,B,L,J,by lia,z⟩
     |false =>
      rw[if_neg (λq=>absurd (v.mpr q) dH)] at z;have Z:=dJg A.in1 ⟨U,g,d,O,os⟩ a t c u prog w
      wp_walk using Z
      exact⟨_,rfl,by simpa using z⟩
  case fin =>
   rintro⟨b1,b2⟩ s' ⟨D,rfl,N,ws,i,j,hz,hvi,hwi,hlen,z⟩;simp only at D;subst D;have hv:lexS i j=decide (items.size<items2.size):=by
    cases hvi with
    |nil =>
     cases hwi with
     |nil =>
      simp only[dQ] at hlen;rw[bZr];exact(decide_eq_false (by lia)).symm
     |cons hc hw =>
      simp only[dQ,bG] at hlen;rw[lexS_nil_cons];exact(decide_eq_true (by lia)).symm
    |cons ha hv =>
     cases hwi with
     |nil =>
      simp only[dQ,bG] at hlen;rw[lexS_cons_nil];exact(decide_eq_false (by lia)).symm
     |cons hc hw =>
      rw[eX] at hz;cases hz
   rw[hv] at z
   wp_walk
   exact⟨_,rfl,by simpa [cR.Tuple.tupleCompareSizes] using z⟩
  case h =>
   exact⟨rfl,rfl,items.toList,items2.toList,ns,ms,rfl,hi,hj,by lia,h⟩
end
section
variable{prog:aF}{w:aS}{A:a4}{E:ad->ak->Prop}{s:ak}
theorem lt_tupStrs{l b:Addr}{items items2:Array ad}{ns ms:List Str}{Q:ad->ak->Prop}(hl:iA s.heap l items)(hb:iA s.heap b items2)(hi:SAre items.toList ns)(hj:SAre items2.toList ms)
  (hu:A.units<cB) (h:Q (.bool (lexS ns ms)) s):aG (aE prog w) A (cD .Lt (.ref l) (.ref b)) Q E s:=by
 obtain⟨⟨cls,dd,data,sl⟩,B,D,n,hd⟩:=id hl;obtain⟨⟨J,z,data2,v⟩,i,j,L,hd2⟩:=id hb;simp only at D hd j hd2;subst D hd j hd2;exact richCompare_meets_room (op:=.Lt) ⟨_,B,rfl⟩ ⟨_,i,rfl⟩ gp i8 (iL _ _) (tuple_lt_strs l b items items2 n L dd z sl v ns ms hi hj)
  ⟨B,i,show ad.bool (lexS ns ms)≠ad.notImplemented/\Q (.bool (lexS ns ms)) s from⟨(λx=>nomatch x),h⟩⟩ hu
end
end HT
namespace L2
open PySem PySem.Spec PyProof.Rows
theorem bQw{H:Hp}:∀{xs:List V}{us:List ad}{ds:List Str},br (dS H) xs ds->Vals xs us->HT.SAre us ds
 |_,_,_,.nil,.nil=>.nil
 |_,_,_,.cons p q,.cons r t=>by
  cases p;exact .cons r (bQw q t)
def rLtS(K:Fg):R2:=λx y H Q=>∃d e,dT K dS H x d/\dT K dS H y e/\Q (.bl (HT.lexS d e)) H
theorem eXr{X:Cx}(hu:X.A.units<cB):OpR X (cD .Lt) (rLtS X.K):=by
 intro pins s σ H x y v u Q I rx ry h;obtain⟨d,e,⟨a,xs,rfl,N,D⟩,⟨b,ys,rfl,L,B⟩,q⟩:=h;cases rx;cases ry;obtain⟨its,z,J,_⟩:=I.tuple N;obtain⟨i,j,p2,_⟩:=I.tuple L;exact HT.lt_tupStrs J p2 (bQw D z) (bQw B j) hu ⟨.bl (HT.lexS d e),H,I,rfl,q⟩
end L2
set_option maxHeartbeats 1000000
namespace L2
open PySem PySem.Spec PyProof.Rows
variable{α β γ:Type}
theorem nd_(l:List Str)(h:l.Nodup:=by decide +kernel):l.Nodup:=h
theorem lt64{k n:Nat}{A:a4}(r:Room k A)(h:n<=64:=by decide):A.units+n<cB:=by have:=r.units;omega
section
variable{X:Cx}{K:Fg}{tg:Expr}{a:Expr}{ta:TE}
theorem dJh(hK:X.K=K:=by rfl):SlR X (rSlT K):=hK▸eXf
theorem dQn(hK:X.K=K:=by rfl):SlR X (rSlL K):=hK▸dJ2
theorem dQo(hK:X.K=K:=by rfl):OpR X (er .Add) (dJ0 K):=hK▸dJ1
theorem bXs(hK:X.K=K:=by rfl):CallR X (.type "tuple") (λxs H Q=>∃p ys,xs=[.ref p]/\((SqL K H p ys/\∀l,H l=none->Q (.ref l) (upd H l (.tup ys)))\/(SqT K H p ys/\Q (.ref p) H))):=hK▸bQn
theorem cZ4(hK:X.K=K:=by rfl):CallR X (.type "list") (λxs H Q=>∃p ys,xs=[.ref p]/\(SqL K H p ys\/SqT K H p ys)/\∀l,H l=none->Q (.ref l) (upd H l (.lst ys))):=hK▸call_list_of
theorem cXc(hK:X.K=K:=by rfl)(hc:X.calm=true:=by rfl):CallR X (.builtin "all") (λxs H Q=>∃x bs,xs=[x]/\dL K dB H x bs/\Q (.bl (bs.all id)) H):=hK▸cX9 hc
theorem cXd(hK:X.K=K:=by rfl)(hc:X.calm=true:=by rfl):CallR X (.builtin "any") (λxs H Q=>∃x bs,xs=[x]/\dL K dB H x bs/\Q (.bl (bs.any id)) H):=hK▸cXa hc
theorem bXt(hu:X.A.units+8<cB)(hK:X.K=K:=by rfl)(hc:X.calm=true:=by rfl):CallR X (.type "set") (λxs H Q=>∃x ds,xs=[x]/\dT K (dT K dS) H x ds/\ds.length+1<=300/\∀p n,H p=none->SzOk ds n->Q (.ref p) (upd H p (szO p n))):=hK▸cZ2 hc hu
theorem bXu(hu:X.A.units+8<cB)(hK:X.K=K:=by rfl)(hc:X.calm=true:=by rfl):CallR X (.type "set") (λxs H Q=>∃x ds,xs=[x]/\dL K dS H x ds/\ds.length+1<=300/\∀p n,H p=none->SzOk ds n->Q (.ref p) (upd H p (szO p n))):=hK▸cZ3 hc hu
theorem dJi(hu:X.A.units<cB)(hK:X.K=K:=by rfl):OpR X (cD .Lt) (rLtS K):=hK▸eXr hu
theorem cXe(ha:PE X a ta)(he:∀whole,isTrue a X.env whole=(do let v <- whole;fF a.pos;fb [v] (truthy v)))(hK:X.K=K:=by rfl):PT X a (fun σ H Q=>ta σ H λx H'=>∃k,TruV K x H' k/\Q k H'):=by subst hK;exact dQ5 ha he
end
end L2
set_option maxHeartbeats 4000000
namespace KS
open PySem PySem.W PyProof.Rows
variable{lt:Nat->Nat->Bool}{n:Nat}
end KS
set_option maxHeartbeats 1000000
namespace ST
open PySem PySem.SetTable PySem.Spec PyProof.Rows
theorem bQ2:entryFor table "set.__iter__"=some cR.«frozenset.__iter__»:=entryFor_alias (id':="frozenset.__iter__") (by kernel_rfl) rfl (by decide +kernel) (by kernel_rfl)
theorem slot_setit_next:Slot "set_iterator" "__next__" "set_iterator.__next__" :=
 .of (owner:="set_iterator") (n:="__next__") (by rw[typeLookup_type,builtinLookup_eq_fast];kernel_rfl) (by decide +kernel) (by decide +kernel) (by decide +kernel)
  (by first|exact .inl (by decide +kernel)|exact .inr (by decide +kernel)) (by rw[isSubtype_type];kernel_rfl)
theorem aJ3:entryFor table "set_iterator.__next__"=some cR.«set_iterator.__next__»:=entryFor_of_tree (by kernel_rfl)
theorem aJp(a:ad):argsOk "set_iterator.__next__" ⟨[a],[]⟩:=by unfold argsOk;kernel_rfl
theorem dQp:typeLookup (.type "set") "__len__"=pure (some (.builtin "set.__len__")):=by rw[typeLookup_type,builtinLookup_eq_fast];kernel_rfl
section
variable{prog:aF}{w:aS}{A:a4}{E:ad->ak->Prop}{s:ak}
theorem dJj{p:Addr}{es:Array (Int×ad)}{ep:Nat}{t:aT}{Q:Bool->ak->Prop}(ho:s.heap.get? p=some (setOb es ep t))(h:Q false s):aG (aE prog w) A (gN (.ref p)) Q E s:=by
 have i:s.TypeIs (.ref p) "set":=⟨_,ho,rfl⟩;unfold gN;refine aa (wpAny_specialOf i dQp ?_);dsimp only;have v:splitId "set.__len__"=some ("set", "__len__"):=by decide +kernel
 rw[v];dsimp only;refine aa (wpAny_isInstance (b:=true) i (by rw[isSubtype_type];kernel_rfl) ?_)
 rw[if_neg (show ¬ ((!true)=true) by decide)]
 refine gI (λj=>?_) (λj=>absurd (by decide +kernel) j)
 refine aa (fY i ?_);exact af h
theorem bQf{α:Type}{l:List α}{i:Nat}(h:i<l.length):(l[i]::l.eraseIdx i).Perm l:=by
 have e:l=l.take i++l[i]::l.drop (i+1):=by
  rw[<- cS h,bb]
 rw[List.eraseIdx_eq_take_drop_succ];refine fx.symm.trans ?_;rw[<- e]
theorem dJk{n:Nat}{Q:Nat->ak->Prop}(hn:n≠0)(h:∀i,i<n->Q i {s with drawn:=s.drawn.bump .order}):aG (aE prog w) A (choose .order n) Q E s:=fun Γ p hΓ=>by
 show Sem.wp _ _ (.choose .order n .pure) _ _ _ _;rw[Sem.wp_choose];exact⟨hn,h _ (Nat.mod_lt _ (Nat.pos_of_ne_zero hn))⟩
theorem eXs{α:Type}:∀(n:Nat) (xs:List α) {s:ak}{Q:List α->ak->Prop},xs.length=n->(∀ys d,ys.Perm xs->Q ys {s with drawn:=d})->aG (aE prog w) A (drawOrder n xs) Q E s
 |0,xs,s,Q,hl,h=>by
  have e:xs=[]:=eN.mp hl;subst e;unfold drawOrder;exact af (h [] s.drawn (dq _))
 |n+1,xs,s,Q,hl,h=>by
  cases xs with
  |nil=>cases hl
  |cons x r =>
   unfold drawOrder;refine aa ?_;have j:(x::r).length≠0:=by simp
   refine dJk j λi hi=>?_;have z:(x::r)[i]?=some (x::r)[i]:=ag hi;rw[z];dsimp only;refine aa (eXs n ((x::r).eraseIdx i) (s:={s with drawn:=s.drawn.bump .order}) (by rw[hU hi];simp at hl ⊢;omega) λys d v=>?_)
   refine af (h _ d ?_);refine(v.cons _).trans ?_;exact bQf hi
theorem bZs{α:Type}(next:Nat->Nat):∀(fuel k:Nat) (left:List α) (out:Array α),left.length=fuel->(jE next fuel k left out).toList.Perm (out.toList++left)
 |0,k,left,out,hl=>by
  have e:left=[]:=eN.mp hl;subst e;unfold jE;rw[bB]
 |fuel+1,k,left,out,hl=>by
  unfold jE;have hi:next k%left.length<left.length:=Nat.mod_lt _ (by omega)
  rw[ag hi];dsimp only;refine(bZs next fuel (k+1) _ _ (by rw[hU hi];omega)).trans ?_
  rw[ca,aV];exact d7 _ (bQf hi)
theorem bQ3{α:Type}(next:Nat->Nat)(xs:Array α):(gS next xs).toList.Perm xs.toList:=by
 have:=bZs next xs.size 0 xs.toList #[] (by simp)
 simpa [gS] using this
def itOb(first:ad)(i:Nat)(p:Addr)(n ep:Nat):Obj:={cls:=.type "set_iterator",dict:=none,data:=.fields #[first,.int i 0,.ref p,.int n 0,.int ep 0],slots:=#[]}
theorem dJl{I:Addr}{Q:Option ad->ak->Prop}{s:ak}(hh:A.in1.handled=none)(h:∀h',(∀b o,s.heap.get? b=some o->h'.get? b=some o)->Q none {s with heap:=h'}) :
  aG (aE prog w) A.in1 (newExc (.type "StopIteration") []>>=λe=>(raiseNew e:Sem Fin)) (λfin s'=>∃r,fin=.done (.ret r)/\aG (aE prog w) A (pure (some r)) Q E s') (λe s'=>aG (aE prog w) A (do if <- isInstance e (.type "StopIteration") then pure none else throw e) Q E s') s:=by
 refine aa ?_;simp only[newExc,newTuple];refine aa (bu ?_ (by size_fits))
 refine aa (m:=firstArgMember _ _) (wpAny_of_eq (a:=cK) (by first|rfl|(simp only[firstArgMember];rfl)) ?_)
 refine bu ?_ (by size_fits)
 simp only[raiseNew];refine aa (wpAny_handled ?_);rw[hh];refine aa (af (wpAny_throw ?_));refine aa (wpAny_isInstance (T:="StopIteration") (b:=true) ⟨_,av _ rfl,rfl⟩ isSubtype_stop ?_);exact af (h _ λb o e=>ae _ (ae _ e))
theorem aXl{I p:Addr}{es:Array (Int×ad)}{ep:Nat}{t:aT}{first:ad}{i:Nat}{Q:Option ad->ak->Prop}(hp:s.heap.get? p=some (setOb es ep t))(hf:t.fits es.size=true)(hI:s.heap.get? I=some (itOb first i p es.size ep))
  (h:aG (aE prog w) A.in1 (if let .int slot _:=first then do
    match <- setNext p slot.toNat (i:Int).toNat (ep:Int).toNat with
    |some (x,next)=>do
     jo (.ref I) 0 (e8 next)
     jo (.ref I) 1 (e8 ((i:Int)+1))
     ret x
    |none=>do jo (.ref I) 2 .none;raiseNew (<- newExc (.type "StopIteration") [])
   else do
    let some places <- seqItems? first|eR "internal:set_iterator"
    match places[(i:Int).toNat]? with
    |some (.int place _)=>do
     let x <- setNextDrawn p place.toNat (ep:Int).toNat
     jo (.ref I) 1 (e8 ((i:Int)+1))
     ret x
    |some _=>eR "internal:set_iterator"
    |none=>do jo (.ref I) 0 (e8 0);jo (.ref I) 2 .none;raiseNew (<- newExc (.type "StopIteration") []))
   (λfin s'=>∃r,fin=.done (.ret r)/\aG (aE prog w) A (pure (some r)) Q E s') (λe s'=>aG (aE prog w) A (do if <- isInstance e (.type "StopIteration") then pure none else throw e) Q E s') s) :
  aG (aE prog w) A (eV (.ref I)) Q E s:=by
 have j:s.TypeIs (.ref I) "set_iterator":=⟨_,hI,rfl⟩;unfold eV;refine aa (wpAny_attempt (fP (name:=Str.ofString "__next__") j slot_setit_next
  (d0 slot_setit_next j aJ3 ?_ (aJp _))))
 unfold cR.«set_iterator.__next__» slotArgs;simp only[iM,fE,aN,↓reduceIte,bind_assoc,dQ,bne_self_eq_false];refine aa (af ?_)
 try dsimp only
 refine aa (wpAny_fieldsOf hI rfl ?_);dsimp only;refine aa (wpAny_setEntries_of hp rfl hf ?_);rw[if_neg (by simp)]
 exact h
structure Gives(prog:aF)(w:aS)(A:a4)(I:Addr)(fp:List Addr)(vals:List ad)(St:Nat->bd->Prop):Prop where
 mem:I∈fp
 frame:∀i h h',St i h->(∀b∈fp,∀o,h.get? b=some o->h'.get? b=some o)->St i h'
 item:∀(i:Nat) (s:ak) (v:ad) (Q:Option ad->ak->Prop) (E:ad->ak->Prop),vals[i]?=some v->St i s.heap ->
  (∀h',St (i+1) h'->(∀b o,b≠I->s.heap.get? b=some o->h'.get? b=some o)->Q (some v) {s with heap:=h'})->aG (aE prog w) A (eV (.ref I)) Q E s
 done:∀(s:ak) (Q:Option ad->ak->Prop) (E:ad->ak->Prop),St vals.length s.heap ->
  (∀h',(∀b o,b≠I->s.heap.get? b=some o->h'.get? b=some o)->Q none {s with heap:=h'})->aG (aE prog w) A (eV (.ref I)) Q E s
theorem cQ3{p:Addr}{es:Array (Int×ad)}{ep i:Nat}{t:aT}{Q:Option (ad×Nat)->ak->Prop}(hp:s.heap.get? p=some (setOb es ep t))(hf:t.fits es.size=true)(hw:w.params.followText "set-order"=true)
  (h:Q (((gS (w.params.setOrder p ep) es)[i]?).map λe=>(e.2,0)) s):aG (aE prog w) A (setNext p (0:Int).toNat (i:Int).toNat (ep:Int).toNat) Q E s:=by
 unfold setNext;refine aa (dr hp rfl hf ?_);dsimp only;unfold i9;refine aa (aa (c9 (af ?_)));have j:(aE prog w).w.params.followText "set-order"=true:=hw;rw[j,if_pos rfl,if_neg (by simp)]
 unfold setWalk;refine aa (aa (dr hp rfl hf ?_));dsimp only;unfold i9;refine aa (aa (c9 (af ?_)));rw[j,if_pos rfl];refine aa (c9 ?_);refine af (af ?_);rw[b8];exact h
theorem eXt{p I T:Addr}{es:Array (Int×ad)}{ep:Nat}{t:aT}{vals:List ad}{places:Array ad}(hh:A.in1.handled=none)(hTI:T≠I)(hpI:p≠I)(hl:places.size=vals.length)
  (hpl:∀(j:Nat) (pl:ad),places[j]?=some pl->∃q:Nat,pl=jt (q:Int) 0/\∃e,es[q]?=some e/\vals[j]?=some e.2) :
  Gives prog w A I [I,p,T] vals (λi h=>h.get? p=some (setOb es ep t)/\t.fits es.size=true/\h.get? I=some (itOb (.ref T) i p es.size ep)/\∃o c,h.get? T=some o/\o.data=.seq places c) where
 mem:=by simp
 frame:=λi h h' st k=>by
  obtain⟨h1,h2,z,o,c,D,B⟩:=st;exact⟨k p (by simp) _ h1,h2,k I (by simp) _ z,o,c,k T (by simp) _ D,B⟩
 item:=λi s v Q E U st L=>by
  obtain⟨h1,h2,z,o,c,D,B⟩:=st;refine aXl h1 h2 z ?_;dsimp only;refine aa (eL D B ?_);dsimp only;have hi:i<places.size:=by rw[hl];exact(aC.mp U).1
  obtain⟨q,e1,e,e2,Y⟩:=hpl i places[i] (by simp[hi])
  have O:places[(i:Int).toNat]?=some (jt (q:Int) 0):=by rw[b8,<- e1];simp[hi]
  rw[O];dsimp only;have ev:e.2=v:=by rw[U] at Y;exact(aQ Y).symm
  refine aa ?_;unfold setNextDrawn;refine aa (dr h1 rfl h2 ?_);dsimp only;rw[if_neg (by simp),b8,e2]
  dsimp only;refine af ?_;refine aa (cM z (by show 1<5;decide) λh' g1 g2=>?_)
  rw[ev];refine af ⟨v,rfl,af (L h' ⟨?_,h2,?_,o,c,?_,B⟩ λb o' J e=>(g2.2 b J).trans e)⟩
  ·exact(g2.2 p hpI).trans h1
  ·exact g1
  ·exact(g2.2 T hTI).trans D
 done:=λs Q E st L=>by
  obtain⟨h1,h2,z,o,c,D,B⟩:=st;refine aXl h1 h2 z ?_;dsimp only;refine aa (eL D B ?_);dsimp only;have O:places[(vals.length:Int).toNat]?=none:=by rw[b8,<- hl];simp
  rw[O];dsimp only;refine aa (cM z (by show 0<5;decide) λh' g1 g2=>?_)
  refine aa (cM g1 (by show 2<5;decide) λZ g3 g4=>?_)
  exact dJl (I:=I) hh λN k=>L N λb o' J e=>k b o' ((g4.2 b J).trans ((g2.2 b J).trans e))
theorem eXu{p I:Addr}{es:Array (Int×ad)}{ep:Nat}{t:aT}{vals:List ad}(hh:A.in1.handled=none)(hpI:p≠I)(hw:w.params.followText "set-order"=true)(hv:vals=(gS (w.params.setOrder p ep) es).toList.map (·.2)) :
  Gives prog w A I [I,p] vals (λi h=>h.get? p=some (setOb es ep t)/\t.fits es.size=true/\h.get? I=some (itOb (.int 0 0) i p es.size ep)) where
 mem:=by simp
 frame:=λi h h' st k=>by
  obtain⟨h1,h2,j⟩:=st;exact⟨k p (by simp) _ h1,h2,k I (by simp) _ j⟩
 item:=λi s v Q E hv' st J=>by
  obtain⟨h1,h2,j⟩:=st;refine aXl h1 h2 j ?_;dsimp only;refine aa (cQ3 h1 h2 hw ?_);have N:((gS (w.params.setOrder p ep) es)[i]?).map (λe=>(e.2,0))=some (v,0):=by
   rw[hv,aJ,aL] at hv';cases q:(gS (w.params.setOrder p ep) es)[i]? with
   |none=>rw[q] at hv';cases hv'
   |some e=>rw[q] at hv';cases hv';rfl
  rw[N];dsimp only;refine aa (cM j (by show 0<5;decide) λh' g1 g2=>?_)
  refine aa (cM g1 (by show 1<5;decide) λz g3 D=>?_)
  refine af ⟨v,rfl,af (J z ⟨?_,h2,g3⟩ λb o' B e=>(D.2 b B).trans ((g2.2 b B).trans e))⟩;exact(D.2 p hpI).trans ((g2.2 p hpI).trans h1)
 done:=λs Q E st J=>by
  obtain⟨h1,h2,j⟩:=st;refine aXl h1 h2 j ?_;dsimp only;refine aa (cQ3 h1 h2 hw ?_);have N:(gS (w.params.setOrder p ep) es)[vals.length]?=none:=by
   rw[hv];simp
  rw[N];dsimp only[Option.map];refine aa (cM j (by show 2<5;decide) λz g3 D=>?_)
  exact dJl (I:=I) hh λL k=>J L λb o' B e=>k b o' ((D.2 b B).trans e)
end
end ST
set_option maxHeartbeats 4000000
namespace ST
open PySem PySem.SetTable PySem.Spec PyProof.Rows
section
variable{prog:aF}{w:aS}{A:a4}{E:ad->ak->Prop}{s:ak}
theorem bZt{p:Addr}{es:Array (Int×ad)}{ep i sl:Nat}{t:aT}{Q:Option (ad×Nat)->ak->Prop}(hp:s.heap.get? p=some (setOb es ep t))(hf:t.fits es.size=true)(hw:w.params.followText "set-order"=false)(hled:t.led=true)(h1:es.size<=1)
  (h:Q (match es[below t.place sl]?,t.place[below t.place sl]? with|some (_,x),some j=>some (x,j+1)|_,_=>none) s):aG (aE prog w) A (setNext p (sl:Int).toNat (i:Int).toNat (ep:Int).toNat) Q E s:=by
 unfold setNext;refine aa (dr hp rfl hf ?_);dsimp only;unfold i9;refine aa (aa (c9 (af ?_)));have v:(aE prog w).w.params.followText "set-order"=false:=hw;rw[v,if_neg dH];refine gI (λB=>?_) (λ_=>?_)
 ·have z:(!t.plain&&decide (es.size>1))=true:=B;simp only[a6,decide_eq_true_eq] at z;lia
 ·refine aa ?_;show aG _ _ (if (!t.led && !es.isEmpty)=true then eR "set:maker-not-led" else pure ()) _ _ _
  rw[hled,if_neg (by simp)]
  refine af ?_;refine af ?_;rw[b8];exact h
theorem bZu(j sl:Nat):below #[j] sl=if j<sl then 1 else 0:=by
 unfold below;simp only[ar,d6];unfold below.go;simp only[Nat.lt_irrefl,if_true,Nat.zero_lt_one]
 split
 ·rename_i h;have h':j<sl:=by simpa using h
  rw[if_pos h'];rfl
 ·rename_i h;have h':¬ j<sl:=by simpa using h
  rw[if_neg h'];rfl
theorem cQ4{es:Array (Int×ad)}{t:aT}(hf:t.fits es.size=true):t.place.size=es.size:=by
 unfold jz at hf;simp only[a6,beq_iff_eq] at hf;exact hf.1
theorem eXv{p I:Addr}{es:Array (Int×ad)}{ep:Nat}{t:aT}{vals:List ad}(hh:A.in1.handled=none)(hpI:p≠I)(hw:w.params.followText "set-order"=false)(hled:t.led=true)(h1s:es.size<=1)(hv:vals=es.toList.map (·.2)) :
  Gives prog w A I [I,p] vals (λi h=>h.get? p=some (setOb es ep t)/\t.fits es.size=true/\∃sl:Nat,h.get? I=some (itOb (.int sl 0) i p es.size ep)/\(i=0->sl=0)/\(i=1->∀j,t.place=#[j]->sl=j+1)) where
 mem:=by simp
 frame:=λi h h' st k=>by
  obtain⟨h1,h2,sl,D,U⟩:=st;exact⟨k p (by simp) _ h1,h2,sl,k I (by simp) _ D,U⟩
 item:=λi s v Q E B st hQ=>by
  obtain⟨h1,h2,sl,D,U,h5⟩:=st;refine aXl h1 h2 D ?_;dsimp only;refine aa (bZt h1 h2 hw hled h1s ?_);have hi:i<es.size:=by
   have:=(aC.mp B).1
   rw[hv] at this;simpa using this
  have i0:i=0:=by lia
  subst i0;have Z:=U rfl;subst Z;have hps:=cQ4 h2;obtain⟨j,N⟩:∃j,t.place=#[j]:=by
   have:t.place.size=1:=by lia
   exact⟨t.place[0],Array.ext (by simp[this]) λk hk1 hk2=>by
    have:k=0:=by lia
    subst this;simp⟩
  rw[N,bZu,if_neg (Nat.not_lt_zero _)];have ee:es[0]?=some es[0]:=by simp[hi]
  have e0:es[0].2=v:=by
   rw[hv,aJ,aL,ee] at B;exact aQ B
  have e1:es[0]?=some (es[0].1,v):=by rw[ee,<- e0]
  have e2:(#[j]:Array Nat)[0]?=some j:=rfl;rw[e1,e2];dsimp only;refine aa (cM D (by show 0<5;decide) λh' g1 g2=>?_)
  refine aa (cM g1 (by show 1<5;decide) λJ g3 Y=>?_)
  refine af ⟨v,rfl,af (hQ J ⟨?_,h2,j+1,g3,(λz=>nomatch z),λ_ j' L=>?_⟩ λb o' O e=>(Y.2 b O).trans ((g2.2 b O).trans e))⟩
  ·exact(Y.2 p hpI).trans ((g2.2 p hpI).trans h1)
  ·rw[N] at L
   have:=congrArg (λa:Array Nat=>a[0]?) L
   simp at this;rw[this]
 done:=λs Q E st hQ=>by
  obtain⟨h1,h2,sl,D,U,h5⟩:=st;refine aXl h1 h2 D ?_;dsimp only;refine aa (bZt h1 h2 hw hled h1s ?_);have hlen:vals.length=es.size:=by rw[hv];simp
  have hps:=cQ4 h2;have nn:es[below t.place sl]?=none:=by
   by_cases c:es.size=0
   ·simp[c]
   ·have c1:es.size=1:=by lia
    obtain⟨j,N⟩:∃j,t.place=#[j]:=by
     have:t.place.size=1:=by lia
     exact⟨t.place[0],Array.ext (by simp[this]) λk hk1 hk2=>by
      have:k=0:=by lia
      subst this;simp⟩
    have:=h5 (by lia) j N
    rw[N,bZu,if_pos (by lia)]
    simp[c1]
  rw[nn];dsimp only;refine aa (cM D (by show 2<5;decide) λJ g3 Y=>?_)
  exact dJl (I:=I) hh λh3' k=>hQ h3' λb o' O e=>k b o' ((Y.2 b O).trans e)
theorem fZ6{p:Addr}{es:Array (Int×ad)}{ep:Nat}{t:aT}{Q:ad->ak->Prop}(hh:A.in1.handled=none)(hp:s.heap.get? p=some (setOb es ep t))(hf:t.fits es.size=true)(hled:t.led=ledOf w)(hpl:t.plain=true->es.size<=1)(hn:es.size<=300)
  (h:∀I fp vals St h' d,vals.Perm (es.toList.map (·.2))->Gives prog w A I fp vals St->St 0 h'->s.heap.objs.size<=I->(∀b∈fp,b=p\/s.heap.objs.size<=b)->(∀b o,s.heap.get? b=some o->h'.get? b=some o)->Q (.ref I) {s with heap:=h',drawn:=d}) :
  aG (aE prog w) A (ir (.ref p)) Q E s:=by
 have hT:s.TypeIs (.ref p) "set":=⟨_,hp,rfl⟩;have Y:p<s.heap.objs.size:=aD hp;refine wpAny_pyIter_slot hT ji (d0 ji hT bQ2 ?_ (PySem.F.args_set_iter_1 _));unfold cR.«frozenset.__iter__» cR.Frozenset.slot0 slotArgs;simp only[iM,fE,aN,↓reduceIte,bind_assoc,dQ,bne_self_eq_false];unfold iw cR.Frozenset.sizeOf;refine aa (af ?_)
 try dsimp only
 refine aa (af ?_);refine aa (aa (wpAny_setEntries_of hp rfl hf (af ?_)));unfold setDrawn i9;refine aa (aa (dr hp rfl hf ?_));dsimp only;refine aa (aa (c9 (af ?_)));refine af ?_;have fin:∀(first:ad) (h1:bd) (d:Drawn) (Q':Fin->ak->Prop),h1.get? p=some (setOb es ep t) ->
   Q' (.done (.ret (.ref h1.objs.size))) {s with heap:=h1.push (itOb first 0 p es.size ep),drawn:=d} ->
   aG (aE prog w) A.in1 (do
    let e <- setEpoch p
    let v <- newFields "set_iterator" [first,e8 0,.ref p,e8 es.size,e8 e]
    ret v) Q' E {s with heap:=h1,drawn:=d}:=by
  intro first h1 d Q' ho hQ';refine aa (wpAny_setEpoch_of (s:={s with heap:=h1,drawn:=d}) ho rfl hf ?_)
  exact aa (bu (af hQ'))
 refine gI (λhc=>?_) (λhc=>?_)
 ·refine aa (eXs es.size (a7 es.size) (by simp) λys d B=>?_)
  have yl:ys.length=es.size:=by have:=B.length_eq;simpa using this
  have yr:∀q∈ys,q<es.size:=λq hq=>aZ.mp (B.mem_iff.mp hq);obtain⟨f1,f2⟩:=bJx (l:=ys) (f:=λq=>(es[q]?).map (·.2)) (λq hq=>by have:=yr q hq;simp[this])
  refine aa (bu ?_ (by show(ys.map λ(i:Nat)=>e8 i).toArray.size<=sizeLine;rw[ar,am,yl,bf];lia))
  generalize N:s.heap.push _=h1;have D:h1.objs.size=s.heap.objs.size+1:=by rw[<- N,cC]
  have old:∀b o,s.heap.get? b=some o->h1.get? b=some o:=λb o e=>by rw[<- N];exact ae _ e
  have hTup:h1.get? s.heap.objs.size=some {cls:=.type "tuple",dict:=none,data:=.seq (ys.map λ(i:Nat)=>e8 i).toArray}:=by rw[<- N];exact av _ rfl
  refine fin (.ref s.heap.objs.size) h1 d _ (old p _ hp) ?_;have G:=eXt (prog:=prog) (w:=w) (A:=A) (p:=p) (I:=h1.objs.size) (T:=s.heap.objs.size) (es:=es) (ep:=ep) (t:=t) (vals:=ys.filterMap λq=>(es[q]?).map (·.2)) (places:=(ys.map λ(i:Nat)=>e8 i).toArray) hh (by rw[D];exact Nat.ne_of_lt (Nat.lt_succ_self _)) (by rw[D];exact Nat.ne_of_lt (Nat.lt_succ_of_lt Y)) (by simp[f1]) (λj pl hj=>by
   have hj':(ys.map λ(i:Nat)=>e8 i)[j]?=some pl:=by simpa using hj
   rw[aJ] at hj';cases q:ys[j]? with
   |none=>rw[q] at hj';cases hj'
   |some z =>
    rw[q] at hj';have hz:=yr z (ao q);refine⟨z,(aQ hj').symm,es[z],by simp[hz],?_⟩
    rw[f2 j,q];simp[hz])
  refine⟨_,rfl, "set_iterator",_,⟨_,av _ rfl,rfl⟩,slot_setit_next.lookup,h _ _ _ _ _ d ?_ G ⟨ae _ (old p _ hp),hf,av _ rfl,_,_,ae _ hTup,rfl⟩ (by rw[D];exact Nat.le_succ _) (λb Z=>?_) λb o e=>ae _ (old b o e)⟩
  ·refine(B.filterMap _).trans ?_;have e:(a7 es.size).filterMap (λq=>(es[q]?).map (·.2))=es.toList.map (·.2):=by
    rw[<- bJz es,List.map_filterMap]
   rw[e]
  ·simp only[aK,gv,or_false] at Z;rcases Z with e|e|e
   ·right;rw[e,D];exact Nat.le_succ _
   ·exact .inl e
   ·right;rw[e];exact Nat.le_refl _
 ·refine aa (af ?_);refine fin (e8 0) s.heap s.drawn _ hp ?_;have O:p≠s.heap.objs.size:=Nat.ne_of_lt Y;have small:∀b∈[s.heap.objs.size,p],b=p\/s.heap.objs.size<=b:=λb Z=>by
   simp only[aK,gv,or_false] at Z;rcases Z with e|e
   ·right;rw[e];exact Nat.le_refl _
   ·exact .inl e
  by_cases hw:w.params.followText "set-order"=true
  ·have G:=eXu (prog:=prog) (w:=w) (A:=A) (p:=p) (I:=s.heap.objs.size) (es:=es) (ep:=ep) (t:=t) hh O hw rfl;exact⟨_,rfl, "set_iterator",_,⟨_,av _ rfl,rfl⟩,slot_setit_next.lookup,h _ _ _ _ _ s.drawn ((bQ3 _ _).map _) G ⟨ae _ hp,hf,av _ rfl⟩ (Nat.le_refl _) small λb o e=>ae _ e⟩
  ·have L:w.params.followText "set-order"=false:=eB.mpr hw;have h1:es.size<=1:=by
    have J:¬ ((!(w.params.followText "set-order")&&(!t.plain&&decide (es.size>1)))=true):=hc;rw[L] at J
    by_cases U:t.plain=true
    ·exact hpl U
    ·have:t.plain=false:=eB.mpr U
     rw[this] at J;simp at J;exact J
   have hl':t.led=true:=by rw[hled];show(!(w.params.followText "set-order"))=true;rw[L];rfl
   have G:=eXv (prog:=prog) (w:=w) (A:=A) (p:=p) (I:=s.heap.objs.size) (es:=es) (ep:=ep) (t:=t) hh O L hl' h1 rfl;exact⟨_,rfl, "set_iterator",_,⟨_,av _ rfl,rfl⟩,slot_setit_next.lookup,h _ _ _ _ _ s.drawn (dq _) G ⟨ae _ hp,hf,0,av _ rfl,λ_=>rfl,(λz=>nomatch z)⟩ (Nat.le_refl _) small λb o e=>ae _ e⟩
theorem dQq{I S:Addr}{fp:List Addr}{vals:List ad}{St:Nat->bd->Prop}{R:Result->ak->Prop}(G:Gives prog w A.in1 I fp vals St)(hn:vals.length<=300)(hSf:S∉fp)(res:ad) :
  ∀(k i:Nat) (s:ak) (c:Nat),vals.length-i=k->i<=vals.length->St i s.heap->s.heap.get? S=some {cls:=.type "list",dict:=none,data:=.seq (vals.take i).toArray c,slots:=#[]} ->
  (∀h' c',(∀b o,b≠S->b≠I->s.heap.get? b=some o->h'.get? b=some o)->h'.get? S=some {cls:=.type "list",dict:=none,data:=.seq vals.toArray c',slots:=#[]}->R (.ok (.ret res)) {s with heap:=h'}) ->
  ew (aE prog w) A (.builtin "list.extend.loop" ⟨[.ref S,.ref I,res],[]⟩) R s:=by
 have L:S≠I:=λe=>hSf (e▸G.mem);intro k
 induction k with
 |zero =>
  intro i s c hk hi j U hR;have Z:i=vals.length:=by lia
  subst Z;refine bM ie ?_;rw[bq d9 _];show aG _ A.in1 (eV (.ref I)>>=_) _ _ s;refine aa (G.done s _ _ j λh' B=>?_);rw[bi (Nat.le_refl _)] at U;exact af (hR h' c (λb o _ hb e=>B b o hb e) (B S _ L U))
 |succ k ih =>
  intro i s c hk hi j U hR;have z:i<vals.length:=by lia
  have hv:vals[i]?=some vals[i]:=ag z;refine bM ie ?_;rw[bq d9 _];show aG _ A.in1 (eV (.ref I)>>=_) _ _ s;refine aa (G.item i s _ _ _ hv j λh1 Y k1=>?_);have O:=k1 S _ L U;have szl:=bf;have v:(vals.take i).toArray.size=i:=by rw[ar,aR];lia
  show aG _ A.in1 (updateSeq S (·.push vals[i])>>=_) _ _ _;refine aa ?_;refine e6 (s:={s with heap:=h1}) O rfl (af ⟨cZ d9 _,?_⟩) (by rw[v];lia) (by show((vals.take i).toArray.push vals[i]).size<=sizeLine+1;rw[dD,v];lia)
  have hS2:=cI (bK (·.push vals[i])) O rfl;have et:(vals.take i).toArray.push vals[i]=(vals.take (i+1)).toArray:=by
   rw[bT,hv];simp
  obtain⟨c1,N⟩:∃c1,(h1.update S (bK (·.push vals[i]))).get? S=some {cls:=.type "list",dict:=none,data:=.seq (vals.take (i+1)).toArray c1,slots:=#[]}:=⟨_,by rw[<- et];exact hS2⟩
  refine ih (i+1) {s with heap:=h1.update S (bK (·.push vals[i]))} c1 (by lia) z (G.frame _ _ _ Y λb hb o e=>(bg _ _ (λh:S=b=>hSf (by rw[h];exact hb))).trans e) N λh' c' a1 a2=>?_
  ·exact hR h' c' (λb o J D e=>a1 b o J D ((bg _ _ (cz J)).trans (k1 b o D e))) a2
theorem collectT{p:Addr}{es:Array (Int×ad)}{ep:Nat}{t:aT}{Q:List ad->ak->Prop}(hh:A.handled=none)(hp:s.heap.get? p=some (setOb es ep t))(hf:t.fits es.size=true)(hled:t.led=ledOf w)(hpl:t.plain=true->es.size<=1)(hn:es.size<=300)
  (h:∀vals h' d,vals.Perm (es.toList.map (·.2))->(∀b o,s.heap.get? b=some o->h'.get? b=some o)->Q vals {s with heap:=h',drawn:=d}):aG (aE prog w) A (collect (.ref p)) Q E s:=by
 have J:p<s.heap.objs.size:=aD hp;have hT:∀s':ak,s'.heap.get? p=some (setOb es ep t)->s'.TypeIs (.ref p) "set":=λs' e=>⟨_,e,rfl⟩;unfold collect;refine aa (wpAny_runValue (bM PySem.F.entry_proto_collect ?_));rw[bq PySem.F.plain_proto_collect _];show aG _ A.in1 (newList []>>=λl=>again (.builtin "list.__iadd__" ⟨[l,.ref p],[]⟩)) _ _ s;refine aa (bu ?_);refine af ⟨cZ iN _,bM PySem.F.entry_list_iadd ?_⟩;rw[bq iN _];show aG _ A.in1 (gO (.ref s.heap.objs.size) (.ref p) (.ref s.heap.objs.size)) _ _ _;generalize B:s.heap.push _=h1;have old:∀b o,s.heap.get? b=some o->h1.get? b=some o:=λb o e=>by rw[<- B];exact ae _ e
 have D:h1.objs.size=s.heap.objs.size+1:=by rw[<- B,cC]
 have hS1:h1.get? s.heap.objs.size=some {cls:=.type "list",dict:=none,data:=.seq #[] 0,slots:=#[]}:=by rw[<- B];exact av _ rfl
 have v:=old p _ hp;unfold gO;refine aa (fY (hT {s with heap:=h1} v) ?_)
 have e1:ix (.ref s.heap.objs.size) (.ref p)=false:=by simp[ix,Nat.ne_of_gt J]
 rw[if_neg (by rw[e1];decide)]
 refine aa (fZ6 (s:={s with heap:=h1}) hh v hf hled hpl hn λI fp vals St h2 d j G U hI Z Y=>?_)
 have hvl:vals.length=es.size:=by have:=j.length_eq;simpa using this
 have hI':h1.objs.size<=I:=hI;have hSI:s.heap.objs.size≠I:=by lia
 refine aa (bn (dJj (Y p _ v) ?_));have L:s.heap.objs.size∉fp:=λz=>by
  have q:=Z _ z;have q':s.heap.objs.size=p\/h1.objs.size<=s.heap.objs.size:=q;rcases q' with e|e
  ·exact absurd e (Nat.ne_of_gt J)
  ·rw[D] at e;exact absurd e (Nat.not_succ_le_self _)
 refine gI (λ_=>?_) (λhc=>absurd (by decide +kernel) hc)
 refine aa (c7 ?_);refine aa ?_;have O:=Y _ _ hS1;show aG _ _ (updateSeq s.heap.objs.size (·.push .none)>>=λ_=>updateSeq s.heap.objs.size (·.pop)) _ _ _;refine aa (e6 O rfl ?_);have N:=cI (bK (·.push cK)) O rfl;refine e6 (hz:=by seq_fits) N rfl ?_
 have hS4:=cI (bK (·.pop)) N rfl;refine af ⟨cZ d9 _,?_⟩;refine dQq G (by lia) L _ (vals.length-0) 0 _ _ rfl (Nat.zero_le _) (G.frame _ _ _ U λb hb o e=>?_) hS4 λh' c' a1 a2=>?_
 ·have i:b≠s.heap.objs.size:=λz=>L (z▸hb);exact(bg _ _ (cz i)).trans ((bg _ _ (cz i)).trans e)
 ·show aG _ A (load s.heap.objs.size>>=_) _ _ _;refine aa (wpAny_load a2 ?_)
  have:=h vals h' d j λb o e=>?_
  ·exact af this
  ·have i:b≠s.heap.objs.size:=Nat.ne_of_lt (aD e);have hbI:b≠I:=Nat.ne_of_lt (Nat.lt_of_lt_of_le (aD e) (Nat.le_trans (by rw[D];exact Nat.le_succ _) hI'))
   exact a1 b o i hbI ((bg _ _ (cz i)).trans ((bg _ _ (cz i)).trans (Y b o (old b o e))))
end
end ST
namespace KS
open PySem PySem.W PyProof.Rows
def TS(h:bd)(v:ad)(d:List Str):Prop:=∃b items,v=.ref b/\iA h b items/\HT.SAre items.toList d
section
variable{prog:aF}{w:aS}{A:a4}{E:ad->ak->Prop}{s:ak}
theorem dZy{Q:Bool->ak->Prop}:∀{us vs:List ad}{d e:List Str}(i:Nat) {fin:Bool},HT.SAre us d->HT.SAre vs e->fin=decide (d.length<e.length)->Q (HT.lexS d e) s->KatLex prog w A true fin Q (us.zip vs) i s
 |_,_,_,_,i,fin,.nil,.nil,hf,h=>by subst hf;exact kat_nil h
 |_,_,_,_,i,fin,.nil,.cons _ _,hf,h=>by
  subst hf;rw[List.zip_nil_left];rw[HT.lexS_nil_cons] at h;exact kat_nil (by simpa using h)
 |_,_,_,_,i,fin,.cons _ _,.nil,hf,h=>by
  subst hf;rw[hJ];rw[HT.lexS_cons_nil] at h;exact kat_nil (by simpa using h)
 |_,_,x::d,y::e,i,fin,.cons ⟨t,v⟩ p,.cons ⟨u,j⟩ q,hf,h=>by
  subst v j;rw[eX];rw[HT.lexS_cons] at h;refine kat_cons (g9 x t y u _ _ _ _ ?_);refine kat_go (λz=>kat_yes (dZy (i+1) p q (by subst hf;simp) (by rw[if_pos (by simpa using z)] at h;exact h))) λz=>kat_no ?_
  rw[if_neg (by simpa using z)] at h
  cases i with
  |zero=>exact oneLt_str h
  |succ i =>
   show aG _ _ (oneLt' false _ _) _ _ _;exact kat_one _ _ (jw (show PySem.W.BoolBack Q (.bool (HT.ltS x y)) s from h))
theorem cXf{x y:ad}{d e:List Str}{Q:Bool->ak->Prop}(hx:TS s.heap x d)(hy:TS s.heap y e)(h:Q (HT.lexS d e) s):aG (aE prog w) A (keyLt' (tuples' true) x y) Q E s:=by
 obtain⟨b,items,rfl,⟨o,B,_,n,hd⟩,p⟩:=hx;obtain⟨L,i,rfl,⟨D,j,_,J,hd2⟩,p2⟩:=hy;refine kat_lt B hd j hd2 (dZy 0 p p2 ?_ h);have z:=p.len;have v:=p2.len;simp only[aM] at z v;rw[z,v]
theorem cZ5{x y:ad}{d e:List Str}{Q:Bool->ak->Prop}(hu:A.units<cB)(hx:TS s.heap x d)(hy:TS s.heap y e)(h:Q (HT.lexS d e) s):aG (aE prog w) A (keyLt' general' x y) Q E s:=by
 obtain⟨b,items,rfl,t1,p⟩:=hx;obtain⟨v,i,rfl,j,p2⟩:=hy;show aG _ _ (oneLt' false _ _) _ _ _;exact kat_one _ _ (HT.lt_tupStrs t1 j p p2 hu (show PySem.W.BoolBack Q (.bool (HT.lexS d e)) s from h))
theorem eXw{x y:ad}{d e:List Str}{Q:Bool->ak->Prop}(hu:A.units<cB)(hx:TS s.heap x d)(hy:TS s.heap y e)(h:Q (HT.lexS d e) s):aG (aE prog w) A (keyLt' oneType' x y) Q E s:=by
 obtain⟨b,items,rfl,t1,p⟩:=hx;obtain⟨U,i,rfl,N,p2⟩:=hy;rw[keyLt'_oneType,oneLt'_eq];simp only[if_true];obtain⟨⟨cls,dd,data,sl⟩,B,J,n,hd⟩:=id t1;obtain⟨⟨L,D,data2,v⟩,z,j,O,hd2⟩:=id N;simp only at J hd j hd2;subst J hd j hd2;refine aa (wpAny_cRoomFor hu ?_);refine aa (wpAny_callSpecialIfBound?_slot ⟨_,B,rfl⟩ gp (call_meets gp ⟨_,B,rfl⟩ i8 (iL _ _) (HT.tuple_lt_strs b U items i n O dd D sl v d e p p2) ⟨B,z,?_⟩));exact dO h
theorem bZv:∀{vs:List ad}{ds:List (List Str)}{Q:List (Option ad)->ak->Prop},br (TS s.heap) vs ds->(∀fs:List (Option ad),br (λf d=>match f with|none=>d=[]|some v=>∃x r t,d=x::r/\v=.str x t) fs ds->Q fs s)->aG (aE prog w) A (vs.mapM firstOfTuple') Q E s
 |_,_,_,.nil,h=>by rw[List.mapM_nil];exact af (h [] .nil)
 |_,_,Q,.cons p q,h=>by
  obtain⟨b,items,rfl,⟨o,i,B,n,hd⟩,sa⟩:=p;rw[List.mapM_cons];refine aa ?_;rw[kas_first_eq];refine aa (Looks.here (show Looks (aE prog w) s.heap (typeOf (.ref b)) o.cls from(Looks.ld i).andThen .now) ?_)
  rw[B,if_neg (by first|decide|simp)]
  refine aa (listItems_at i hd (af ?_));refine aa (bZv q λfs pf=>af (h _ (.cons ?_ pf)));obtain⟨items⟩:=items;have sa:HT.SAre items _:=sa;have e:(Array.mk items)[0]?=items[0]?:=by simp
  rw[e];cases sa with
  |nil=>rfl
  |cons z _=>obtain⟨t,j⟩:=z;exact⟨_,_,t,rfl,j⟩
theorem dJm{vs:List ad}{ds:List (List Str)}{Q:eO->ak->Prop}(p:br (TS s.heap) vs ds)(hne:vs≠[])(h:∀κ,κ=tuples' true\/κ=general'\/κ=oneType'->Q κ s):aG (aE prog w) A (keyKind' vs.toArray) Q E s:=by
 rw[kat_kind_eq,ik,map_eq_pure_bind];refine aa (aa (bZv p λfs pf=>af ?_))
 by_cases i:(fs.toArray.all λx=>x.isSome)=true
 ·rw[if_pos i];refine aa (c7 ?_);rw[oneTypeOnly'_eq];have J:∀v∈(fs.toArray.filterMap id).toList,∃x t,v=.str x t:=λv J=>by
   simp only[Array.toList_filterMap,eW,id] at J;obtain⟨f,hf,rfl⟩:=J
   have:∀{fs:List (Option ad)}{ds:List (List Str)},br (λf d=>match f with|none=>d=[]|some v=>∃x r t,d=x::r/\v=.str x t) fs ds->some v∈fs->∃x t,v=.str x t:=by
    intro fs ds pf
    induction pf with
    |nil=>intro hm;cases hm
    |cons z _ L =>
     intro hm;rcases aK.mp hm with e|hm
     ·subst e;obtain⟨x,r,t,_,e⟩:=z;exact⟨x,t,e⟩
     ·exact L hm
   exact this pf hf
  have j:(fs.toArray.filterMap id).toList≠[]:=by
   have O:fs.length=vs.length:=by have:=cw p;have:=cw pf;lia
   cases fs with
   |nil=>exact absurd (bX (by simpa using O.symm)) hne
   |cons f fs =>
    simp only[List.all_toArray,List.all_cons,a6] at i;obtain⟨v,rfl⟩:=cF.mp i.1;simp
  generalize (fs.toArray.filterMap id)=gs at J j;obtain⟨gs⟩:=gs;rw[ik,map_eq_pure_bind];refine aa (aa (aa (kas_mapM (r:=c6 "str") gs (λv B Z N=>?_) (af ?_))))
  ·obtain⟨x,t,rfl⟩:=J v B;exact af N
  ·obtain⟨g,gr,rfl⟩:∃g gr,gs=g::gr:=by
    cases gs with
    |nil=>exact absurd rfl j
    |cons g gr=>exact⟨g,gr,rfl⟩
   have h0:(List.map (λ_=>c6 "str") (g::gr)).toArray[0]?=some (c6 "str"):=by simp
   have D:((List.map (λ_=>c6 "str") (g::gr)).toArray.all λx=>x==c6 "str")=true:=by
    simp only[List.all_toArray,gP,bF];intro _ _;simp
   rw[h0];simp only[D,if_true];exact af (af (h _ (.inl rfl)))
 ·rw[if_neg i]
  by_cases h1:((fs.toArray[0]?.bind id).isSome)=true
  ·rw[if_pos h1];exact af (h _ (.inr (.inl rfl)))
  ·rw[if_neg h1,oneTypeOnly'_eq,ik,map_eq_pure_bind];refine aa (aa (aa (kas_mapM (r:=c6 "tuple") vs (λv B Z N=>?_) (af ?_))))
   ·have:∀{vs:List ad}{ds:List (List Str)},br (TS s.heap) vs ds->v∈vs->∃d,TS s.heap v d:=by
     intro vs ds pp
     induction pp with
     |nil=>intro hm;cases hm
     |cons z _ L =>
      intro hm;rcases aK.mp hm with e|hm
      ·subst e;exact⟨_,z⟩
      ·exact L hm
    obtain⟨d,b,items,rfl,⟨o,U,Y,_⟩,_⟩:=this p B;refine Looks.here (show Looks (aE prog w) s.heap (typeOf (.ref b)) (.type "tuple") from ?_) N
    rw[<- Y];exact(Looks.ld U).andThen .now
   ·generalize (List.map (λ_=>c6 "tuple") vs).toArray=ts;cases ts[0]? with
    |none=>exact af (af (by first|exact h _ (.inr (.inl rfl))|exact h _ (.inr (.inr rfl))))
    |some t =>
     by_cases h2:(ts.all (· ==t))=true
     ·simp only[h2,if_true];exact af (af (h _ (.inr (.inr rfl))))
     ·simp only[h2,if_false];exact af (af (h _ (.inr (.inl rfl))))
end
end KS
namespace SF
open PySem PyProof.Rows
abbrev SM:=StateT cN Sem
def gal:Bool->aH->Array aH->Nat->Nat->Nat->SM (Option Nat):=sortPriv% PySem.Builtin.gallop
def mLo:Array aH->Array aH->SM (Array aH):=sortPriv% PySem.Builtin.mergeLo
def mHi:Array aH->Array aH->SM (Array aH):=sortPriv% PySem.Builtin.mergeHi
abbrev setG(st:cN)(g:Nat):cN:=hX (kindOf st) (aO st) (bJ st) g (fm st)
def bey(lf:Bool)(key:aH)(arr:Array aH)(b0 i:Nat):SM (Option Bool):=do
 let x <- d5 arr (b0+i)
 if lf then lt' x key else return (<- lt' key x).map (!·)
theorem eXx(lf:Bool)(key:aH)(arr:Array aH)(b0 n at0:Nat):gal lf key arr b0 n at0=(do
 let mut lastofs:=0
 let mut ofs:=1
 let mut lo:=0
 let mut hi:=0
 let some rt <- bey lf key arr b0 at0|return none
 if rt then
  let mx:=n-at0
  for _ in [0:n] do
   if ofs>=mx then break
   let some m1 <- bey lf key arr b0 (at0+ofs)|return none
   if !m1 then break
   lastofs:=ofs
   ofs:=2*ofs+1
  lo:=at0+lastofs+1
  hi:=at0+min ofs mx
 else
  let mx:=at0+1
  for _ in [0:n] do
   if ofs>=mx then break
   let some f1 <- bey lf key arr b0 (at0-ofs)|return none
   if f1 then break
   lastofs:=ofs
   ofs:=2*ofs+1
  lo:=at0+1-min ofs mx
  hi:=at0-lastofs
 for _ in [0:n] do
  if lo>=hi then break
  let m:=lo+(hi-lo)/2
  let some m2 <- bey lf key arr b0 m|return none
  if m2 then lo:=m+1 else hi:=m
 return some hi):=rfl
theorem eXy(a b:Array aH):mLo a b=(do
 rule "list.sort.merge-lo"
 let total:=a.size+b.size
 let fin (o:Array aH) (ia ib:Nat):=o++a.extract ia a.size++b.extract ib b.size
 let lst (o:Array aH) (ia ib:Nat):=o++b.extract ib b.size++a.extract ia a.size
 let mut out:Array aH:=#[<- d5 b 0]
 let mut ia:=0
 let mut ib:=1
 if ib==b.size then return fin out ia ib
 if ia+1==a.size then return lst out ia ib
 let mut minGallop:=gallopOf (<- get)
 for _ in [0:total] do
  let mut acount:=0
  let mut bcount:=0
  for _ in [0:total] do
   let some bw <- lt' (<- d5 b ib) (<- d5 a ia)|return fin out ia ib
   if bw then
    out:=out.push (<- d5 b ib)
    ib:=ib+1
    bcount:=bcount+1
    acount:=0
    if ib==b.size then return fin out ia ib
    if bcount>=minGallop then break
   else
    out:=out.push (<- d5 a ia)
    ia:=ia+1
    acount:=acount+1
    bcount:=0
    if ia+1==a.size then return lst out ia ib
    if acount>=minGallop then break
  rule "list.sort.gallop"
  minGallop:=minGallop+1
  for _ in [0:total] do
   if minGallop>1 then minGallop:=minGallop-1
   modify (λs=>setG s minGallop)
   let some k <- gal false (<- d5 b ib) a ia (a.size-ia) 0|return fin out ia ib
   acount:=k
   if k>0 then
    out:=out++a.extract ia (ia+k)
    ia:=ia+k
    if ia+1==a.size then return lst out ia ib
    if ia==a.size then return fin out ia ib
   out:=out.push (<- d5 b ib)
   ib:=ib+1
   if ib==b.size then return fin out ia ib
   let some k <- gal true (<- d5 a ia) b ib (b.size-ib) 0|return fin out ia ib
   bcount:=k
   if k>0 then
    out:=out++b.extract ib (ib+k)
    ib:=ib+k
    if ib==b.size then return fin out ia ib
   out:=out.push (<- d5 a ia)
   ia:=ia+1
   if ia+1==a.size then return lst out ia ib
   if acount<7&&bcount<7 then break
  minGallop:=minGallop+1
  modify (λs=>setG s minGallop)
 eR "internal:list.sort.merge-bound"):=rfl
structure Orc(prog:aF)(w:aS)(A:a4)(s:ak)(κ:eO)(P:aH->Prop)(lt:aH->aH->Bool):Prop where
 ask:∀x y (Q:Bool->ak->Prop),P x->P y->Q (lt x y) s->aG (aE prog w) A (keyLt' κ x.1 y.1) Q (λ_ _=>False) s
 as:∀x y,P x->P y->lt x y=true->lt y x=false
 tr:∀x y z,P x->P y->P z->lt y x=false->lt z y=false->lt z x=false
section
variable{prog:aF}{w:aS}{A:a4}{E:ad->ak->Prop}{s:ak}{κ:eO}{P:aH->Prop}{lt:aH->aH->Bool}
theorem cXg(o:Orc prog w A s κ P lt){st:cN}{x y:aH}{Q:Option Bool->cN->Prop}(hk:kindOf st=κ)(hx:P x)(hy:P y)(h:Q (some (lt x y)) st):wpS (aE prog w) A E s (lt' x y) Q st:=by
 rw[lt'_eq];refine ax (gQ ?_);rw[hk];refine ax (hZ (wpAny_attempt (cT (o.ask x y (λb s'=>s'=s/\b=lt x y) hx hy ⟨rfl,rfl⟩) (λb s' i=>?_) λ_ _ j=>j.elim)));obtain⟨rfl,rfl⟩:=i;exact⟨rfl,aB h⟩
theorem aZ4{st:cN}{arr:Array aH}{i:Nat}{x:aH}{Q:aH->cN->Prop}(hx:arr[i]?=some x)(h:Q x st):wpS (aE prog w) A E s (d5 arr i) Q st:=by
 rw[elem'_eq,hx];exact aB h
def bv(lt:aH->aH->Bool)(lf:Bool)(key x:aH):Bool:=if lf then lt x key else !lt key x
theorem bZw(o:Orc prog w A s κ P lt){st:cN}{lf:Bool}{key x:aH}{arr:Array aH}{b0 i:Nat}{Q:Option Bool->cN->Prop}(hk:kindOf st=κ)(hkey:P key)(hx:arr[b0+i]?=some x)(px:P x)(h:Q (some (bv lt lf key x)) st):wpS (aE prog w) A E s (bey lf key arr b0 i) Q st:=by
 unfold bey;refine ax (aZ4 hx ?_);cases lf with
 |true=>exact cXg o hk px hkey h
 |false=>exact ax (cXg o hk hkey px (aB h))
theorem dZz{st:cN}{b:Nat->Bool}{n lo hi:Nat}{body:Nat->Option (Option Nat)×Nat×Nat->SM (ForInStep (Option (Option Nat)×Nat×Nat))}{Q:Option (Option Nat)×Nat×Nat->cN->Prop}
  (hb:∀x lo hi (Q':ForInStep (Option (Option Nat)×Nat×Nat)->cN->Prop),hi<=n->(hi<=lo->Q' (.done (none,lo,hi)) st)->(lo<hi->b (lo+(hi-lo)/2)=true->Q' (.yield (none,lo+(hi-lo)/2+1,hi)) st)->(lo<hi->b (lo+(hi-lo)/2)=false->Q' (.yield (none,lo,lo+(hi-lo)/2)) st)->wpS (aE prog w) A E s (body x (none,lo,hi)) Q' st)
  (mono:∀i j,i<=j->j<n->b j=true->b i=true) (h1:lo<=hi) (h2:hi<=n) (h3:∀i,i<lo->b i=true) (h4:∀i,hi<=i->i<n->b i=false)
  (h:∀k,k<=n->(∀i,i<k->b i=true)->(∀i,k<=i->i<n->b i=false)->Q (none,k,k) st):wpS (aE prog w) A E s (forIn [0:n] ((none,lo,hi):Option (Option Nat)×Nat×Nat) body) Q st:=by
 refine de (bL (I:=λx c v=>v=st/\∃ lo hi,c=(none,lo,hi)/\lo<=hi/\hi<=n/\hi + x<=lo + n/\(∀ i,i < lo->b i=true)/\∀ i,hi<=i->i < n->b i=false)
  (Q:=λc v=>v=st/\∃lo hi,c=(none,lo,hi)/\hi<=lo/\lo<=hi/\hi<=n/\(∀i,i<lo->b i=true)/\∀i,hi<=i->i<n->b i=false) ?_ ?_ ⟨rfl,lo,hi,rfl,h1,h2,by omega,h3,h4⟩) ?_
 ·rintro x c v _ N ⟨rfl,lo,hi,rfl,a1,a2,L,B,z⟩;refine hb x lo hi _ a2 (λD=>⟨rfl,lo,hi,rfl,D,a1,a2,B,z⟩) (λD e=>⟨rfl,_,_,rfl,by omega,a2,by omega,λi J=>mono i _ (by omega) (by omega) e,z⟩) λD e=>⟨rfl,_,_,rfl,by omega,by omega,by omega,B,λi h1 h2=>?_⟩
  cases e2:b i with
  |false=>rfl
  |true=>rw[mono _ i h1 h2 e2] at e;cases e
 ·rintro c v ⟨rfl,lo,hi,rfl,a1,a2,L,B,z⟩;exact⟨rfl,lo,hi,rfl,by omega,a1,a2,B,z⟩
 ·rintro c v ⟨rfl,lo,hi,rfl,a0,a1,a2,B,z⟩
  have:lo=hi:=by omega
  subst this;exact h lo a2 B z
theorem bQg(o:Orc prog w A s κ P lt){st:cN}{lf:Bool}{key:aH}{arr:Array aH}{b0 n at0:Nat}{f:Nat->aH}{Q:Option Nat->cN->Prop}(hk:kindOf st=κ)(hkey:P key)
  (hf:∀i,i<n->arr[b0+i]?=some (f i)/\P (f i)) (mono:∀i j,i<=j->j<n->bv lt lf key (f j)=true->bv lt lf key (f i)=true) (h0:at0<n)
  (h:∀k,k<=n->(∀i,i<k->bv lt lf key (f i)=true)->(∀i,k<=i->i<n->bv lt lf key (f i)=false)->Q (some k) st):wpS (aE prog w) A E s (gal lf key arr b0 n at0) Q st:=by
 rw[eXx];dsimp only;have up:∀i j,i<=j->j<n->bv lt lf key (f i)=false->bv lt lf key (f j)=false:=λi j h1 h2 h3=>by
  cases e:bv lt lf key (f j) with
  |false=>rfl
  |true=>rw[mono i j h1 h2 e] at h3;cases h3
 refine ax (bZw o hk hkey (hf at0 h0).1 (hf at0 h0).2 ?_);dsimp only;cases e0:bv lt lf key (f at0) with
 |true =>
  rw[if_pos rfl];refine ax (de (bL (I:=λx c B=>B=st/\∃ l v,c=(none,l,v)/\l < v/\x + 1<=v/\at0 + l < n/\bv lt lf key (f (at0 + l))=true)
   (Q:=λc B=>B=st/\∃l v,c=(none,l,v)/\l<v/\at0+l<n/\bv lt lf key (f (at0+l))=true/\(n-at0<=v\/(at0+v<n/\bv lt lf key (f (at0+v))=false))) ?_ ?_ ⟨rfl,0,1,rfl,by decide,by decide,h0,e0⟩) ?_)
  ·rintro x c B _ hx ⟨rfl,l,v,rfl,a1,a2,L,J⟩;dsimp only
   by_cases D:v>=n-at0
   ·rw[if_pos D];exact aB ⟨rfl,l,v,rfl,a1,L,J,.inl D⟩
   ·rw[if_neg D];have hm:at0+v<n:=by omega
    refine ax (bZw o hk hkey (hf _ hm).1 (hf _ hm).2 ?_);dsimp only;cases e:bv lt lf key (f (at0+v)) with
    |true=>rw[if_neg (by simp)];exact aB ⟨rfl,v,_,rfl,by omega,by omega,hm,e⟩
    |false=>rw[if_pos (by rfl)];exact aB ⟨rfl,l,v,rfl,a1,L,J,.inr ⟨hm,e⟩⟩
  ·rintro c B ⟨rfl,l,v,rfl,a1,a2,L,J⟩;exact⟨rfl,l,v,rfl,a1,L,J,.inl (by omega)⟩
  ·rintro c B ⟨rfl,l,v,rfl,a1,L,J,a5⟩;have H4:∀i,at0+min v (n-at0)<=i->i<n->bv lt lf key (f i)=false:=λi h1 h2=>by
    rcases a5 with z|⟨z1,N⟩
    ·omega
    ·exact up (at0+v) i (by omega) h2 N
   refine ax (dZz (b:=λi=>bv lt lf key (f i)) (n:=n) (lo:=at0+l+1) (hi:=at0+min v (n-at0)) (λx lo hi Q' hn Y U O=>?_) mono (by omega) (by omega) (λi hi=>mono i (at0+l) (by omega) L J) H4 λk k1 k2 Z=>aB (h k k1 k2 Z))
   dsimp only
   by_cases D:lo>=hi
   ·rw[if_pos D];exact aB (Y D)
   ·rw[if_neg D];have hm:lo+(hi-lo)/2<n:=by omega
    refine ax (bZw o hk hkey (hf _ hm).1 (hf _ hm).2 ?_);dsimp only;cases e:bv lt lf key (f (lo+(hi-lo)/2)) with
    |true=>rw[if_pos rfl];exact aB (U (by omega) e)
    |false=>rw[if_neg (by simp)];exact aB (O (by omega) e)
 |false =>
  rw[if_neg (by simp)]
  refine ax (de (bL (I:=λx c B=>B=st/\∃ l v,c=(none,l,v)/\l < v/\x + 1<=v/\l<=at0/\bv lt lf key (f (at0 - l))=false)
   (Q:=λc B=>B=st/\∃l v,c=(none,l,v)/\l<v/\l<=at0/\bv lt lf key (f (at0-l))=false/\(at0+1<=v\/(v<=at0/\bv lt lf key (f (at0-v))=true))) ?_ ?_ ⟨rfl,0,1,rfl,by decide,by decide,Nat.zero_le _,e0⟩) ?_)
  ·rintro x c B _ hx ⟨rfl,l,v,rfl,a1,a2,L,J⟩;dsimp only
   by_cases D:v>=at0+1
   ·rw[if_pos D];exact aB ⟨rfl,l,v,rfl,a1,L,J,.inl D⟩
   ·rw[if_neg D];have hm:at0-v<n:=by omega
    refine ax (bZw o hk hkey (hf _ hm).1 (hf _ hm).2 ?_);dsimp only;cases e:bv lt lf key (f (at0-v)) with
    |true=>rw[if_pos rfl];exact aB ⟨rfl,l,v,rfl,a1,L,J,.inr ⟨by omega,e⟩⟩
    |false=>rw[if_neg (by simp)];exact aB ⟨rfl,v,_,rfl,by omega,by omega,by omega,e⟩
  ·rintro c B ⟨rfl,l,v,rfl,a1,a2,L,J⟩;exact⟨rfl,l,v,rfl,a1,L,J,.inl (by omega)⟩
  ·rintro c B ⟨rfl,l,v,rfl,a1,L,J,a5⟩;have H3:∀i,i<at0+1-min v (at0+1)->bv lt lf key (f i)=true:=λi hi=>by
    rcases a5 with z|⟨z1,N⟩
    ·omega
    ·exact mono i (at0-v) (by omega) (by omega) N
   refine ax (dZz (b:=λi=>bv lt lf key (f i)) (n:=n) (lo:=at0+1-min v (at0+1)) (hi:=at0-l) (λx lo hi Q' hn Y U O=>?_) mono (by omega) (by omega) H3 (λi h1 h2=>up (at0-l) i h1 h2 J) λk k1 k2 Z=>aB (h k k1 k2 Z))
   dsimp only
   by_cases D:lo>=hi
   ·rw[if_pos D];exact aB (Y D)
   ·rw[if_neg D];have hm:lo+(hi-lo)/2<n:=by omega
    refine ax (bZw o hk hkey (hf _ hm).1 (hf _ hm).2 ?_);dsimp only;cases e:bv lt lf key (f (lo+(hi-lo)/2)) with
    |true=>rw[if_pos rfl];exact aB (U (by omega) e)
    |false=>rw[if_neg (by simp)];exact aB (O (by omega) e)
end
def Sd{α:Type}(lt:α->α->Bool)(l:List α):Prop:=l.Pairwise λx y=>lt y x=false
structure Iv{α:Type}(lt:α->α->Bool)(T out rest:List α):Prop where
 perm:(out++rest).Perm T
 sd:Sd lt out
 lo:∀x∈out,∀y∈rest,lt y x=false
section
variable{α:Type}{lt:α->α->Bool}{T out rest:List α}
theorem Iv.step(h:Iv lt T out rest){xs rest':List α}(hp:rest.Perm (xs++rest'))(hs:Sd lt xs)(hl:∀x∈xs,∀y∈rest',lt y x=false):Iv lt T (out++xs) rest':=by
 refine⟨?_,a9.mpr ⟨h.sd,hs,λx j y i=>h.lo x j y (hp.mem_iff.mpr (cy _ i))⟩,λx j y i=>?_⟩
 ·rw[aV];exact(d7 out hp.symm).trans h.perm
 ·rcases aP.mp j with z|z
  ·exact h.lo x z y (hp.mem_iff.mpr (a8 _ i))
  ·exact hl x z y i
theorem Iv.done(h:Iv lt T out rest)(hs:Sd lt rest):Sd lt (out++rest)/\(out++rest).Perm T:=⟨a9.mpr ⟨h.sd,hs,h.lo⟩,h.perm⟩
theorem Iv.perm'(h:Iv lt T out rest){rest':List α}(hp:rest.Perm rest'):Iv lt T out rest':=⟨(d7 out hp.symm).trans h.perm,h.sd,λx j y i=>h.lo x j y (hp.mem_iff.mpr i)⟩
theorem Iv.size(h:Iv lt T out rest):out.length+rest.length=T.length:=by rw[<- aA];exact h.perm.length_eq
theorem bXv{l:List α}{i:Nat}{x:α}(h:l[i]?=some x):l.drop i=x::l.drop (i+1):=by
 have hi:=(aC.mp h).1;rw[cS hi]
 congr 1
 exact(aC.mp h).2
theorem Sd.drop{l:List α}(h:Sd lt l)(i:Nat):Sd lt (l.drop i):=h.sublist (List.drop_sublist _ _)
theorem Sd.at{l:List α}(h:Sd lt l){i j:Nat}{x y:α}(hij:i<j)(hx:l[i]?=some x)(hy:l[j]?=some y):lt y x=false:=by
 obtain⟨h1,z⟩:=aC.mp hx;obtain⟨h2,v⟩:=aC.mp hy
 have:=bE.mp h i j h1 h2 hij
 rw[z,v] at this;exact this
theorem aQl{l:List α}{i:Nat}{y:α}(h:y∈l.drop i):∃j,i<=j/\l[j]?=some y:=by
 obtain⟨k,v,e⟩:=be h;rw[f9] at e;rw[bo] at v;exact⟨i+k,by omega,by rw[ag (by omega),e]⟩
end
section
variable{prog:aF}{w:aS}{A:a4}{s:ak}{κ:eO}{P:aH->Prop}{lt:aH->aH->Bool}{T out la lb:List aH}{ia ib:Nat}{x y:aH}
theorem bZx(o:Orc prog w A s κ P lt){l:List aH}(hP:∀z∈l,P z)(hs:Sd lt l){i:Nat}{z:aH}(hz:P z){y:aH}(hy:l[i]?=some y)(h:lt y z=false):∀u∈l.drop i,lt u z=false:=λu B=>by
 obtain⟨j,D,e⟩:=aQl B;rcases Nat.eq_or_lt_of_le D with rfl|v
 ·rw[hy] at e;cases e;exact h
 ·exact o.tr z y u hz (hP y (ao hy)) (hP u (ao e)) h (hs.at v hy e)
theorem Iv.pushB(h:Iv lt T out (la.drop ia++lb.drop ib))(sb:Sd lt lb)(hy:lb[ib]?=some y)(hl:∀u∈la.drop ia,lt u y=false):Iv lt T (out++[y]) (la.drop ia++lb.drop (ib+1)):=by
 refine h.step ?_ (cv _ _) λx i u v=>?_
 ·rw[bXv hy];exact fx
 ·rw[aU.mp i];rcases aP.mp v with z|z
  ·exact hl u z
  ·obtain⟨j,B,e⟩:=aQl z;exact sb.at (by omega) hy e
theorem Iv.pushA(h:Iv lt T out (la.drop ia++lb.drop ib))(sa:Sd lt la)(hx:la[ia]?=some x)(hl:∀u∈lb.drop ib,lt u x=false):Iv lt T (out++[x]) (la.drop (ia+1)++lb.drop ib):=by
 refine h.step ?_ (cv _ _) λz i u v=>?_
 ·rw[bXv hx];exact dq _
 ·rw[aU.mp i];rcases aP.mp v with z|z
  ·obtain⟨j,B,e⟩:=aQl z;exact sa.at (by omega) hx e
  ·exact hl u z
theorem Iv.blockA(h:Iv lt T out (la.drop ia++lb.drop ib))(sa:Sd lt la)(k:Nat)(hl:∀z∈(la.drop ia).take k,∀u∈lb.drop ib,lt u z=false):Iv lt T (out++(la.drop ia).take k) (la.drop (ia+k)++lb.drop ib):=by
 have e:la.drop ia=(la.drop ia).take k++la.drop (ia+k):=by rw[<- List.drop_drop];exact(bb k _).symm
 have sd:=sa.drop ia;rw[e] at sd;obtain⟨s1,_,s3⟩:=a9.mp sd;refine h.step ?_ s1 λz i u j=>?_
 ·rw[<- aV,<- e]
 ·rcases aP.mp j with v|v
  ·exact s3 z i u v
  ·exact hl z i u v
theorem Iv.blockB(h:Iv lt T out (la.drop ia++lb.drop ib))(sb:Sd lt lb)(k:Nat)(hl:∀z∈(lb.drop ib).take k,∀u∈la.drop ia,lt u z=false):Iv lt T (out++(lb.drop ib).take k) (la.drop ia++lb.drop (ib+k)):=by
 have e:lb.drop ib=(lb.drop ib).take k++lb.drop (ib+k):=by rw[<- List.drop_drop];exact(bb k _).symm
 have sd:=sb.drop ib;rw[e] at sd;obtain⟨s1,_,s3⟩:=a9.mp sd;refine h.step ?_ s1 λz i u j=>?_
 ·have B:la.drop ia++lb.drop ib=la.drop ia++((lb.drop ib).take k++lb.drop (ib+k)):=by rw[<- e]
  rw[B,<- aV,<- aV];exact dW _ cY
 ·rcases aP.mp j with v|v
  ·exact hl z i u v
  ·exact s3 z i u v
theorem aZj{l:List aH}{i k:Nat}{z:aH}(h:z∈(l.drop i).take k):∃j,j<k/\l[i+j]?=some z:=by
 obtain⟨j,v,e⟩:=be h;rw[aR,bo] at v;rw[f8,f9] at e;exact⟨j,by omega,by rw[ag (by omega),e]⟩
end
theorem aZ8(a:Array aH)(i j:Nat):(a.extract i j).toList=(a.toList.drop i).take (j-i):=by simp
theorem bXw(a:Array aH)(i:Nat):(a.extract i a.size).toList=a.toList.drop i:=by
 rw[aZ8];exact bi (by rw[bo];simp)
end SF
theorem hd{g:Prop}(h:∀G:Prop,(g->G)->G):g:=h g id
namespace SF
open PySem PyProof.Rows
section
variable{prog:aF}{w:aS}{A:a4}{E:ad->ak->Prop}{s:ak}{κ:eO}{P:aH->Prop}{lt:aH->aH->Bool}
theorem aQb{a:Array aH}{i:Nat}(h:i<a.size):∃x,a[i]?=some x/\a.toList[i]?=some x:=⟨a[i],by simp[h],by simp[h]⟩
theorem aQq{σ α:Type}{M:Model}{c:Prop}{di:Decidable c}{X Y:StateT σ Sem α}{Q:α->σ->Prop}{st:σ}(hc:c)(h:wpS M A E s X Q st):wpS M A E s (@ite _ c di X Y) Q st:=by rw[if_pos hc];exact h
theorem aQr{σ α:Type}{M:Model}{c:Prop}{di:Decidable c}{X Y:StateT σ Sem α}{Q:α->σ->Prop}{st:σ}(hc:¬ c)(h:wpS M A E s Y Q st):wpS M A E s (@ite _ c di X Y) Q st:=by rw[if_neg hc];exact h
theorem dX0{σ α:Type}{M:Model}{c:Nat->Prop}{di:∀n,Decidable (c n)}{X Y:Nat->StateT σ Sem α}{Q:α->σ->Prop}{st:σ}(e:∀n,X n=Y (n-1))(h:∀m,wpS M A E s (Y m) Q st)(n:Nat):wpS M A E s (@ite _ (c n) (di n) (X n) (Y n)) Q st:=by
 split
 ·rw[e];exact h _
 ·exact h _
theorem eXz(o:Orc prog w A s κ P lt){st:cN}{a b:Array aH}{Q:Array aH->cN->Prop}(hk:kindOf st=κ)(pa:∀x∈a.toList,P x)(pb:∀y∈b.toList,P y)(sa:Sd lt a.toList)(sb:Sd lt b.toList)(na:1<=a.size)(nb:1<=b.size)
  (hfst:∀y,b.toList[0]?=some y->∀x∈a.toList,lt x y=false) (hlst:∀z,a.toList[a.size-1]?=some z->∀y∈b.toList,lt z y=false)
  (h:∀out g,Sd lt out.toList->out.toList.Perm (a.toList++b.toList)->Q out (setG st g)):wpS (aE prog w) A E s (mLo a b) Q st:=by
 have sz:(a.toList++b.toList).length=a.size+b.size:=by simp
 have finA:∀(out:Array aH) ia ib g,ib=b.size->Iv lt (a.toList++b.toList) out.toList (a.toList.drop ia++b.toList.drop ib)->Q (out++a.extract ia a.size++b.extract ib b.size) (setG st g):=λout ia ib g e iv=>by
  have e0:b.toList.drop ib=[]:=cb (by simp[e])
  rw[e0,bB] at iv
  have:=iv.done (sa.drop ia)
  refine h _ g ?_ ?_ <;> simp only[cr,bXw,e0,bB]
  ·exact this.1
  ·exact this.2
 have finB:∀(out:Array aH) ia ib g,ia=a.size->Iv lt (a.toList++b.toList) out.toList (a.toList.drop ia++b.toList.drop ib)->Q (out++a.extract ia a.size++b.extract ib b.size) (setG st g):=λout ia ib g e iv=>by
  have e0:a.toList.drop ia=[]:=cb (by simp[e])
  rw[e0,bS] at iv
  have:=iv.done (sb.drop ib)
  refine h _ g ?_ ?_ <;> simp only[cr,bXw,e0,bB]
  ·exact this.1
  ·exact this.2
 have finL:∀(out:Array aH) ia ib g,ia+1=a.size->Iv lt (a.toList++b.toList) out.toList (a.toList.drop ia++b.toList.drop ib)->Q (out++b.extract ib b.size++a.extract ia a.size) (setG st g):=λout ia ib g e iv=>by
  obtain⟨z,hz,J⟩:=aQb (a:=a) (i:=ia) (by lia)
  have e0:a.toList.drop ia=[z]:=by rw[bXv J,cb (by simp;lia)]
  have Z:=iv.perm' cY;have hz2:a.toList[a.size-1]?=some z:=by rw[<- e];exact J
  have:=Z.done (a9.mpr ⟨sb.drop ib,sa.drop ia,λx hx y hy=>by
   rw[e0] at hy;rw[aU.mp hy];exact hlst z hz2 x (da hx)⟩)
  refine h _ g ?_ ?_ <;> simp only[cr,bXw,aV]
  ·exact this.1
  ·exact this.2
 have t2:∀(O:ForInStep (Option (Array aH)×Array aH×Nat×Nat×Nat×Nat×Nat)->cN->Prop) (out:Array aH) (ia ib mg ac bc g:Nat),(∀r c',Q r (setG st g)->O (.done (some r,c')) (setG st g)) ->
   (∀B v D ac' bc',v+1<a.size->D<b.size->Iv lt (a.toList++b.toList) B.toList (a.toList.drop v++b.toList.drop D)->out.size<=B.size->O (.done (none,B,v,D,mg,ac',bc')) (setG st g)/\O (.yield (none,B,v,D,mg,ac',bc')) (setG st g)) ->
   ia+1<a.size->ib<b.size->Iv lt (a.toList++b.toList) out.toList (a.toList.drop ia++b.toList.drop ib)->(∀x,a.toList[ia]?=some x->∀u∈b.toList.drop ib,lt u x=false) ->
   wpS (aE prog w) A E s (do
    let x <- d5 a ia
    if (ia+1+1==a.size)=true then pure (ba (some (out.push x++b.extract ib b.size++a.extract (ia+1) a.size),out.push x,ia+1,ib,mg,ac,bc))
    else if (decide (ac<7)&&decide (bc<7))=true then pure (ba (none,out.push x,ia+1,ib,mg,ac,bc))
    else pure (bh (none,out.push x,ia+1,ib,mg,ac,bc))) O (setG st g):=by
  intro O out ia ib mg ac bc g hd hg hia hib iv hl;obtain⟨x1,hx1,Y⟩:=aQb (a:=a) (i:=ia) (by lia)
  refine ax (aZ4 hx1 ?_);have Z:Iv lt (a.toList++b.toList) (out.push x1).toList (a.toList.drop (ia+1)++b.toList.drop ib):=by
   rw[ca];exact iv.pushA sa Y (hl x1 Y)
  have sp:(out.push x1).size=out.size+1:=dD ..
  by_cases c1:(ia+1+1==a.size)=true
  ·refine aQq c1 ?_;exact aB (hd _ _ (finL _ _ _ g (by simpa using c1) Z))
  ·refine aQr c1 ?_;have c1':ia+1+1≠a.size:=by simpa using c1
   have:=hg (out.push x1) (ia+1) ib ac bc (by lia) hib Z (by lia)
   by_cases c2:(decide (ac<7)&&decide (bc<7))=true
   ·refine aQq c2 ?_;exact aB this.1
   ·refine aQr c2 ?_;exact aB this.2
 have t1:∀(O:ForInStep (Option (Array aH)×Array aH×Nat×Nat×Nat×Nat×Nat)->cN->Prop) (out:Array aH) (ia ib mg ac bc g:Nat),(∀r c',Q r (setG st g)->O (.done (some r,c')) (setG st g)) ->
   (∀B v D ac' bc',v+1<a.size->D<b.size->Iv lt (a.toList++b.toList) B.toList (a.toList.drop v++b.toList.drop D)->out.size<=B.size->O (.done (none,B,v,D,mg,ac',bc')) (setG st g)/\O (.yield (none,B,v,D,mg,ac',bc')) (setG st g)) ->
   ia+1<a.size->ib<b.size->Iv lt (a.toList++b.toList) out.toList (a.toList.drop ia++b.toList.drop ib)->(∀y,b.toList[ib]?=some y->∀u∈a.toList.drop ia,lt u y=false) ->
   wpS (aE prog w) A E s (do
    let y <- d5 b ib
    if (ib+1==b.size)=true then pure (ba (some (out.push y++a.extract ia a.size++b.extract (ib+1) b.size),out.push y,ia,ib+1,mg,ac,bc))
    else do
     let x <- d5 a ia
     let z <- gal true x b (ib+1) (b.size-(ib+1)) 0
     match z with
     |some k1 =>
      if k1>0 then
       if (ib+1+k1==b.size)=true then pure (ba (some (out.push y++b.extract (ib+1) (ib+1+k1)++a.extract ia a.size++b.extract (ib+1+k1) b.size),out.push y++b.extract (ib+1) (ib+1+k1),ia,ib+1+k1,mg,ac,k1))
       else do
        let x <- d5 a ia
        if (ia+1+1==a.size)=true then pure (ba (some ((out.push y++b.extract (ib+1) (ib+1+k1)).push x++b.extract (ib+1+k1) b.size++a.extract (ia+1) a.size),(out.push y++b.extract (ib+1) (ib+1+k1)).push x,ia+1,ib+1+k1,mg,ac,k1))
        else if (decide (ac<7)&&decide (k1<7))=true then pure (ba (none,(out.push y++b.extract (ib+1) (ib+1+k1)).push x,ia+1,ib+1+k1,mg,ac,k1))
        else pure (bh (none,(out.push y++b.extract (ib+1) (ib+1+k1)).push x,ia+1,ib+1+k1,mg,ac,k1))
      else do
       let x <- d5 a ia
       if (ia+1+1==a.size)=true then pure (ba (some ((out.push y).push x++b.extract (ib+1) b.size++a.extract (ia+1) a.size),(out.push y).push x,ia+1,ib+1,mg,ac,k1))
       else if (decide (ac<7)&&decide (k1<7))=true then pure (ba (none,(out.push y).push x,ia+1,ib+1,mg,ac,k1))
       else pure (bh (none,(out.push y).push x,ia+1,ib+1,mg,ac,k1))
     |_=>pure (ba (some (out.push y++a.extract ia a.size++b.extract (ib+1) b.size),out.push y,ia,ib+1,mg,ac,bc))) O (setG st g):=by
  intro O out ia ib mg ac bc g hd hg hia hib iv hl;obtain⟨y1,hy1,U⟩:=aQb (a:=b) (i:=ib) hib;obtain⟨x1,hx1,Y⟩:=aQb (a:=a) (i:=ia) (by lia)
  have px1:=pa x1 (ao Y);refine ax (aZ4 hy1 ?_);have Z:Iv lt (a.toList++b.toList) (out.push y1).toList (a.toList.drop ia++b.toList.drop (ib+1)):=by
   rw[ca];exact iv.pushB sb U (hl y1 U)
  have sp:(out.push y1).size=out.size+1:=dD ..
  by_cases c1:(ib+1==b.size)=true
  ·refine aQq c1 ?_;exact aB (hd _ _ (finA _ _ _ g (by simpa using c1) Z))
  refine aQr c1 ?_;have c1':ib+1≠b.size:=by simpa using c1
  refine ax (aZ4 hx1 (ax (bQg o (f:=λi=>b.toList.getD (ib+1+i) (.none,.none)) hk px1 (λi hi=>?_) (λi j hij hj hb=>?_) (by lia) λk k1 k2 k3=>?_)))
  ·obtain⟨z,hz,J⟩:=aQb (a:=b) (i:=ib+1+i) (by lia)
   rw[ah,J];exact⟨hz,pb z (ao J)⟩
  ·obtain⟨z,hz,J⟩:=aQb (a:=b) (i:=ib+1+i) (by lia)
   obtain⟨z',hz',hzl'⟩:=aQb (a:=b) (i:=ib+1+j) (by lia)
   rw[ah,hzl'] at hb;rw[ah,J];have hb':lt z' x1=true:=hb;show lt z x1=true;cases e:lt z x1 with
   |true=>rfl
   |false =>
    exfalso;have pz:=pb z (ao J);have pz':=pb z' (ao hzl');rcases Nat.eq_or_lt_of_le hij with rfl|hlt
    ·rw[J] at hzl';cases hzl';rw[e] at hb';cases hb'
    ·have:=o.tr x1 z z' px1 pz pz' e (sb.at (by lia) J hzl')
     rw[hb'] at this;cases this
  have behind:∀j y,ib+1+k<=j->b.toList[j]?=some y->lt y x1=false:=λj y hj hy=>by
   have hjb:j<b.size:=by have:=(aC.mp hy).1;simpa using this
   have:=k3 (j-(ib+1)) (by lia) (by lia)
   rw[ah,show ib+1+(j-(ib+1))=j by lia,hy] at this
   exact this
  dsimp only
  by_cases ck:k>0
  ·refine aQq ck ?_;have iv3:Iv lt (a.toList++b.toList) (out.push y1++b.extract (ib+1) (ib+1+k)).toList (a.toList.drop ia++b.toList.drop (ib+1+k)):=by
    rw[cr,aZ8,show ib+1+k-(ib+1)=k by lia]
    refine Z.blockB sb k λz hz u hu=>?_;obtain⟨j,hj,J⟩:=aZj hz;have pz:=pb z (ao J);have hb:=k2 j hj;rw[ah,J] at hb;exact bZx o pa sa pz Y (o.as _ _ pz px1 hb) u hu
   have sz3:out.size<=(out.push y1++b.extract (ib+1) (ib+1+k)).size:=by rw[dP];lia
   by_cases c3:(ib+1+k==b.size)=true
   ·refine aQq c3 ?_;exact aB (hd _ _ (finA _ _ _ g (by simpa using c3) iv3))
   ·refine aQr c3 ?_;have c3':ib+1+k≠b.size:=by simpa using c3
    refine t2 O _ ia (ib+1+k) mg ac k g hd (λo' i1 i2 a1 b1 q1 q2 q3 q4=>hg o' i1 i2 a1 b1 q1 q2 q3 (by lia)) hia (by lia) iv3 λx hx u hu=>?_
    rw[Y] at hx;cases hx;obtain⟨j,hj,e⟩:=aQl hu;exact behind j u hj e
  ·refine aQr ck ?_;have k0:k=0:=by lia
   refine t2 O _ ia (ib+1) mg ac k g hd (λo' i1 i2 a1 b1 q1 q2 q3 q4=>hg o' i1 i2 a1 b1 q1 q2 q3 (by lia)) hia (by lia) Z λx hx u hu=>?_
   rw[Y] at hx;cases hx;obtain⟨j,hj,e⟩:=aQl hu;exact behind j u (by lia) e
 rw[eXy];refine ax (hZ (c7 ⟨rfl,?_⟩));dsimp only;obtain⟨y0,hy0,hy0l⟩:=aQb (a:=b) (i:=0) nb;refine ax (aZ4 hy0 ?_);have iv0:Iv lt (a.toList++b.toList) (#[y0]:Array aH).toList (a.toList.drop 0++b.toList.drop 1):=by
  have i0:Iv lt (a.toList++b.toList) [] (a.toList.drop 0++b.toList.drop 0):=⟨by simp,fZ,by simp⟩
  exact i0.pushB sb hy0l λu hu=>hfst y0 hy0l u hu
 have est:st=setG st (gallopOf st):=rfl
 by_cases hb1:(1==b.size)=true
 ·refine aQq hb1 ?_;refine aB ?_;rw[est];exact finA _ 0 1 _ (by simpa using hb1) iv0
 refine aQr hb1 ?_
 by_cases ha1:(0+1==a.size)=true
 ·refine aQq ha1 ?_;refine aB ?_;rw[est];exact finL _ 0 1 _ (by simpa using ha1) iv0
 refine aQr ha1 ?_;have hb2:1<b.size:=by
  have:1≠b.size:=by simpa using hb1
  lia
 have ha2:0+1<a.size:=by
  have:0+1≠a.size:=by simpa using ha1
  lia
 refine ax (gQ ?_);refine ax (de (bL (I:=λx c L=>∃ out ia ib mg g,c=(none,out,ia,ib,mg)/\L=setG st g/\ia + 1 < a.size/\ib < b.size/\Iv lt (a.toList++b.toList) out.toList (a.toList.drop ia++b.toList.drop ib)/\x + 1<=out.size)
  (Q:=λc L=>∃r,c.fst=some r/\Q r L) ?_ ?_ ⟨#[y0],0,1,_,_,rfl,est,ha2,hb2,iv0,by simp⟩) ?_)
 ·intro x c L _ hx zq;refine hd λGq kq=>?_;obtain⟨out,ia,ib,mg,g,rfl,rfl,hia,hib,iv,hsz⟩:=zq;refine kq ?_;dsimp only;refine ax (de (bL (I:=λy c L=>∃ B v D ac bc,c=(none,B,v,D,ac,bc)/\L=setG st g/\v + 1 < a.size/\D < b.size/\Iv lt (a.toList++b.toList) B.toList (a.toList.drop v++b.toList.drop D)/\out.size + y<=B.size)
   (Q:=λc L=>L=setG st g/\((∃r,c.fst=some r/\Q r L)\/∃B v D ac bc,c=(none,B,v,D,ac,bc)/\v+1<a.size/\D<b.size/\Iv lt (a.toList++b.toList) B.toList (a.toList.drop v++b.toList.drop D)/\out.size+1<=B.size)) ?_ ?_ ⟨out,ia,ib,0,0,rfl,rfl,hia,hib,iv,Nat.le_refl _⟩) ?_)
  ·intro y c L _ hy zq;refine hd λGq kq=>?_;obtain⟨B,v,D,ac,bc,rfl,rfl,hia',N,iv',hsz'⟩:=zq;refine kq ?_;obtain⟨x1,hx1,Y⟩:=aQb (a:=a) (i:=v) (by lia)
   obtain⟨y1,hy1,U⟩:=aQb (a:=b) (i:=D) N;have px1:=pa x1 (ao Y);have py1:=pb y1 (ao U);dsimp only;refine ax (aZ4 hy1 (ax (aZ4 hx1 (ax (cXg o hk py1 px1 ?_)))));dsimp only;cases e:lt y1 x1 with
   |true =>
    refine aQq rfl ?_;refine ax (aZ4 hy1 ?_);have Z:Iv lt (a.toList++b.toList) (B.push y1).toList (a.toList.drop v++b.toList.drop (D+1)):=by
     rw[ca];exact iv'.pushB sb U (bZx o pa sa py1 Y (o.as _ _ py1 px1 e))
    have sp:(B.push y1).size=B.size+1:=dD ..
    by_cases c1:(D+1==b.size)=true
    ·refine aQq c1 ?_;exact aB ⟨rfl,.inl ⟨_,rfl,finA _ _ _ g (by simpa using c1) Z⟩⟩
    ·refine aQr c1 ?_;have c1':D+1≠b.size:=by simpa using c1
     by_cases c2:bc+1>=mg
     ·refine aQq c2 ?_;exact aB ⟨rfl,.inr ⟨_,_,_,_,_,rfl,hia',by lia,Z,by lia⟩⟩
     ·refine aQr c2 ?_;exact aB ⟨_,_,_,_,_,rfl,rfl,hia',by lia,Z,by lia⟩
   |false =>
    refine aQr (by simp) ?_
    refine ax (aZ4 hx1 ?_);have Z:Iv lt (a.toList++b.toList) (B.push x1).toList (a.toList.drop (v+1)++b.toList.drop D):=by
     rw[ca];exact iv'.pushA sa Y (bZx o pb sb px1 U e)
    have sp:(B.push x1).size=B.size+1:=dD ..
    by_cases c1:(v+1+1==a.size)=true
    ·refine aQq c1 ?_;exact aB ⟨rfl,.inl ⟨_,rfl,finL _ _ _ g (by simpa using c1) Z⟩⟩
    ·refine aQr c1 ?_;have c1':v+1+1≠a.size:=by simpa using c1
     by_cases c2:ac+1>=mg
     ·refine aQq c2 ?_;exact aB ⟨rfl,.inr ⟨_,_,_,_,_,rfl,by lia,N,Z,by lia⟩⟩
     ·refine aQr c2 ?_;exact aB ⟨_,_,_,_,_,rfl,rfl,by lia,N,Z,by lia⟩
  ·intro c L zq;refine hd λGq kq=>?_;obtain⟨B,v,D,ac,bc,rfl,rfl,hia',N,iv',hsz'⟩:=zq;refine kq ?_;exact⟨rfl,.inr ⟨_,_,_,_,_,rfl,hia',N,iv',by lia⟩⟩
  ·rintro c L ⟨rfl,⟨r,hr,q⟩|⟨out1,ia1,ib1,ac1,bc1,rfl,hia1,hib1,iv1,hsz1⟩⟩
   ·obtain⟨c1,c2⟩:=c;dsimp only at hr;subst hr;exact aB ⟨r,rfl,q⟩
   ·dsimp only;refine ax (hZ (c7 ⟨rfl,?_⟩));refine ax (de (bL (I:=λy c L=>∃ B v D mg' ac bc g',c=(none,B,v,D,mg',ac,bc)/\L=setG st g'/\v + 1 < a.size/\D < b.size/\Iv lt (a.toList++b.toList) B.toList (a.toList.drop v++b.toList.drop D)/\out1.size<=B.size)
     (Q:=λc L=>(∃r,c.fst=some r/\Q r L)\/∃B v D mg' ac bc g',c=(none,B,v,D,mg',ac,bc)/\L=setG st g'/\v+1<a.size/\D<b.size/\Iv lt (a.toList++b.toList) B.toList (a.toList.drop v++b.toList.drop D)/\out1.size<=B.size) ?_ ?_ ⟨out1,ia1,ib1,_,ac1,bc1,g,rfl,rfl,hia1,hib1,iv1,Nat.le_refl _⟩) ?_)
    ·intro y c L _ hy zq;refine hd λGq kq=>?_;obtain⟨B,v,D,mg',ac,bc,g',rfl,rfl,hia',N,iv',hsz'⟩:=zq;refine kq ?_;dsimp only;obtain⟨y1,hy1,U⟩:=aQb (a:=b) (i:=D) N;have py1:=pb y1 (ao U);have fa:∀i,i<a.size-v->a[v+i]?=some (a.toList.getD (v+i) (.none,.none))/\P (a.toList.getD (v+i) (.none,.none)):=λi hi=>by
      obtain⟨z,hz,J⟩:=aQb (a:=a) (i:=v+i) (by lia)
      rw[ah,J];exact⟨hz,pa z (ao J)⟩
     have mono:∀i j,i<=j->j<a.size-v->bv lt false y1 (a.toList.getD (v+j) (.none,.none))=true->bv lt false y1 (a.toList.getD (v+i) (.none,.none))=true:=λi j hij hj hb=>by
      obtain⟨z,hz,J⟩:=aQb (a:=a) (i:=v+i) (by lia)
      obtain⟨z',hz',hzl'⟩:=aQb (a:=a) (i:=v+j) (by lia)
      rw[ah,hzl'] at hb;rw[ah,J];have hb':lt y1 z'=false:=by simpa [bv] using hb
      show(!lt y1 z)=true;rcases Nat.eq_or_lt_of_le hij with rfl|hlt
      ·rw[J] at hzl';cases hzl';rw[hb'];rfl
      ·rw[o.tr z z' y1 (pa z (ao J)) (pa z' (ao hzl')) py1 (sa.at (by lia) J hzl') hb'];rfl
     clear kq
     revert mg'
     refine dX0 (λ_=>rfl) λm2=>?_;refine ax (cO (ax (aZ4 hy1 (ax (bQg o (f:=λi=>a.toList.getD (v+i) (.none,.none)) hk py1 fa mono (by lia) λk k1 k2 k3=>?_)))))
     dsimp only;have behind:∀j z,v+k<=j->a.toList[j]?=some z->lt z y1=false:=λj z hj hz=>by
      have hja:j<a.size:=by have:=(aC.mp hz).1;simpa using this
      have:=k3 (j-v) (by lia) (by lia)
      rw[ah,show v+(j-v)=j by lia,hz] at this
      have h1:(!lt y1 z)=false:=this;exact o.as _ _ py1 (pa z (ao hz)) (by simpa using h1)
     by_cases ck:k>0
     ·refine aQq ck ?_;have iv3:Iv lt (a.toList++b.toList) (B++a.extract v (v+k)).toList (a.toList.drop (v+k)++b.toList.drop D):=by
       rw[cr,aZ8,show v+k-v=k by lia]
       refine iv'.blockA sa k λz hz u hu=>?_;obtain⟨j,hj,J⟩:=aZj hz;have hb:=k2 j hj;rw[ah,J] at hb;have h1:(!lt y1 z)=true:=hb;exact bZx o pb sb (pa z (ao J)) U (by simpa using h1) u hu
      have sz3:out1.size<=(B++a.extract v (v+k)).size:=by rw[dP];lia
      by_cases c3:(v+k+1==a.size)=true
      ·refine aQq c3 ?_;exact aB (.inl ⟨_,rfl,finL _ _ _ _ (by simpa using c3) iv3⟩)
      ·refine aQr c3 ?_;have c3':v+k+1≠a.size:=by simpa using c3
       by_cases c4:(v+k==a.size)=true
       ·refine aQq c4 ?_;exact aB (.inl ⟨_,rfl,finB _ _ _ _ (by simpa using c4) iv3⟩)
       ·refine aQr c4 ?_;have c4':v+k≠a.size:=by simpa using c4
        refine t1 _ _ (v+k) D m2 k bc m2 (λr c' q=>.inl ⟨r,rfl,q⟩) (λo' i1 i2 a1 b1 q1 q2 q3 q4=>⟨.inr ⟨_,_,_,_,_,_,_,rfl,rfl,q1,q2,q3,by lia⟩,⟨_,_,_,_,_,_,_,rfl,rfl,q1,q2,q3,by lia⟩⟩) (by lia) N iv3 λy hy u hu=>?_
        rw[U] at hy;cases hy;obtain⟨j,hj,e⟩:=aQl hu;exact behind j u hj e
     ·refine aQr ck ?_;refine t1 _ _ v D m2 k bc m2 (λr c' q=>.inl ⟨r,rfl,q⟩) (λo' i1 i2 a1 b1 q1 q2 q3 q4=>⟨.inr ⟨_,_,_,_,_,_,_,rfl,rfl,q1,q2,q3,by lia⟩,⟨_,_,_,_,_,_,_,rfl,rfl,q1,q2,q3,by lia⟩⟩) hia' N iv' λy hy u hu=>?_
      rw[U] at hy;cases hy;obtain⟨j,hj,e⟩:=aQl hu;exact behind j u (by lia) e
    ·intro c L zq;refine hd λGq kq=>?_;obtain⟨B,v,D,mg',ac,bc,g',rfl,rfl,hia',N,iv',hsz'⟩:=zq;refine kq ?_;exact .inr ⟨_,_,_,_,_,_,_,rfl,rfl,hia',N,iv',hsz'⟩
    ·rintro c L (⟨r,hr,q⟩|⟨B,v,D,mg',ac,bc,g',rfl,rfl,hia',N,iv',hsz'⟩)
     ·obtain⟨c1,c2⟩:=c;dsimp only at hr;subst hr;exact aB ⟨r,rfl,q⟩
     ·dsimp only;exact ax (cO (aB ⟨_,_,_,_,_,rfl,rfl,hia',N,iv',by lia⟩))
 ·intro c L zq;refine hd λGq kq=>?_;obtain⟨out,ia,ib,mg,g,rfl,rfl,hia,hib,iv,hsz⟩:=zq;refine kq ?_;exfalso
  have:=iv.size
  rw[sz,aM] at this;lia
 ·rintro c L ⟨r,hr,q⟩;obtain⟨c1,c2⟩:=c;dsimp only at hr;subst hr;exact aB q
end
theorem eJ0(a b:Array aH):mHi a b=(do
 rule "list.sort.merge-hi"
 let total:=a.size+b.size
 let fin (o:Array aH) (na nb:Nat):=a.extract 0 na++b.extract 0 nb++o.reverse
 let fst (o:Array aH) (na nb:Nat):=b.extract 0 nb++a.extract 0 na++o.reverse
 let mut na:=a.size-1
 let mut nb:=b.size
 let mut out:Array aH:=#[<- d5 a na]
 if na==0 then return fin out na nb
 if nb==1 then return fst out na nb
 let mut minGallop:=gallopOf (<- get)
 for _ in [0:total] do
  let mut acount:=0
  let mut bcount:=0
  for _ in [0:total] do
   let some aw <- lt' (<- d5 b (nb-1)) (<- d5 a (na-1))|return fin out na nb
   if aw then
    na:=na-1
    out:=out.push (<- d5 a na)
    acount:=acount+1
    bcount:=0
    if na==0 then return fin out na nb
    if acount>=minGallop then break
   else
    nb:=nb-1
    out:=out.push (<- d5 b nb)
    bcount:=bcount+1
    acount:=0
    if nb==1 then return fst out na nb
    if bcount>=minGallop then break
  rule "list.sort.gallop"
  minGallop:=minGallop+1
  for _ in [0:total] do
   if minGallop>1 then minGallop:=minGallop-1
   modify (λs=>setG s minGallop)
   let some p <- gal false (<- d5 b (nb-1)) a 0 na (na-1)|return fin out na nb
   let k:=na-p
   acount:=k
   if k>0 then
    out:=out++(a.extract p na).reverse
    na:=p
    if na==0 then return fin out na nb
   nb:=nb-1
   out:=out.push (<- d5 b nb)
   if nb==1 then return fst out na nb
   let some p <- gal true (<- d5 a (na-1)) b 0 nb (nb-1)|return fin out na nb
   let k:=nb-p
   bcount:=k
   if k>0 then
    out:=out++(b.extract p nb).reverse
    nb:=p
    if nb==1 then return fst out na nb
    if nb==0 then return fin out na nb
   na:=na-1
   out:=out.push (<- d5 a na)
   if na==0 then return fin out na nb
   if acount<7&&bcount<7 then break
  minGallop:=minGallop+1
  modify (λs=>setG s minGallop)
 eR "internal:list.sort.merge-bound"):=rfl
section
variable{α:Type}{lt:α->α->Bool}{T out rest:List α}
abbrev rl(lt:α->α->Bool):α->α->Bool:=λx y=>lt y x
theorem Iv.doneR(h:Iv (rl lt) T out rest){l:List α}(hp:l.Perm rest)(hs:Sd lt l):Sd lt (l++out.reverse)/\(l++out.reverse).Perm T:=by
 refine⟨a9.mpr ⟨hs,gq.mpr h.sd,λx j y i=>h.lo y (iO.mp i) x (hp.mem_iff.mp j)⟩,?_⟩;exact(jv.append hp (im out)).trans (cY.trans h.perm)
theorem bXx{l:List α}{i:Nat}{x:α}(h:l[i]?=some x):l.take (i+1)=l.take i++[x]:=by rw[bT,h];rfl
theorem Sd.take{l:List α}(h:Sd lt l)(i:Nat):Sd lt (l.take i):=h.sublist (dj _ _)
theorem aQn{l:List α}{i:Nat}{y:α}(h:y∈l.take i):∃j,j<i/\l[j]?=some y:=by
 obtain⟨k,v,e⟩:=be h;rw[aR] at v;rw[f8] at e;exact⟨k,by lia,by rw[ag (by lia),e]⟩
end
section
variable{prog:aF}{w:aS}{A:a4}{s:ak}{κ:eO}{P:aH->Prop}{lt:aH->aH->Bool}{T out la lb:List aH}{na nb:Nat}{x y:aH}
theorem bZy(o:Orc prog w A s κ P lt){l:List aH}(hP:∀z∈l,P z)(hs:Sd lt l){i:Nat}{z:aH}(hz:P z){y:aH}(hy:l[i]?=some y)(h:lt z y=false):∀u∈l.take (i+1),lt z u=false:=λu B=>by
 obtain⟨j,D,e⟩:=aQn B;rcases Nat.eq_or_lt_of_le (Nat.le_of_lt_succ D) with rfl|v
 ·rw[hy] at e;cases e;exact h
 ·exact o.tr u y z (hP u (ao e)) (hP y (ao hy)) hz (hs.at v e hy) h
theorem Iv.popA(h:Iv (rl lt) T out (la.take (na+1)++lb.take nb))(sa:Sd lt la)(hx:la[na]?=some x)(hl:∀u∈lb.take nb,lt x u=false):Iv (rl lt) T (out++[x]) (la.take na++lb.take nb):=by
 refine h.step ?_ (cv _ _) λz i u B=>?_
 ·rw[bXx hx,aV];exact fx
 ·rw[aU.mp i];rcases aP.mp B with v|v
  ·obtain⟨j,D,e⟩:=aQn v;exact sa.at D e hx
  ·exact hl u v
theorem Iv.popB(h:Iv (rl lt) T out (la.take na++lb.take (nb+1)))(sb:Sd lt lb)(hy:lb[nb]?=some y)(hl:∀u∈la.take na,lt y u=false):Iv (rl lt) T (out++[y]) (la.take na++lb.take nb):=by
 refine h.step ?_ (cv _ _) λz i u B=>?_
 ·rw[bXx hy,<- aV];exact cY
 ·rw[aU.mp i];rcases aP.mp B with v|v
  ·exact hl u v
  ·obtain⟨j,D,e⟩:=aQn v;exact sb.at D e hy
theorem cXh(l:List aH){p n:Nat}(h:p<=n):l.take n=l.take p++(l.drop p).take (n-p):=by
 have:n=p+(n-p):=by lia
 rw[this,List.take_add];simp
theorem Iv.backA(h:Iv (rl lt) T out (la.take na++lb.take nb))(sa:Sd lt la){p:Nat}(hp:p<=na)(hl:∀z∈(la.drop p).take (na-p),∀u∈lb.take nb,lt z u=false):Iv (rl lt) T (out++((la.drop p).take (na-p)).reverse) (la.take p++lb.take nb):=by
 have e:=cXh la hp;have sd:=sa.take na;rw[e] at sd;obtain⟨_,s2,s3⟩:=a9.mp sd;refine h.step ?_ (gq.mpr s2) λz i u j=>?_
 ·rw[e,aV];refine(List.perm_append_comm_assoc _ _ _).trans ?_;exact dW _ (im _).symm
 ·have i:=iO.mp i;rcases aP.mp j with v|v
  ·exact s3 u v z i
  ·exact hl z i u v
theorem Iv.backB(h:Iv (rl lt) T out (la.take na++lb.take nb))(sb:Sd lt lb){p:Nat}(hp:p<=nb)(hl:∀z∈(lb.drop p).take (nb-p),∀u∈la.take na,lt z u=false):Iv (rl lt) T (out++((lb.drop p).take (nb-p)).reverse) (la.take na++lb.take p):=by
 have e:=cXh lb hp;have sd:=sb.take nb;rw[e] at sd;obtain⟨_,s2,s3⟩:=a9.mp sd;refine h.step ?_ (gq.mpr s2) λz i u j=>?_
 ·rw[e,<- aV];refine cY.trans ?_;exact dW _ (im _).symm
 ·have i:=iO.mp i;rcases aP.mp j with v|v
  ·exact hl z i u v
  ·exact s3 u v z i
end
theorem dX1(a:Array aH)(n:Nat):(a.extract 0 n).toList=a.toList.take n:=by rw[aZ8];simp
section
variable{prog:aF}{w:aS}{A:a4}{E:ad->ak->Prop}{s:ak}{κ:eO}{P:aH->Prop}{lt:aH->aH->Bool}
theorem eJ1(o:Orc prog w A s κ P lt){st:cN}{a b:Array aH}{Q:Array aH->cN->Prop}(hk:kindOf st=κ)(pa:∀x∈a.toList,P x)(pb:∀y∈b.toList,P y)(sa:Sd lt a.toList)(sb:Sd lt b.toList)(na0:1<=a.size)(nb0:1<=b.size)
  (hfst:∀y,b.toList[0]?=some y->∀x∈a.toList,lt x y=false) (hlst:∀z,a.toList[a.size-1]?=some z->∀y∈b.toList,lt z y=false)
  (h:∀out g,Sd lt out.toList->out.toList.Perm (a.toList++b.toList)->Q out (setG st g)):wpS (aE prog w) A E s (mHi a b) Q st:=by
 have sz:(a.toList++b.toList).length=a.size+b.size:=by simp
 have finG:∀(out:Array aH) na nb g,Sd lt (a.toList.take na++b.toList.take nb)->Iv (rl lt) (a.toList++b.toList) out.toList (a.toList.take na++b.toList.take nb)->Q (a.extract 0 na++b.extract 0 nb++out.reverse) (setG st g):=λout na nb g e iv=>by
  have:=iv.doneR (dq _) e
  refine h _ g ?_ ?_ <;> simp only[cr,fq,dX1]
  ·exact this.1
  ·exact this.2
 have finF:∀(out:Array aH) na nb g,nb=1->Iv (rl lt) (a.toList++b.toList) out.toList (a.toList.take na++b.toList.take nb)->Q (b.extract 0 nb++a.extract 0 na++out.reverse) (setG st g):=λout na nb g e iv=>by
  obtain⟨y0,hy0,hy0l⟩:=aQb (a:=b) (i:=0) nb0;have e1:b.toList.take nb=[y0]:=by rw[e];exact(bXx (i:=0) hy0l)
  have sd:Sd lt (b.toList.take nb++a.toList.take na):=by
   rw[e1];exact bz.mpr ⟨λu hu=>hfst y0 hy0l u (cL hu),sa.take na⟩
  have:=iv.doneR cY sd
  refine h _ g ?_ ?_ <;> simp only[cr,fq,dX1]
  ·exact this.1
  ·exact this.2
 have t2:∀(L:ForInStep (Option (Array aH)×Nat×Nat×Array aH×Nat×Nat×Nat)->cN->Prop) (out:Array aH) (na nb mg ac Z g:Nat),(∀r c',Q r (setG st g)->L (.done (some r,c')) (setG st g)) ->
   (∀na' B v ac' bc',1<=na'->(na'<=a.size/\2<=B/\B<=b.size)->Iv (rl lt) (a.toList++b.toList) v.toList (a.toList.take na'++b.toList.take B)->out.size<=v.size->L (.done (none,na',B,v,mg,ac',bc')) (setG st g)/\L (.yield (none,na',B,v,mg,ac',bc')) (setG st g)) ->
   1<=na->na<=a.size->(2<=nb/\nb<=b.size)->Iv (rl lt) (a.toList++b.toList) out.toList (a.toList.take na++b.toList.take nb)->(∀x,a.toList[na-1]?=some x->∀u∈b.toList.take nb,lt x u=false) ->
   wpS (aE prog w) A E s (do
    let x <- d5 a (na-1)
    if (na-1==0)=true then pure (ba (some (a.extract 0 (na-1)++b.extract 0 nb++((out).push x).reverse),na-1,nb,(out).push x,mg,ac,Z))
    else if (decide (ac<7)&&decide (Z<7))=true then pure (ba (none,na-1,nb,(out).push x,mg,ac,Z))
    else pure (bh (none,na-1,nb,(out).push x,mg,ac,Z))) L (setG st g):=by
  intro L out na nb mg ac Z g hd hg hna hla hnb iv hl;obtain⟨m,rfl⟩:∃m,na=m+1:=⟨na-1,by lia⟩
  simp only[Nat.add_sub_cancel] at hl ⊢;obtain⟨x1,hx1,O⟩:=aQb (a:=a) (i:=m) (by lia)
  refine ax (aZ4 hx1 ?_);have Y:Iv (rl lt) (a.toList++b.toList) (out.push x1).toList (a.toList.take m++b.toList.take nb):=by
   rw[ca];exact iv.popA sa O (hl x1 O)
  have sp:(out.push x1).size=out.size+1:=dD ..
  by_cases c1:(m==0)=true
  ·have m0:m=0:=by simpa using c1
   refine aQq c1 ?_;refine aB (hd _ _ (finG _ _ _ g ?_ Y));rw[m0];exact sb.take _
  ·refine aQr c1 ?_;have c1':m≠0:=by simpa using c1
   have:=hg m nb (out.push x1) ac Z (by lia) ⟨by lia,hnb⟩ Y (by lia)
   by_cases c2:(decide (ac<7)&&decide (Z<7))=true
   ·refine aQq c2 ?_;exact aB this.1
   ·refine aQr c2 ?_;exact aB this.2
 have t1:∀(L:ForInStep (Option (Array aH)×Nat×Nat×Array aH×Nat×Nat×Nat)->cN->Prop) (out:Array aH) (na nb mg ac Z g:Nat),(∀r c',Q r (setG st g)->L (.done (some r,c')) (setG st g)) ->
   (∀na' B v ac' bc',1<=na'->(na'<=a.size/\2<=B/\B<=b.size)->Iv (rl lt) (a.toList++b.toList) v.toList (a.toList.take na'++b.toList.take B)->out.size<=v.size->L (.done (none,na',B,v,mg,ac',bc')) (setG st g)/\L (.yield (none,na',B,v,mg,ac',bc')) (setG st g)) ->
   1<=na->na<=a.size->(2<=nb/\nb<=b.size)->Iv (rl lt) (a.toList++b.toList) out.toList (a.toList.take na++b.toList.take nb)->(∀y,b.toList[nb-1]?=some y->∀u∈a.toList.take na,lt y u=false) ->
   wpS (aE prog w) A E s (do
    let y <- d5 b (nb-1)
    if (nb-1==1)=true then pure (ba (some (b.extract 0 (nb-1)++a.extract 0 na++(out.push y).reverse),na,nb-1,out.push y,mg,ac,Z))
    else do
     let x <- d5 a (na-1)
     let z <- gal true x b 0 (nb-1) (nb-1-1)
     match z with
     |some U =>
      if nb-1-U>0 then
       if (U==1)=true then pure (ba (some (b.extract 0 U++a.extract 0 na++(out.push y++(b.extract U (nb-1)).reverse).reverse),na,U,out.push y++(b.extract U (nb-1)).reverse,mg,ac,nb-1-U))
       else if (U==0)=true then pure (ba (some (a.extract 0 na++b.extract 0 U++(out.push y++(b.extract U (nb-1)).reverse).reverse),na,U,out.push y++(b.extract U (nb-1)).reverse,mg,ac,nb-1-U))
       else do
        let x <- d5 a (na-1)
        if (na-1==0)=true then pure (ba (some (a.extract 0 (na-1)++b.extract 0 U++((out.push y++(b.extract U (nb-1)).reverse).push x).reverse),na-1,U,(out.push y++(b.extract U (nb-1)).reverse).push x,mg,ac,(nb-1-U)))
        else if (decide (ac<7)&&decide ((nb-1-U)<7))=true then pure (ba (none,na-1,U,(out.push y++(b.extract U (nb-1)).reverse).push x,mg,ac,(nb-1-U)))
        else pure (bh (none,na-1,U,(out.push y++(b.extract U (nb-1)).reverse).push x,mg,ac,(nb-1-U)))
      else do
       let x <- d5 a (na-1)
       if (na-1==0)=true then pure (ba (some (a.extract 0 (na-1)++b.extract 0 (nb-1)++((out.push y).push x).reverse),na-1,(nb-1),(out.push y).push x,mg,ac,(nb-1-U)))
       else if (decide (ac<7)&&decide ((nb-1-U)<7))=true then pure (ba (none,na-1,(nb-1),(out.push y).push x,mg,ac,(nb-1-U)))
       else pure (bh (none,na-1,(nb-1),(out.push y).push x,mg,ac,(nb-1-U)))
     |_=>pure (ba (some (a.extract 0 na++b.extract 0 (nb-1)++(out.push y).reverse),na,nb-1,out.push y,mg,ac,Z))) L (setG st g):=by
  intro L out na nb mg ac Z g hd hg hna hla hnb iv hl;obtain⟨m,rfl⟩:∃m,nb=m+1:=⟨nb-1,by lia⟩
  simp only[Nat.add_sub_cancel] at hl ⊢;obtain⟨y1,hy1,N⟩:=aQb (a:=b) (i:=m) (by lia)
  obtain⟨x1,hx1,O⟩:=aQb (a:=a) (i:=na-1) (by lia)
  have px1:=pa x1 (ao O);refine ax (aZ4 hy1 ?_);have Y:Iv (rl lt) (a.toList++b.toList) (out.push y1).toList (a.toList.take na++b.toList.take m):=by
   rw[ca];exact iv.popB sb N (hl y1 N)
  have sp:(out.push y1).size=out.size+1:=dD ..
  by_cases c1:(m==1)=true
  ·refine aQq c1 ?_;exact aB (hd _ _ (finF _ _ _ g (by simpa using c1) Y))
  refine aQr c1 ?_;have c1':m≠1:=by simpa using c1
  refine ax (aZ4 hx1 (ax (bQg o (f:=λi=>b.toList.getD (0+i) (.none,.none)) hk px1 (λi hi=>?_) (λi j hij hj hb=>?_) (by lia) λk k1 k2 k3=>?_)))
  ·obtain⟨z,hz,J⟩:=aQb (a:=b) (i:=0+i) (by lia)
   rw[ah,J];exact⟨hz,pb z (ao J)⟩
  ·obtain⟨z,hz,J⟩:=aQb (a:=b) (i:=0+i) (by lia)
   obtain⟨z',hz',hzl'⟩:=aQb (a:=b) (i:=0+j) (by lia)
   rw[ah,hzl'] at hb;rw[ah,J];have hb':lt z' x1=true:=hb;show lt z x1=true;cases e:lt z x1 with
   |true=>rfl
   |false =>
    exfalso;have pz:=pb z (ao J);have pz':=pb z' (ao hzl');rcases Nat.eq_or_lt_of_le hij with rfl|hlt
    ·rw[J] at hzl';cases hzl';rw[e] at hb';cases hb'
    ·have:=o.tr x1 z z' px1 pz pz' e (sb.at (by lia) J hzl')
     rw[hb'] at this;cases this
  have ahead:∀u∈b.toList.take k,lt x1 u=false:=λu hu=>by
   obtain⟨j,hj,e⟩:=aQn hu
   have:=k2 j hj
   rw[ah,Nat.zero_add,e] at this;exact o.as _ _ (pb u (ao e)) px1 this
  dsimp only
  by_cases ck:m-k>0
  ·refine aQq ck ?_;have iv3:Iv (rl lt) (a.toList++b.toList) (out.push y1++(b.extract k m).reverse).toList (a.toList.take na++b.toList.take k):=by
    rw[cr,fq,aZ8];refine Y.backB sb k1 λz hz u hu=>?_;obtain⟨j,hj,J⟩:=aZj hz;have pz:=pb z (ao J);have hb:=k3 (k+j) (by lia) (by lia)
    rw[ah,Nat.zero_add,J] at hb
    have:=bZy o pa sa pz O hb
    rw[show na-1+1=na by lia] at this
    exact this u hu
   have sz3:out.size<=(out.push y1++(b.extract k m).reverse).size:=by rw[dP];lia
   by_cases c3:(k==1)=true
   ·refine aQq c3 ?_;exact aB (hd _ _ (finF _ _ _ g (by simpa using c3) iv3))
   ·refine aQr c3 ?_;have c3':k≠1:=by simpa using c3
    by_cases c4:(k==0)=true
    ·have k0:k=0:=by simpa using c4
     refine aQq c4 ?_;refine aB (hd _ _ (finG _ _ _ g ?_ iv3));rw[k0,jp,bB];exact sa.take _
    ·refine aQr c4 ?_;have c4':k≠0:=by simpa using c4
     refine t2 L _ na k mg ac (m-k) g hd (λn1 n2 o' a1 b1 q1 q2 q3 q4=>hg n1 n2 o' a1 b1 q1 q2 q3 (by lia)) hna hla ⟨by lia,by lia⟩ iv3 λx hx u hu=>?_
     rw[O] at hx;cases hx;exact ahead u hu
  ·refine aQr ck ?_;have ek:k=m:=by lia
   refine t2 L _ na m mg ac (m-k) g hd (λn1 n2 o' a1 b1 q1 q2 q3 q4=>hg n1 n2 o' a1 b1 q1 q2 q3 (by lia)) hna hla ⟨by lia,by lia⟩ Y λx hx u hu=>?_
   rw[O] at hx;cases hx;exact ahead u (by rw[ek];exact hu)
 rw[eJ0];refine ax (hZ (c7 ⟨rfl,?_⟩));dsimp only;obtain⟨x0,hx0,hx0l⟩:=aQb (a:=a) (i:=a.size-1) (by lia)
 refine ax (aZ4 hx0 ?_);have iv0:Iv (rl lt) (a.toList++b.toList) (#[x0]:Array aH).toList (a.toList.take (a.size-1)++b.toList.take b.size):=by
  have e1:a.toList.take (a.size-1+1)=a.toList:=bi (by simp;lia)
  have e2:b.toList.take b.size=b.toList:=bi (by simp)
  have i0:Iv (rl lt) (a.toList++b.toList) [] (a.toList.take (a.size-1+1)++b.toList.take b.size):=⟨by rw[e1,e2];exact dq _,fZ,by simp⟩
  exact i0.popA sa hx0l λu hu=>hlst x0 hx0l u (cL hu)
 have est:st=setG st (gallopOf st):=rfl
 by_cases ha1:(a.size-1==0)=true
 ·refine aQq ha1 ?_;have a0:a.size-1=0:=by simpa using ha1
  refine aB ?_;rw[est];refine finG _ _ _ _ ?_ iv0;rw[a0];exact sb.take _
 refine aQr ha1 ?_
 by_cases hb1:(b.size==1)=true
 ·refine aQq hb1 ?_;refine aB ?_;rw[est];exact finF _ _ _ _ (by simpa using hb1) iv0
 refine aQr hb1 ?_;have hb2:2<=b.size:=by
  have:b.size≠1:=by simpa using hb1
  lia
 have ha2:1<=a.size-1:=by
  have:a.size-1≠0:=by simpa using ha1
  lia
 refine ax (gQ ?_);refine ax (de (bL (I:=λx c D=>∃ na nb out mg g,c=(none,na,nb,out,mg)/\D=setG st g/\1<=na/\na<=a.size/\(2<=nb/\nb<=b.size)/\Iv (rl lt) (a.toList++b.toList) out.toList (a.toList.take na++b.toList.take nb)/\x + 1<=out.size)
  (Q:=λc D=>∃r,c.fst=some r/\Q r D) ?_ ?_ ⟨_,_,#[x0],_,_,rfl,est,ha2,by lia,⟨hb2,Nat.le_refl _⟩,iv0,by simp⟩) ?_)
 ·intro x c D _ hx zq;refine hd λGq kq=>?_;obtain⟨na,nb,out,mg,g,rfl,rfl,hna,hla,hnb,iv,hsz⟩:=zq;refine kq ?_;dsimp only;refine ax (de (bL (I:=λy c D=>∃ na' B v ac Z,c=(none,na',B,v,ac,Z)/\D=setG st g/\1<=na'/\na'<=a.size/\(2<=B/\B<=b.size)/\Iv (rl lt) (a.toList++b.toList) v.toList (a.toList.take na'++b.toList.take B)/\out.size + y<=v.size)
   (Q:=λc D=>D=setG st g/\((∃r,c.fst=some r/\Q r D)\/∃na' B v ac Z,c=(none,na',B,v,ac,Z)/\1<=na'/\na'<=a.size/\(2<=B/\B<=b.size)/\Iv (rl lt) (a.toList++b.toList) v.toList (a.toList.take na'++b.toList.take B)/\out.size+1<=v.size)) ?_ ?_ ⟨na,nb,out,0,0,rfl,rfl,hna,hla,hnb,iv,Nat.le_refl _⟩) ?_)
  ·intro y c D _ hy zq;refine hd λGq kq=>?_;obtain⟨na',B,v,ac,Z,rfl,rfl,hna',hla',hnb',iv',hsz'⟩:=zq;refine kq ?_;obtain⟨ma,rfl⟩:∃m,na'=m+1:=⟨na'-1,by lia⟩
   obtain⟨mb,rfl⟩:∃m,B=m+1:=⟨B-1,by lia⟩
   obtain⟨x1,hx1,O⟩:=aQb (a:=a) (i:=ma) (by lia)
   obtain⟨y1,hy1,N⟩:=aQb (a:=b) (i:=mb) (by lia)
   have px1:=pa x1 (ao O);have py1:=pb y1 (ao N);dsimp only;simp only[Nat.add_sub_cancel];refine ax (aZ4 hy1 (ax (aZ4 hx1 (ax (cXg o hk py1 px1 ?_)))));dsimp only;cases e:lt y1 x1 with
   |true =>
    refine aQq rfl ?_;refine ax (aZ4 hx1 ?_);have Y:Iv (rl lt) (a.toList++b.toList) (v.push x1).toList (a.toList.take ma++b.toList.take (mb+1)):=by
     rw[ca];exact iv'.popA sa O (bZy o pb sb px1 N (o.as _ _ py1 px1 e))
    have sp:(v.push x1).size=v.size+1:=dD ..
    by_cases c1:(ma==0)=true
    ·have m0:ma=0:=by simpa using c1
     refine aQq c1 ?_;refine aB ⟨rfl,.inl ⟨_,rfl,finG _ _ _ g ?_ Y⟩⟩;rw[m0];exact sb.take _
    ·refine aQr c1 ?_;have c1':ma≠0:=by simpa using c1
     by_cases c2:ac+1>=mg
     ·refine aQq c2 ?_;exact aB ⟨rfl,.inr ⟨_,_,_,_,_,rfl,by lia,by lia,hnb',Y,by lia⟩⟩
     ·refine aQr c2 ?_;exact aB ⟨_,_,_,_,_,rfl,rfl,by lia,by lia,hnb',Y,by lia⟩
   |false =>
    refine aQr (by simp) ?_
    refine ax (aZ4 hy1 ?_);have Y:Iv (rl lt) (a.toList++b.toList) (v.push y1).toList (a.toList.take (ma+1)++b.toList.take mb):=by
     rw[ca];exact iv'.popB sb N (bZy o pa sa py1 O e)
    have sp:(v.push y1).size=v.size+1:=dD ..
    by_cases c1:(mb==1)=true
    ·refine aQq c1 ?_;exact aB ⟨rfl,.inl ⟨_,rfl,finF _ _ _ g (by simpa using c1) Y⟩⟩
    ·refine aQr c1 ?_;have c1':mb≠1:=by simpa using c1
     by_cases c2:Z+1>=mg
     ·refine aQq c2 ?_;exact aB ⟨rfl,.inr ⟨_,_,_,_,_,rfl,by lia,by lia,⟨by lia,by lia⟩,Y,by lia⟩⟩
     ·refine aQr c2 ?_;exact aB ⟨_,_,_,_,_,rfl,rfl,by lia,by lia,⟨by lia,by lia⟩,Y,by lia⟩
  ·intro c D zq;refine hd λGq kq=>?_;obtain⟨na',B,v,ac,Z,rfl,rfl,hna',hla',hnb',iv',hsz'⟩:=zq;refine kq ?_;exact⟨rfl,.inr ⟨_,_,_,_,_,rfl,hna',hla',hnb',iv',by lia⟩⟩
  ·rintro c D ⟨rfl,⟨r,hr,q⟩|⟨na1,nb1,out1,ac1,bc1,rfl,hna1,hla1,hnb1,iv1,hsz1⟩⟩
   ·obtain⟨c1,c2⟩:=c;dsimp only at hr;subst hr;exact aB ⟨r,rfl,q⟩
   ·dsimp only;refine ax (hZ (c7 ⟨rfl,?_⟩));refine ax (de (bL (I:=λy c D=>∃ na' B v mg' ac Z g',c=(none,na',B,v,mg',ac,Z)/\D=setG st g'/\1<=na'/\(na'<=a.size/\2<=B/\B<=b.size)/\Iv (rl lt) (a.toList++b.toList) v.toList (a.toList.take na'++b.toList.take B)/\out1.size<=v.size)
     (Q:=λc D=>(∃r,c.fst=some r/\Q r D)\/∃na' B v mg' ac Z g',c=(none,na',B,v,mg',ac,Z)/\D=setG st g'/\1<=na'/\(na'<=a.size/\2<=B/\B<=b.size)/\Iv (rl lt) (a.toList++b.toList) v.toList (a.toList.take na'++b.toList.take B)/\out1.size<=v.size) ?_ ?_ ⟨na1,nb1,out1,_,ac1,bc1,g,rfl,rfl,hna1,⟨hla1,hnb1⟩,iv1,Nat.le_refl _⟩) ?_)
    ·intro y c D _ hy zq;refine hd λGq kq=>?_;obtain⟨na',B,v,mg',ac,Z,g',rfl,rfl,hna',⟨hla',hnb'⟩,iv',hsz'⟩:=zq;refine kq ?_;dsimp only;obtain⟨y1,hy1,N⟩:=aQb (a:=b) (i:=B-1) (by lia)
     have py1:=pb y1 (ao N);have fa:∀i,i<na'->a[0+i]?=some (a.toList.getD (0+i) (.none,.none))/\P (a.toList.getD (0+i) (.none,.none)):=λi hi=>by
      obtain⟨z,hz,J⟩:=aQb (a:=a) (i:=0+i) (by lia)
      rw[ah,J];exact⟨hz,pa z (ao J)⟩
     have mono:∀i j,i<=j->j<na'->bv lt false y1 (a.toList.getD (0+j) (.none,.none))=true->bv lt false y1 (a.toList.getD (0+i) (.none,.none))=true:=λi j hij hj hb=>by
      obtain⟨z,hz,J⟩:=aQb (a:=a) (i:=0+i) (by lia)
      obtain⟨z',hz',hzl'⟩:=aQb (a:=a) (i:=0+j) (by lia)
      rw[ah,hzl'] at hb;rw[ah,J];have hb':lt y1 z'=false:=by simpa [bv] using hb
      show(!lt y1 z)=true;rcases Nat.eq_or_lt_of_le hij with rfl|hlt
      ·rw[J] at hzl';cases hzl';rw[hb'];rfl
      ·rw[o.tr z z' y1 (pa z (ao J)) (pa z' (ao hzl')) py1 (sa.at (by lia) J hzl') hb'];rfl
     clear kq
     revert mg'
     refine dX0 (λ_=>rfl) λm2=>?_;refine ax (cO (ax (aZ4 hy1 (ax (bQg o (f:=λi=>a.toList.getD (0+i) (.none,.none)) hk py1 fa mono (by lia) λk k1 k2 k3=>?_)))))
     dsimp only;have ahead:∀u∈a.toList.take k,lt y1 u=false:=λu hu=>by
      obtain⟨j,hj,e⟩:=aQn hu
      have:=k2 j hj
      rw[ah,Nat.zero_add,e] at this;have h1:(!lt y1 u)=true:=this;simpa using h1
     by_cases ck:na'-k>0
     ·refine aQq ck ?_;have iv3:Iv (rl lt) (a.toList++b.toList) (v++(a.extract k na').reverse).toList (a.toList.take k++b.toList.take B):=by
       rw[cr,fq,aZ8];refine iv'.backA sa k1 λz hz u hu=>?_;obtain⟨j,hj,J⟩:=aZj hz;have hb:=k3 (k+j) (by lia) (by lia)
       rw[ah,Nat.zero_add,J] at hb;have h1:(!lt y1 z)=false:=hb;have pz:=pa z (ao J)
       have:=bZy o pb sb pz N (o.as _ _ py1 pz (by simpa using h1))
       rw[show B-1+1=B by lia] at this
       exact this u hu
      have sz3:out1.size<=(v++(a.extract k na').reverse).size:=by rw[dP];lia
      by_cases c3:(k==0)=true
      ·have k0:k=0:=by simpa using c3
       refine aQq c3 ?_;refine aB (.inl ⟨_,rfl,finG _ _ _ _ ?_ iv3⟩);rw[k0];exact sb.take _
      ·refine aQr c3 ?_;have c3':k≠0:=by simpa using c3
       refine t1 _ _ k B m2 (na'-k) Z m2 (λr c' q=>.inl ⟨r,rfl,q⟩) (λn1 n2 o' a1 b1 q1 q2 q3 q4=>⟨.inr ⟨_,_,_,_,_,_,_,rfl,rfl,q1,q2,q3,by lia⟩,⟨_,_,_,_,_,_,_,rfl,rfl,q1,q2,q3,by lia⟩⟩) (by lia) (by lia) hnb' iv3 λy hy u hu=>?_
       rw[N] at hy;cases hy;exact ahead u hu
     ·refine aQr ck ?_;have ek:k=na':=by lia
      refine t1 _ _ na' B m2 (na'-k) Z m2 (λr c' q=>.inl ⟨r,rfl,q⟩) (λn1 n2 o' a1 b1 q1 q2 q3 q4=>⟨.inr ⟨_,_,_,_,_,_,_,rfl,rfl,q1,q2,q3,by lia⟩,⟨_,_,_,_,_,_,_,rfl,rfl,q1,q2,q3,by lia⟩⟩) hna' hla' hnb' iv' λy hy u hu=>?_
      rw[N] at hy;cases hy;exact ahead u (by rw[ek];exact hu)
    ·intro c D zq;refine hd λGq kq=>?_;obtain⟨na',B,v,mg',ac,Z,g',rfl,rfl,hna',hl',iv',hsz'⟩:=zq;refine kq ?_;exact .inr ⟨_,_,_,_,_,_,_,rfl,rfl,hna',hl',iv',hsz'⟩
    ·rintro c D (⟨r,hr,q⟩|⟨na',B,v,mg',ac,Z,g',rfl,rfl,hna',hl',iv',hsz'⟩)
     ·obtain⟨c1,c2⟩:=c;dsimp only at hr;subst hr;exact aB ⟨r,rfl,q⟩
     ·dsimp only;exact ax (cO (aB ⟨_,_,_,_,_,rfl,rfl,hna',hl'.1,hl'.2,iv',by lia⟩))
 ·intro c D zq;refine hd λGq kq=>?_;obtain⟨na,nb,out,mg,g,rfl,rfl,hna,hla,hnb,iv,hsz⟩:=zq;refine kq ?_;exfalso
  have:=iv.size
  rw[sz,aM] at this;lia
 ·rintro c D ⟨r,hr,q⟩;obtain⟨c1,c2⟩:=c;dsimp only at hr;subst hr;exact aB q
end
theorem eJ2(i:Nat):mergeAt' i=(do
 let s <- get
 let (some (sa,na,pw),some (sb,nb,_)):=((bJ s)[i]?,(bJ s)[i+1]?)|eR "internal:list.sort.pending"
 set (ft s (((bJ s).setIfInBounds i (sa,na+nb,pw)).eraseIdxIfInBounds (i+1)))
 let some k <- gal false (<- d5 (aO s) sb) (aO s) sa na 0|return false
 let (sa,na):=(sa+k,na-k)
 if na==0 then return true
 let some nb <- gal true (<- d5 (aO s) (sa+na-1)) (aO s) sb nb (nb-1)|return false
 if nb==0 then return true
 let x:=(aO s).extract sa sb
 let y:=(aO s).extract sb (sb+nb)
 let m <- if na<=nb then mLo x y else mHi x y
 modify λs=>cJ s (m.toList.zipIdx.foldl (λa (p,j)=>a.setIfInBounds (sa+j) p) (aO s))
 return (fm (<- get)).isNone):=rfl
theorem dJn{M:Model}{A:a4}{E:ad->ak->Prop}{s:ak}{σ:Type}{st st':σ}{Q:PUnit->σ->Prop}(h:Q ⟨⟩ st'):wpS M A E s (set st':StateT σ Sem PUnit) Q st:=by
 unfold wpS;show aG M A (pure (PUnit.unit,st'):Sem (PUnit×σ)) _ E s;exact af ⟨rfl,h⟩
theorem cQ5(off:Nat):∀(M:List aH) (k:Nat) (xs:Array aH),off+k+M.length<=xs.size->((M.zipIdx k).foldl (λa pj=>a.setIfInBounds (off+pj.2) pj.1) xs).toList=xs.toList.take (off+k)++M++xs.toList.drop (off+k+M.length)
 |[],k,xs,h=>by simp
 |x::M,k,xs,h=>by
  rw[List.zipIdx_cons,List.foldl_cons,cQ5 off M (k+1) _ (by simp at h ⊢;lia)]
  simp only[h8];rw[bG] at h ⊢;have hl:off+k<xs.toList.length:=by simp;lia
  rw[show off+(k+1)=off+k+1 by lia,List.take_set,List.drop_set_of_lt (by lia),List.set_eq_take_append_cons_drop]
  have i:(off+k)<(xs.toList.take (off+k+1)).length:=by rw[aR];lia
  rw[if_pos i,List.take_take,Nat.min_eq_left (by lia),cb (by rw[aR];lia)]
  simp[aV,show off+k+1+M.length=off+k+(M.length+1) by lia]
section
variable{prog:aF}{w:aS}{A:a4}{E:ad->ak->Prop}{s:ak}{κ:eO}{P:aH->Prop}{lt:aH->aH->Bool}
theorem eJ3(o:Orc prog w A s κ P lt){st:cN}{i sa na pw sb nb pw':Nat}{L1 Aa Bb L2:List aH}{Q:Bool->cN->Prop}(hk:kindOf st=κ)(hf:fm st=none)(hp1:(bJ st)[i]?=some (sa,na,pw))(hp2:(bJ st)[i+1]?=some (sb,nb,pw'))
  (hsb:sb=sa+na) (hl:(aO st).toList=L1++(Aa++(Bb++L2))) (l1:L1.length=sa) (lA:Aa.length=na) (lB:Bb.length=nb) (na1:1<=na) (nb1:1<=nb) (PA:∀x∈Aa,P x) (PB:∀x∈Bb,P x) (sA:Sd lt Aa) (sB:Sd lt Bb)
  (h:∀C g xs,xs.toList=L1++(C++L2)->Sd lt C->C.Perm (Aa++Bb)->Q true (hX κ xs (((bJ st).setIfInBounds i (sa,na+nb,pw)).eraseIdxIfInBounds (i+1)) g none)):wpS (aE prog w) A E s (mergeAt' i) Q st:=by
 have hsz:(aO st).size=sa+na+nb+L2.length:=by
  have:=congrArg fN hl
  simp only[aM,aA] at this;lia
 have atA:∀j x,Aa[j]?=some x->(aO st)[sa+j]?=some x:=λj x B=>by
  have hjl:=(aC.mp B).1;rw[<- aL,hl,bU (by lia),l1,Nat.add_sub_cancel_left,dG hjl];exact B
 have atB:∀j x,Bb[j]?=some x->(aO st)[sb+j]?=some x:=λj x B=>by
  have hjl:=(aC.mp B).1;rw[<- aL,hl,bU (by lia),l1,bU (by lia),lA,dG (by lia)]
  rw[show sb+j-sa-na=j by lia];exact B
 have U:∀j,j<na->∃x,Aa[j]?=some x:=λj B=>⟨Aa[j],ag (by lia)⟩
 have O:∀j,j<nb->∃x,Bb[j]?=some x:=λj B=>⟨Bb[j],ag (by lia)⟩
 obtain⟨b0,hb0⟩:=O 0 nb1;have pb0:=PB b0 (ao hb0);rw[eJ2];refine ax (gQ ?_);rw[hp1,hp2];dsimp only;refine ax (dJn ?_);have hk2:kindOf (ft st (((bJ st).setIfInBounds i (sa,na+nb,pw)).eraseIdxIfInBounds (i+1)))=κ:=hk;have est:∀g xs,cJ (setG (ft st (((bJ st).setIfInBounds i (sa,na+nb,pw)).eraseIdxIfInBounds (i+1))) g) xs=hX κ xs (((bJ st).setIfInBounds i (sa,na+nb,pw)).eraseIdxIfInBounds (i+1)) g none:=λg xs=>by
  show hX (kindOf st) xs _ g (fm st)=_;rw[hk,hf]
 refine ax (aZ4 (x:=b0) (by have:=atB 0 b0 hb0;rwa [Nat.add_zero] at this) (ax (bQg o (f:=λj=>Aa.getD j (.none,.none)) hk2 pb0 (λj B=>?_) (λj j' hjj B hb=>?_) (by lia) λk k1 k2 k3=>?_)))
 ·obtain⟨x,J⟩:=U j B;rw[ah,J];exact⟨atA j x J,PA x (ao J)⟩
 ·obtain⟨z,hz⟩:=U j (by lia)
  obtain⟨z',hz'⟩:=U j' B;rw[ah,hz'] at hb;rw[ah,hz];have hb':lt b0 z'=false:=by simpa [bv] using hb
  show(!lt b0 z)=true;rcases Nat.eq_or_lt_of_le hjj with rfl|hlt
  ·rw[hz] at hz';cases hz';rw[hb'];rfl
  ·rw[o.tr z z' b0 (PA z (ao hz)) (PA z' (ao hz')) pb0 (sA.at hlt hz hz') hb'];rfl
 have Z:∀u∈Aa.take k,∀v∈Bb,lt v u=false:=λu L v N=>by
  obtain⟨j,B,e⟩:=aQn L
  have:=k2 j B
  rw[ah,e] at this;have h1:(!lt b0 u)=true:=this;exact bZx o PB sB (i:=0) (PA u (ao e)) hb0 (by simpa using h1) v N
 have upA:∀u∈Aa.drop k,lt u b0=false:=λu L=>by
  obtain⟨j,B,e⟩:=aQl L;have hjl:=(aC.mp e).1
  have:=k3 j B (by lia)
  rw[ah,e] at this;have h1:(!lt b0 u)=false:=this;exact o.as _ _ pb0 (PA u (ao e)) (by simpa using h1)
 dsimp only;have whole:∀g,Sd lt (Aa++Bb)->Q true (setG (ft st (((bJ st).setIfInBounds i (sa,na+nb,pw)).eraseIdxIfInBounds (i+1))) g):=λg hs=>by
  have:=h (Aa++Bb) g (aO st) (by rw[hl,aV]) hs (dq _)
  rw[<- est g (aO st)] at this;exact this
 by_cases c1:(na-k==0)=true
 ·rw[if_pos c1];have kn:k=na:=by
   have:na-k=0:=by simpa using c1
   lia
  refine aB (whole _ (a9.mpr ⟨sA,sB,λu L v N=>Z u ?_ v N⟩));rw[kn,<- lA,dJ];exact L
 rw[if_neg c1];have c1':na-k≠0:=by simpa using c1
 obtain⟨al,hal⟩:=U (na-1) (by lia)
 have pal:=PA al (ao hal);refine ax (aZ4 (x:=al) (by have:=atA _ al hal;rwa [show sa+k+(na-k)-1=sa+(na-1) by lia]) (ax (bQg o (f:=λj=>Bb.getD j (.none,.none)) hk2 pal (λj B=>?_) (λj j' hjj B hb=>?_) (by lia) λm m1 m2 m3=>?_)))
 ·obtain⟨x,J⟩:=O j B;rw[ah,J];exact⟨atB j x J,PB x (ao J)⟩
 ·obtain⟨z,hz⟩:=O j (by lia)
  obtain⟨z',hz'⟩:=O j' B;rw[ah,hz'] at hb;rw[ah,hz];have hb':lt z' al=true:=hb;show lt z al=true;cases e:lt z al with
  |true=>rfl
  |false =>
   exfalso;have pz:=PB z (ao hz);have pz':=PB z' (ao hz');rcases Nat.eq_or_lt_of_le hjj with rfl|hlt
   ·rw[hz] at hz';cases hz';rw[e] at hb';cases hb'
   ·have:=o.tr al z z' pal pz pz' e (sB.at hlt hz hz')
    rw[hb'] at this;cases this
 have upB:∀v∈Bb.drop m,∀u∈Aa,lt v u=false:=λv N u L=>by
  obtain⟨j,B,e⟩:=aQl N;have hjl:=(aC.mp e).1
  have:=m3 j B (by lia)
  rw[ah,e] at this;have h1:lt v al=false:=this
  have:=bZy o PA sA (PB v (ao e)) hal h1
  rw[show na-1+1=Aa.length by lia,dJ] at this
  exact this u L
 have lowB:∀v∈Bb.take m,lt al v=false:=λv N=>by
  obtain⟨j,B,e⟩:=aQn N
  have:=m2 j B
  rw[ah,e] at this;exact o.as _ _ (PB v (ao e)) pal this
 dsimp only
 by_cases c2:(m==0)=true
 ·rw[if_pos c2];have m0:m=0:=by simpa using c2
  refine aB (whole _ (a9.mpr ⟨sA,sB,λu L v N=>upB v ?_ u L⟩));rw[m0];exact N
 rw[if_neg c2];have c2':m≠0:=by simpa using c2
 have ex:((aO st).extract (sa+k) sb).toList=Aa.drop k:=by
  rw[aZ8,hl,<- l1,fy,cb (by lia),bS,Nat.add_sub_cancel_left,eU (by lia),cW (by rw[bo];lia)]
  exact bi (by rw[bo];lia)
 have ey:((aO st).extract sb (sb+m)).toList=Bb.take m:=by
  rw[aZ8,hl,Nat.add_sub_cancel_left,fy,cb (by lia),bS,fy,cb (by lia),bS,show sb-L1.length-Aa.length=0 by lia,f7,cW (by lia)]
 have zx:((aO st).extract (sa+k) sb).size=na-k:=by rw[<- aM,ex,bo,lA]
 have zy:((aO st).extract sb (sb+m)).size=m:=by rw[<- aM,ey,aR];lia
 have fin:∀ (M:Array aH) g,Sd lt M.toList->M.toList.Perm (((aO st).extract (sa + k) sb).toList++((aO st).extract sb (sb + m)).toList)->wpS (aE prog w) A E s (do
   modify λs=>cJ s (M.toList.zipIdx.foldl (λa Y=>a.setIfInBounds (sa+k+Y.2) Y.1) (aO s))
   let z <- get
   pure (fm z).isNone) Q (setG (ft st (((bJ st).setIfInBounds i (sa,na+nb,pw)).eraseIdxIfInBounds (i+1))) g):=λM g hs D=>by
  refine ax (cO (ax (gQ (aB ?_))));rw[ex,ey] at D;have ml:=D.length_eq;rw[aA,bo,aR] at ml;have ll:=cQ5 (sa+k) M.toList 0 (aO st) (by lia)
  have hfn:(fm (cJ (setG (ft st (((bJ st).setIfInBounds i (sa,na+nb,pw)).eraseIdxIfInBounds (i+1))) g) (M.toList.zipIdx.foldl (λa Y=>a.setIfInBounds (sa+k+Y.2) Y.1) (aO st)))).isNone=true:=by
   show(fm st).isNone=true;rw[hf];rfl
  have main:=h (Aa.take k++(M.toList++Bb.drop m)) g (M.toList.zipIdx.foldl (λa Y=>a.setIfInBounds (sa+k+Y.2) Y.1) (aO st)) ?_ ?_ ?_
  ·rw[<- est g] at main;show Q _ _;have e0:(fm (cJ (setG (ft st (((bJ st).setIfInBounds i (sa,na+nb,pw)).eraseIdxIfInBounds (i+1))) g) (M.toList.zipIdx.foldl (λa Y=>a.setIfInBounds (sa+k+Y.2) Y.1) (aO st)))).isNone=true:=hfn;exact(e0.symm▸main)
  ·rw[ll,hl];have t1:(L1++(Aa++(Bb++L2))).take (sa+k+0)=L1++Aa.take k:=by
    rw[<- l1,Nat.add_zero,List.take_append,bi (by lia),Nat.add_sub_cancel_left,cW (by lia)]
   have t2:(L1++(Aa++(Bb++L2))).drop (sa+k+0+M.toList.length)=Bb.drop m++L2:=by
    rw[fy,cb (by lia),bS,fy,cb (by lia),bS,show sa+k+0+M.toList.length-L1.length-Aa.length=m by lia,eU (by lia)]
   rw[t1,t2];simp only[aV]
  ·have sA':Sd lt (Aa.take k++Aa.drop k):=by rw[bb];exact sA
   have sB':Sd lt (Bb.take m++Bb.drop m):=by rw[bb];exact sB
   obtain⟨a1,_,a3⟩:=a9.mp sA';obtain⟨_,b2,b3⟩:=a9.mp sB';refine a9.mpr ⟨a1,a9.mpr ⟨hs,b2,λu L v N=>?_⟩,λu L v N=>?_⟩
   ·rcases aP.mp (D.mem_iff.mp L) with z|z
    ·exact upB v N u (da z)
    ·exact b3 u z v N
   ·rcases aP.mp N with z|z
    ·rcases aP.mp (D.mem_iff.mp z) with y|y
     ·exact a3 u L v y
     ·exact Z u L v (cL y)
    ·exact Z u L v (da z)
  ·have e1:(Aa++Bb)=Aa.take k++(Aa.drop k++(Bb.take m++Bb.drop m)):=by rw[<- aV,bb,bb]
   rw[e1];refine d7 _ ?_;rw[<- aV];exact dW _ D
 have pX:∀x∈((aO st).extract (sa+k) sb).toList,P x:=λx J=>PA x (da (by rw[ex] at J;exact J))
 have pY:∀x∈((aO st).extract sb (sb+m)).toList,P x:=λx J=>PB x (cL (by rw[ey] at J;exact J))
 have hF:∀y,((aO st).extract sb (sb+m)).toList[0]?=some y->∀x∈((aO st).extract (sa+k) sb).toList,lt x y=false:=λy hy x J=>by
  rw[ey,fB (by lia),hb0] at hy
  cases hy;rw[ex] at J;exact upA x J
 have hL:∀z,((aO st).extract (sa+k) sb).toList[((aO st).extract (sa+k) sb).size-1]?=some z->∀y∈((aO st).extract sb (sb+m)).toList,lt z y=false:=λz hz y hy=>by
  rw[ex,zx,g7,show k+(na-k-1)=na-1 by lia,hal] at hz
  cases hz;rw[ey] at hy;exact lowB y hy
 have sX:Sd lt ((aO st).extract (sa+k) sb).toList:=by rw[ex];exact sA.drop k
 have sY:Sd lt ((aO st).extract sb (sb+m)).toList:=by rw[ey];exact sB.take m
 by_cases c3:na-k<=m
 ·rw[if_pos c3];exact ax (eXz o hk2 pX pY sX sY (by lia) (by lia) hF hL λM g hs D=>fin M g hs D)
 ·rw[if_neg c3];exact ax (eJ1 o hk2 pX pY sX sY (by lia) (by lia) hF hL λM g hs D=>fin M g hs D)
end
def at0(xs:Array aH)(i:Nat):aH:=(xs[i]?).getD (.none,.none)
theorem cXi{xs ys:Array aH}{i j:Nat}(h:xs[i]?=ys[j]?):at0 xs i=at0 ys j:=by unfold at0;rw[h]
def Gd(lo:Nat)(a xs:Array aH):Prop:=xs.Perm a/\∀i,i<lo->xs[i]?=a[i]?
theorem Gd.size{lo:Nat}{a xs:Array aH}(h:Gd lo a xs):xs.size=a.size:=h.1.size_eq
def Up(lt:aH->aH->Bool)(xs:Array aH)(i j:Nat):Prop:=∀p q,i<=p->p<q->q<j->lt (at0 xs q) (at0 xs p)=false
def Dn(lt:aH->aH->Bool)(xs:Array aH)(i j:Nat):Prop:=∀p q,i<=p->p<q->q<j->lt (at0 xs p) (at0 xs q)=false
def Eqs(lt:aH->aH->Bool)(xs:Array aH)(i j:Nat):Prop:=∀p q,i<=p->p<j->i<=q->q<j->lt (at0 xs p) (at0 xs q)=false
theorem aJq{xs:Array aH}{i j:Nat}(hj:j<=xs.size)(k:Nat):at0 (dF xs i j ((j-i)/2)) k=if i<=k/\k<j then at0 xs (i+j-1-k) else at0 xs k:=by
 have e:=getElem?_mirror_all (i:=i) hj k
 split at e
 ·next h=>rw[if_pos h];exact cXi e
 ·next h=>rw[if_neg h];exact cXi e
theorem Gd.rev{lo i j d:Nat}{a xs:Array aH}(h:Gd lo a xs)(hi:lo<=i)(hj:j<=xs.size)(hd:d=(j-i)/2):Gd lo a (dF xs i j d):=by
 subst hd;refine⟨(mirror_perm _ _ _ _).trans h.1,λk v=>?_⟩;rw[getElem?_mirror_all hj,if_neg (by lia)]
 exact h.2 k v
section
variable{prog:aF}{w:aS}{A:a4}{E:ad->ak->Prop}{s:ak}{κ:eO}{P:aH->Prop}{lt:aH->aH->Bool}
theorem gd_P{lo:Nat}{a xs:Array aH}(h:Gd lo a xs)(PA:∀x∈a.toList,P x){i:Nat}(hi:i<a.size):xs[i]?=some (at0 xs i)/\P (at0 xs i):=by
 have j:i<xs.size:=by rw[h.size];exact hi
 have e:xs[i]?=some xs[i]:=getElem?_pos _ i j;have v:at0 xs i=xs[i]:=by unfold at0;rw[e];rfl
 rw[v];exact⟨e,PA _ ((cQ.mp h.1).mem_iff.mp (by simp))⟩
theorem aZ5(o:Orc prog w A s κ P lt){st:cN}{xs:Array aH}{lo i j:Nat}{Q:Option Bool->cN->Prop}(hk:kindOf st=κ)(PA:∀x∈(aO st).toList,P x)(g:Gd lo (aO st) xs)(hi:i<(aO st).size)(hj:j<(aO st).size)(h:Q (some (lt (at0 xs i) (at0 xs j))) (cJ st xs)) :
  wpS (aE prog w) A E s (ltAt' i j) Q (cJ st xs):=by
 rw[ltAt'_eq];refine ax (gQ ?_);obtain⟨B,v⟩:=gd_P g PA hi;obtain⟨z,p2⟩:=gd_P g PA hj;exact ax (aZ4 B (ax (aZ4 z (cXg o hk v p2 h))))
theorem irr(o:Orc prog w A s κ P lt){x:aH}(hx:P x):lt x x=false:=by
 cases e:lt x x with
 |false=>rfl
 |true=>exact absurd (e.symm.trans (o.as x x hx hx e)) (by decide)
variable{st:cN}{xs:Array aH}{lo:Nat}
theorem Up.more(o:Orc prog w A s κ P lt){i j:Nat}(hP:∀p,p<=j->P (at0 xs p))(h:Up lt xs i j)(hij:i<j)(e:lt (at0 xs j) (at0 xs (j-1))=false):Up lt xs i (j+1):=λp q h1 h2 v=>by
 rcases Nat.lt_or_ge q j with z|z
 ·exact h p q h1 h2 z
 ·have:q=j:=by lia
  subst this;rcases Nat.lt_or_ge p (q-1) with y|y
  ·exact o.tr _ _ _ (hP p (by lia)) (hP (q-1) (by lia)) (hP q (by lia)) (h p (q-1) h1 y (by lia)) e
  ·have:p=q-1:=by lia
   rw[this];exact e
theorem Dn.more(o:Orc prog w A s κ P lt){i j:Nat}(hP:∀p,p<=j->P (at0 xs p))(h:Dn lt xs i j)(hij:i<j)(e:lt (at0 xs (j-1)) (at0 xs j)=false):Dn lt xs i (j+1):=λp q h1 h2 v=>by
 rcases Nat.lt_or_ge q j with z|z
 ·exact h p q h1 h2 z
 ·have:q=j:=by lia
  subst this;rcases Nat.lt_or_ge p (q-1) with y|y
  ·exact o.tr _ _ _ (hP q (by lia)) (hP (q-1) (by lia)) (hP p (by lia)) e (h p (q-1) h1 y (by lia))
  ·have:p=q-1:=by lia
   rw[this];exact e
theorem Dn.rev{i j d:Nat}(h:Dn lt xs i j)(hj:j<=xs.size)(hd:d=(j-i)/2):Up lt (dF xs i j d) i j:=λp q h1 h2 v=>by
 subst hd;rw[aJq hj,aJq hj,if_pos ⟨by lia,by lia⟩,if_pos ⟨by lia,by lia⟩]
 exact h _ _ (by lia) (by lia) (by lia)
theorem Dn.eqs{i j c d:Nat}(h:Dn lt xs i j)(hc:i<=c)(he:Eqs lt xs c j)(hj:j<=xs.size)(hd:d=(j-c)/2):Dn lt (dF xs c j d) i j:=λp q h1 h2 v=>by
 subst hd;rw[aJq hj,aJq hj]
 by_cases a1:c<=p/\p<j
 ·rw[if_pos a1,if_pos ⟨by lia,by lia⟩]
  exact he _ _ (by lia) (by lia) (by lia) (by lia)
 ·rw[if_neg a1]
  by_cases a2:c<=q/\q<j
  ·rw[if_pos a2];exact h _ _ h1 (by lia) (by lia)
  ·rw[if_neg a2];exact h _ _ h1 h2 v
theorem eJ4(o:Orc prog w A s κ P lt){nrem:Nat}{Q:Option Nat->cN->Prop}(hk:kindOf st=κ)(PA:∀x∈(aO st).toList,P x)(hn:1<=nrem)(hs:lo+nrem<=(aO st).size)
  (h:∀n xs,1<=n->n<=nrem->Gd lo (aO st) xs->Up lt xs lo (lo+n)->Q (some n) (cJ st xs)):wpS (aE prog w) A E s (countRun' lo nrem) Q st:=by
 have D:∀ {xs},Gd lo (aO st) xs->∀ p,p < (aO st).size->P (at0 xs p):=λg p J=>(gd_P g PA J).2;rw[countRun'_eq];dsimp only;have est:st=cJ st (aO st):=rfl;have g0:Gd lo (aO st) (aO st):=⟨je _,λ_ _=>rfl⟩;refine ax (de (bL (I:=λx c v=>v=cJ st (aO st)/\c=(none,x)/\1<=x/\Up lt (aO st) lo (lo + x))
  (Q:=λc v=>v=cJ st (aO st)/\∃n,c=(none,n)/\1<=n/\n<=nrem/\Up lt (aO st) lo (lo+n)/\(n<nrem->lt (at0 (aO st) (lo+n)) (at0 (aO st) (lo+n-1))=true)) ?_ ?_ ⟨est,rfl,Nat.le_refl _,λp q _ _ _=>by lia⟩) ?_)
 ·rintro x c v _ hx ⟨rfl,rfl,h1,B⟩;dsimp only;refine ax (aZ5 o (i:=lo+x) (j:=lo+x-1) hk PA g0 (by lia) (by lia) ?_)
  dsimp only;cases e:lt (at0 (aO st) (lo+x)) (at0 (aO st) (lo+x-1)) with
  |true=>rw[if_pos rfl];exact aB ⟨rfl,x,rfl,h1,by lia,B,λ_=>e⟩
  |false=>rw[if_neg (by simp)];exact aB ⟨rfl,rfl,by lia,Up.more o (i:=lo) (j:=lo+x) (λp J=>D g0 p (by lia)) B (by lia) e⟩
 ·rintro c v ⟨rfl,rfl,h1,B⟩;refine⟨rfl,_,rfl,by lia,by lia,B,λz=>by lia⟩
 ·rintro c v ⟨rfl,n,rfl,N,L,B,hlt⟩;dsimp only
  by_cases c0:(n==nrem)=true
  ·rw[if_pos c0];exact aB (h n _ N L g0 B)
  rw[if_neg c0];have c0':n<nrem:=by
   have:n≠nrem:=by simpa using c0
   lia
  have hlt':=hlt c0';have pp:∀p,p<=lo+n->P (at0 (aO st) p):=λp J=>D g0 p (by lia)
  have hle:=o.as _ _ (pp _ (Nat.le_refl _)) (pp _ (by lia)) hlt'
  by_cases cn:n>1
  ·rw[if_pos cn];refine ax (aZ5 o (i:=lo) (j:=lo+n-1) hk PA g0 (by lia) (by lia) ?_)
   dsimp only;cases e:lt (at0 (aO st) lo) (at0 (aO st) (lo+n-1)) with
   |true=>rw[if_pos rfl];exact aB (h n _ N L g0 B)
   |false =>
    rw[if_neg (by simp),dg]
    have down:∀p,lo<=p->p<lo+n->lt (at0 (aO st) p) (at0 (aO st) (lo+n-1))=false:=λp h1 h2=>by
     rcases Nat.eq_or_lt_of_le h1 with rfl|h1
     ·exact e
     ·exact o.tr _ _ _ (pp _ (by lia)) (pp _ (by lia)) (pp _ (by lia)) e (B lo p (Nat.le_refl _) h1 h2)
    have dn:Dn lt (aO st) lo (lo+n):=λp q h1 h2 Z=>by
     rcases Nat.eq_or_lt_of_le (show q<=lo+n-1 by lia) with z|z
     ·rw[z];exact down p h1 (by lia)
     ·exact o.tr _ _ _ (pp _ (by lia)) (pp _ (by lia)) (pp _ (by lia)) (B q (lo+n-1) (by lia) z (by lia)) (down p h1 (by lia))
    have eqs:Eqs lt (aO st) lo (lo+n):=λp q h1 h2 Z h4=>by
     rcases Nat.lt_trichotomy p q with z|z|z
     ·exact dn p q h1 z h4
     ·subst z;exact irr o (pp _ (by lia))
     ·exact B q p Z z h2
    have g2:Gd lo (aO st) (dF (aO st) lo (lo+n) ((lo+n-lo)/2)):=g0.rev (Nat.le_refl _) (by lia) rfl
    have hd:Dn lt (dF (aO st) lo (lo+n) ((lo+n-lo)/2)) lo (lo+(n+1)):=by
     refine Dn.more o (i:=lo) (j:=lo+n) (λp J=>D g2 p (by lia)) (dn.eqs (Nat.le_refl _) eqs (by lia) rfl) (by lia) ?_
     have rv:=aJq (xs:=aO st) (i:=lo) (j:=lo+n) (by lia)
     rw[rv,rv,if_pos ⟨by lia,by lia⟩,if_neg (by lia)]
     exact o.tr _ _ _ (pp _ (by lia)) (pp (lo+n-1) (by lia)) (pp _ (by lia)) hle (down _ (by lia) (by lia))
    have L:=c0';refine ax (cO ?_);change wpS _ _ _ _ _ _ (cJ st (dF (aO st) lo (lo+n) ((lo+n-lo)/2)))
    rename Gd lo (aO st) (dF (aO st) lo (lo+n) ((lo+n-lo)/2))=>g
    generalize dF (aO st) lo (lo + n) ((lo + n - lo) / 2)=xs at g hd ⊢;refine ax (hZ (c7 ⟨rfl,?_⟩));refine ax (de (bL (I:=λx c v=>∃ xs q,v=cJ st xs/\c=(none,x,q)/\2<=x/\q + 1<=x/\Gd lo (aO st) xs/\Dn lt xs lo (lo + x)/\Eqs lt xs (lo + x - (q + 1)) (lo + x))
     (Q:=λc v=>∃ xs n q,v=cJ st xs/\c=(none,n,q)/\1<=n/\n<=nrem/\q + 1<=n/\Gd lo (aO st) xs/\Dn lt xs lo (lo + n)/\Eqs lt xs (lo + n - (q + 1)) (lo + n)) ?_ ?_ ⟨xs,0,rfl,rfl,by lia,by lia,g,hd,λp q h1 h2 Z h4=>by
      have:p=q:=by lia
      subst this;exact irr o (D g p (by lia))⟩) ?_)
    ·rintro x c v _ hx ⟨xs,q,rfl,rfl,x2,Y,g,hd,he⟩;have hxs:xs.size=(aO st).size:=g.size;dsimp only;refine ax (aZ5 o (i:=lo+x) (j:=lo+x-1) hk PA g (by lia) (by lia) ?_)
     dsimp only;cases e:lt (at0 xs (lo+x)) (at0 xs (lo+x-1)) with
     |true =>
      rw[if_pos rfl];have e2:=o.as _ _ (D g _ (by lia)) (D g _ (by lia)) e
      have one:∀ys,Gd lo (aO st) ys->Eqs lt ys (lo+(x+1)-(0+1)) (lo+(x+1)):=λys g' p q h1 h2 Z h4=>by
       have:p=q:=by lia
       subst this;exact irr o (D g' p (by lia))
      by_cases U:q>0
      ·rw[if_pos U,dg];have hd2:(lo+x-(lo+x-(q+1)))/2=(lo+x-(lo+x-(q+1)))/2:=rfl;have g2:Gd lo (aO st) (dF xs (lo+x-(q+1)) (lo+x) ((lo+x-(lo+x-(q+1)))/2)):=g.rev (by lia) (by lia) rfl
       have d2:Dn lt (dF xs (lo+x-(q+1)) (lo+x) ((lo+x-(lo+x-(q+1)))/2)) lo (lo+x):=hd.eqs (by lia) he (by lia) rfl
       refine ax (cO (aB ⟨_,0,rfl,rfl,by lia,by lia,g2,Dn.more o (i:=lo) (j:=lo+x) (λp J=>D g2 p (by lia)) d2 (by lia) ?_,one _ g2⟩))
       have rv:=aJq (xs:=xs) (i:=lo+x-(q+1)) (j:=lo+x) (by lia)
       rw[rv,rv,if_pos ⟨by lia,by lia⟩,if_neg (by lia)]
       exact o.tr (at0 xs (lo+x)) (at0 xs (lo+x-1)) _ (D g _ (by lia)) (D g _ (by lia)) (D g _ (by lia)) e2 (he _ _ (by lia) (by lia) (by lia) (by lia))
      ·rw[if_neg U];exact aB ⟨xs,0,rfl,rfl,by lia,by lia,g,Dn.more o (i:=lo) (j:=lo+x) (λp J=>D g p (by lia)) hd (by lia) e2,one _ g⟩
     |false =>
      rw[if_neg (by simp)]
      refine ax (aZ5 o (i:=lo+x-1) (j:=lo+x) hk PA g (by lia) (by lia) ?_)
      dsimp only;cases e2:lt (at0 xs (lo+x-1)) (at0 xs (lo+x)) with
      |true=>rw[if_pos rfl];exact aB ⟨xs,x,q,rfl,rfl,by lia,by lia,Y,g,hd,he⟩
      |false =>
       rw[if_neg (by simp)]
       refine aB ⟨xs,q+1,rfl,rfl,by lia,by lia,g,Dn.more o (i:=lo) (j:=lo+x) (λp J=>D g p (by lia)) hd (by lia) e2,λp r h1 h2 Z h4=>?_⟩
       have pp:∀p,p<=lo+x->P (at0 xs p):=λp J=>D g p (by lia)
       have low:∀p,lo+x-(q+1)<=p->p<lo+x->lt (at0 xs p) (at0 xs (lo+x))=false/\lt (at0 xs (lo+x)) (at0 xs p)=false:=λp a1 a2=>by
        have b1:=he p (lo+x-1) a1 a2 (by lia) (by lia)
        have b2:=he (lo+x-1) p (by lia) (by lia) a1 a2
        exact⟨o.tr _ _ _ (pp _ (by lia)) (pp _ (by lia)) (pp _ (by lia)) e2 b1,o.tr _ _ _ (pp _ (by lia)) (pp _ (by lia)) (pp _ (by lia)) b2 e⟩
       by_cases z1:p=lo+x
       ·by_cases z2:r=lo+x
        ·rw[z1,z2];exact irr o (pp _ (by lia))
        ·rw[z1];exact(low r (by lia) (by lia)).2
       ·by_cases z2:r=lo+x
        ·rw[z2];exact(low p (by lia) (by lia)).1
        ·exact he p r (by lia) (by lia) (by lia) (by lia)
    ·rintro c v ⟨xs,q,rfl,rfl,x2,Y,g,hd,he⟩;exact⟨xs,_,q,rfl,rfl,by lia,by lia,Y,g,by rwa [show max (n+1) nrem=nrem by lia] at hd ⊢,he⟩
    ·rintro c v ⟨xs,n,q,rfl,rfl,N,L,Y,g,hd,he⟩;have hxs:xs.size=(aO st).size:=g.size;dsimp only
     by_cases U:q>0
     ·rw[if_pos U,dg,dg];have g2:Gd lo (aO st) (dF xs (lo+n-(q+1)) (lo+n) ((lo+n-(lo+n-(q+1)))/2)):=g.rev (by lia) (by lia) rfl
      have d2:Dn lt (dF xs (lo+n-(q+1)) (lo+n) ((lo+n-(lo+n-(q+1)))/2)) lo (lo+n):=hd.eqs (by lia) he (by lia) rfl
      have s2:=g2.size;have g3:=g2.rev (i:=lo) (j:=lo+n) (Nat.le_refl _) (by lia) rfl
      have O:=d2.rev (i:=lo) (j:=lo+n) (by lia) rfl
      refine ax (cO (ax (cO ?_)));change wpS _ _ _ _ _ _ (cJ st (dF (dF xs (lo + n - (q + 1)) (lo + n) ((lo + n - (lo + n - (q + 1))) / 2)) lo (lo + n) ((lo + n - lo) / 2)));generalize dF (dF xs (lo + n - (q + 1)) (lo + n) ((lo + n - (lo + n - (q + 1))) / 2)) lo (lo + n) ((lo + n - lo) / 2)=zs at g3 O ⊢;refine ax (de (bL (I:=λx c v=>v=cJ st zs/\c=(none,x)/\n<=x/\Up lt (zs) lo (lo + x))
       (Q:=λc v=>v=cJ st zs/\∃n,c=(none,n)/\1<=n/\n<=nrem/\Up lt (zs) lo (lo+n)) ?_ ?_ ⟨rfl,rfl,Nat.le_refl _,O⟩) ?_)
      ·rintro x c v _ hx ⟨rfl,rfl,h1,B⟩;dsimp only;refine ax (aZ5 o (i:=lo+x) (j:=lo+x-1) hk PA g3 (by lia) (by lia) ?_)
       dsimp only;cases e:lt (at0 (zs) (lo+x)) (at0 (zs) (lo+x-1)) with
       |true=>rw[if_pos rfl];exact aB ⟨rfl,x,rfl,by lia,by lia,B⟩
       |false=>rw[if_neg (by simp)];exact aB ⟨rfl,rfl,by lia,Up.more o (i:=lo) (j:=lo+x) (λp J=>D g3 p (by lia)) B (by lia) e⟩
      ·rintro c v ⟨rfl,rfl,h1,B⟩;exact⟨rfl,_,rfl,by lia,by lia,B⟩
      ·rintro c v ⟨rfl,n,rfl,N,L,B⟩;exact aB (h n (zs) N L g3 B)
     ·rw[if_neg U,dg];have g3:=g.rev (i:=lo) (j:=lo+n) (Nat.le_refl _) (by lia) rfl
      have O:=hd.rev (i:=lo) (j:=lo+n) (by lia) rfl
      refine ax (cO ?_);change wpS _ _ _ _ _ _ (cJ st (dF xs lo (lo + n) ((lo + n - lo) / 2)));generalize dF xs lo (lo + n) ((lo + n - lo) / 2)=zs at g3 O ⊢;refine ax (de (bL (I:=λx c v=>v=cJ st zs/\c=(none,x)/\n<=x/\Up lt (zs) lo (lo + x))
       (Q:=λc v=>v=cJ st zs/\∃n,c=(none,n)/\1<=n/\n<=nrem/\Up lt (zs) lo (lo+n)) ?_ ?_ ⟨rfl,rfl,Nat.le_refl _,O⟩) ?_)
      ·rintro x c v _ hx ⟨rfl,rfl,h1,B⟩;dsimp only;refine ax (aZ5 o (i:=lo+x) (j:=lo+x-1) hk PA g3 (by lia) (by lia) ?_)
       dsimp only;cases e:lt (at0 (zs) (lo+x)) (at0 (zs) (lo+x-1)) with
       |true=>rw[if_pos rfl];exact aB ⟨rfl,x,rfl,by lia,by lia,B⟩
       |false=>rw[if_neg (by simp)];exact aB ⟨rfl,rfl,by lia,Up.more o (i:=lo) (j:=lo+x) (λp J=>D g3 p (by lia)) B (by lia) e⟩
      ·rintro c v ⟨rfl,rfl,h1,B⟩;exact⟨rfl,_,rfl,by lia,by lia,B⟩
      ·rintro c v ⟨rfl,n,rfl,N,L,B⟩;exact aB (h n (zs) N L g3 B)
  ·rw[if_neg cn];have e1:n=1:=by lia
   subst e1;have hd:Dn lt (aO st) lo (lo+(1+1)):=λp q h1 h2 Z=>by
    have ep:p=lo:=by lia
    have eq:q=lo+1:=by lia
    rw[ep,eq];exact hle
   have L:=c0';have g:=g0;refine ax (hZ (c7 ⟨rfl,?_⟩));refine ax (de (bL (I:=λx c v=>∃ xs q,v=cJ st xs/\c=(none,x,q)/\2<=x/\q + 1<=x/\Gd lo (aO st) xs/\Dn lt xs lo (lo + x)/\Eqs lt xs (lo + x - (q + 1)) (lo + x))
    (Q:=λc v=>∃ xs n q,v=cJ st xs/\c=(none,n,q)/\1<=n/\n<=nrem/\q + 1<=n/\Gd lo (aO st) xs/\Dn lt xs lo (lo + n)/\Eqs lt xs (lo + n - (q + 1)) (lo + n)) ?_ ?_ ⟨aO st,0,rfl,rfl,by lia,by lia,g,hd,λp q h1 h2 Z h4=>by
     have:p=q:=by lia
     subst this;exact irr o (D g p (by lia))⟩) ?_)
   ·rintro x c v _ hx ⟨xs,q,rfl,rfl,x2,Y,g,hd,he⟩;have hxs:xs.size=(aO st).size:=g.size;dsimp only;refine ax (aZ5 o (i:=lo+x) (j:=lo+x-1) hk PA g (by lia) (by lia) ?_)
    dsimp only;cases e:lt (at0 xs (lo+x)) (at0 xs (lo+x-1)) with
    |true =>
     rw[if_pos rfl];have e2:=o.as _ _ (D g _ (by lia)) (D g _ (by lia)) e
     have one:∀ys,Gd lo (aO st) ys->Eqs lt ys (lo+(x+1)-(0+1)) (lo+(x+1)):=λys g' p q h1 h2 Z h4=>by
      have:p=q:=by lia
      subst this;exact irr o (D g' p (by lia))
     by_cases U:q>0
     ·rw[if_pos U,dg];have hd2:(lo+x-(lo+x-(q+1)))/2=(lo+x-(lo+x-(q+1)))/2:=rfl;have g2:Gd lo (aO st) (dF xs (lo+x-(q+1)) (lo+x) ((lo+x-(lo+x-(q+1)))/2)):=g.rev (by lia) (by lia) rfl
      have d2:Dn lt (dF xs (lo+x-(q+1)) (lo+x) ((lo+x-(lo+x-(q+1)))/2)) lo (lo+x):=hd.eqs (by lia) he (by lia) rfl
      refine ax (cO (aB ⟨_,0,rfl,rfl,by lia,by lia,g2,Dn.more o (i:=lo) (j:=lo+x) (λp J=>D g2 p (by lia)) d2 (by lia) ?_,one _ g2⟩))
      have rv:=aJq (xs:=xs) (i:=lo+x-(q+1)) (j:=lo+x) (by lia)
      rw[rv,rv,if_pos ⟨by lia,by lia⟩,if_neg (by lia)]
      exact o.tr (at0 xs (lo+x)) (at0 xs (lo+x-1)) _ (D g _ (by lia)) (D g _ (by lia)) (D g _ (by lia)) e2 (he _ _ (by lia) (by lia) (by lia) (by lia))
     ·rw[if_neg U];exact aB ⟨xs,0,rfl,rfl,by lia,by lia,g,Dn.more o (i:=lo) (j:=lo+x) (λp J=>D g p (by lia)) hd (by lia) e2,one _ g⟩
    |false =>
     rw[if_neg (by simp)]
     refine ax (aZ5 o (i:=lo+x-1) (j:=lo+x) hk PA g (by lia) (by lia) ?_)
     dsimp only;cases e2:lt (at0 xs (lo+x-1)) (at0 xs (lo+x)) with
     |true=>rw[if_pos rfl];exact aB ⟨xs,x,q,rfl,rfl,by lia,by lia,Y,g,hd,he⟩
     |false =>
      rw[if_neg (by simp)]
      refine aB ⟨xs,q+1,rfl,rfl,by lia,by lia,g,Dn.more o (i:=lo) (j:=lo+x) (λp J=>D g p (by lia)) hd (by lia) e2,λp r h1 h2 Z h4=>?_⟩
      have pp:∀p,p<=lo+x->P (at0 xs p):=λp J=>D g p (by lia)
      have low:∀p,lo+x-(q+1)<=p->p<lo+x->lt (at0 xs p) (at0 xs (lo+x))=false/\lt (at0 xs (lo+x)) (at0 xs p)=false:=λp a1 a2=>by
       have b1:=he p (lo+x-1) a1 a2 (by lia) (by lia)
       have b2:=he (lo+x-1) p (by lia) (by lia) a1 a2
       exact⟨o.tr _ _ _ (pp _ (by lia)) (pp _ (by lia)) (pp _ (by lia)) e2 b1,o.tr _ _ _ (pp _ (by lia)) (pp _ (by lia)) (pp _ (by lia)) b2 e⟩
      by_cases z1:p=lo+x
      ·by_cases z2:r=lo+x
       ·rw[z1,z2];exact irr o (pp _ (by lia))
       ·rw[z1];exact(low r (by lia) (by lia)).2
      ·by_cases z2:r=lo+x
       ·rw[z2];exact(low p (by lia) (by lia)).1
       ·exact he p r (by lia) (by lia) (by lia) (by lia)
   ·rintro c v ⟨xs,q,rfl,rfl,x2,Y,g,hd,he⟩;exact⟨xs,_,q,rfl,rfl,by lia,by lia,Y,g,by rwa [show max (1+1) nrem=nrem by lia] at hd ⊢,he⟩
   ·rintro c v ⟨xs,n,q,rfl,rfl,N,L,Y,g,hd,he⟩;have hxs:xs.size=(aO st).size:=g.size;dsimp only
    by_cases U:q>0
    ·rw[if_pos U,dg,dg];have g2:Gd lo (aO st) (dF xs (lo+n-(q+1)) (lo+n) ((lo+n-(lo+n-(q+1)))/2)):=g.rev (by lia) (by lia) rfl
     have d2:Dn lt (dF xs (lo+n-(q+1)) (lo+n) ((lo+n-(lo+n-(q+1)))/2)) lo (lo+n):=hd.eqs (by lia) he (by lia) rfl
     have s2:=g2.size;have g3:=g2.rev (i:=lo) (j:=lo+n) (Nat.le_refl _) (by lia) rfl
     have O:=d2.rev (i:=lo) (j:=lo+n) (by lia) rfl
     refine ax (cO (ax (cO ?_)));change wpS _ _ _ _ _ _ (cJ st (dF (dF xs (lo + n - (q + 1)) (lo + n) ((lo + n - (lo + n - (q + 1))) / 2)) lo (lo + n) ((lo + n - lo) / 2)));generalize dF (dF xs (lo + n - (q + 1)) (lo + n) ((lo + n - (lo + n - (q + 1))) / 2)) lo (lo + n) ((lo + n - lo) / 2)=zs at g3 O ⊢;refine ax (de (bL (I:=λx c v=>v=cJ st zs/\c=(none,x)/\n<=x/\Up lt (zs) lo (lo + x))
      (Q:=λc v=>v=cJ st zs/\∃n,c=(none,n)/\1<=n/\n<=nrem/\Up lt (zs) lo (lo+n)) ?_ ?_ ⟨rfl,rfl,Nat.le_refl _,O⟩) ?_)
     ·rintro x c v _ hx ⟨rfl,rfl,h1,B⟩;dsimp only;refine ax (aZ5 o (i:=lo+x) (j:=lo+x-1) hk PA g3 (by lia) (by lia) ?_)
      dsimp only;cases e:lt (at0 (zs) (lo+x)) (at0 (zs) (lo+x-1)) with
      |true=>rw[if_pos rfl];exact aB ⟨rfl,x,rfl,by lia,by lia,B⟩
      |false=>rw[if_neg (by simp)];exact aB ⟨rfl,rfl,by lia,Up.more o (i:=lo) (j:=lo+x) (λp J=>D g3 p (by lia)) B (by lia) e⟩
     ·rintro c v ⟨rfl,rfl,h1,B⟩;exact⟨rfl,_,rfl,by lia,by lia,B⟩
     ·rintro c v ⟨rfl,n,rfl,N,L,B⟩;exact aB (h n (zs) N L g3 B)
    ·rw[if_neg U,dg];have g3:=g.rev (i:=lo) (j:=lo+n) (Nat.le_refl _) (by lia) rfl
     have O:=hd.rev (i:=lo) (j:=lo+n) (by lia) rfl
     refine ax (cO ?_);change wpS _ _ _ _ _ _ (cJ st (dF xs lo (lo + n) ((lo + n - lo) / 2)));generalize dF xs lo (lo + n) ((lo + n - lo) / 2)=zs at g3 O ⊢;refine ax (de (bL (I:=λx c v=>v=cJ st zs/\c=(none,x)/\n<=x/\Up lt (zs) lo (lo + x))
      (Q:=λc v=>v=cJ st zs/\∃n,c=(none,n)/\1<=n/\n<=nrem/\Up lt (zs) lo (lo+n)) ?_ ?_ ⟨rfl,rfl,Nat.le_refl _,O⟩) ?_)
     ·rintro x c v _ hx ⟨rfl,rfl,h1,B⟩;dsimp only;refine ax (aZ5 o (i:=lo+x) (j:=lo+x-1) hk PA g3 (by lia) (by lia) ?_)
      dsimp only;cases e:lt (at0 (zs) (lo+x)) (at0 (zs) (lo+x-1)) with
      |true=>rw[if_pos rfl];exact aB ⟨rfl,x,rfl,by lia,by lia,B⟩
      |false=>rw[if_neg (by simp)];exact aB ⟨rfl,rfl,by lia,Up.more o (i:=lo) (j:=lo+x) (λp J=>D g3 p (by lia)) B (by lia) e⟩
     ·rintro c v ⟨rfl,rfl,h1,B⟩;exact⟨rfl,_,rfl,by lia,by lia,B⟩
     ·rintro c v ⟨rfl,n,rfl,N,L,B⟩;exact aB (h n (zs) N L g3 B)
end
theorem bub_at{xs:Array aH}{src d:Nat}(hs:src<xs.size)(hd:d<=src)(k:Nat) :
  at0 (bubble xs src d) k=if k=src-d then at0 xs src else if src-d<k/\k<=src then at0 xs (k-1) else at0 xs k:=by
 have e:=getElem?_bubble hs d hd k
 by_cases h1:k=src-d
 ·rw[if_pos h1] at e ⊢;exact cXi e
 ·rw[if_neg h1] at e ⊢
  by_cases h2:src-d<k/\k<=src
  ·rw[if_pos h2] at e ⊢;exact cXi e
  ·rw[if_neg h2] at e ⊢;exact cXi e
section
variable{prog:aF}{w:aS}{A:a4}{E:ad->ak->Prop}{s:ak}{κ:eO}{P:aH->Prop}{lt:aH->aH->Bool}{st:cN}{lo:Nat}
theorem eJ5(o:Orc prog w A s κ P lt){n ok:Nat}{Q:Bool->cN->Prop}(hk:kindOf st=κ)(PA:∀x∈(aO st).toList,P x)(hs:lo+n<=(aO st).size)(hok:ok<=n)(hu:Up lt (aO st) lo (lo+ok))
  (h:∀xs,Gd lo (aO st) xs->Up lt xs lo (lo+n)->Q true (cJ st xs)):wpS (aE prog w) A E s (binarySort' lo n ok) Q st:=by
 have pP:∀ {xs},Gd lo (aO st) xs->∀ p,p < (aO st).size->P (at0 xs p):=λg p hp=>(gd_P g PA hp).2;have g0:Gd lo (aO st) (aO st):=⟨je _,λ_ _=>rfl⟩;rw[binarySort'_eq];refine ax (de (bL (I:=λk c B=>∃ xs,B=cJ st xs/\c=(none,())/\Gd lo (aO st) xs/\Up lt xs lo (lo + min k n))
  (Q:=λc B=>∃xs,B=cJ st xs/\c=(none,())/\Gd lo (aO st) xs/\Up lt xs lo (lo+n)) ?step ?fin ?init) ?post)
 case post =>
  rintro c B ⟨xs,rfl,rfl,g,hu⟩;exact aB (h xs g hu)
 case init =>
  refine⟨aO st,rfl,rfl,g0,λp q h1 h2 h3=>?_⟩
  by_cases z:ok=0
  ·lia
  ·exact hu p q h1 h2 (by lia)
 case fin =>
  rintro c B ⟨xs,rfl,rfl,g,hu⟩;refine⟨xs,rfl,rfl,g,?_⟩;rwa [show min (max (max ok 1) n) n=n by lia] at hu
 case step =>
  rintro k c B hak hkn ⟨xs,rfl,rfl,g,hu⟩;rw[show min k n=k by lia] at hu
  have hxs:xs.size=(aO st).size:=g.size;have pp:∀p,p<lo+n->P (at0 xs p):=λp hp=>pP g p (by lia)
  dsimp only;refine ax (de (bL (I:=λx c v=>v=cJ st xs/\∃ l r,c=(none,l,r)/\l<=r/\r<=k/\r - l<=k - x /\
    (∀i,i<l->lt (at0 xs (lo+k)) (at0 xs (lo+i))=false)/\(∀i,r<=i->i<k->lt (at0 xs (lo+i)) (at0 xs (lo+k))=false))
   (Q:=λc v=>v=cJ st xs/\∃ l r,c=(none,l,r)/\l<=k /\
    (∀i,i<l->lt (at0 xs (lo+k)) (at0 xs (lo+i))=false)/\(∀i,l<=i->i<k->lt (at0 xs (lo+i)) (at0 xs (lo+k))=false)) ?istep ?ifin ?iinit) ?ipost)
  case iinit=>exact⟨rfl,0,k,rfl,by lia,by lia,by lia,λi hi=>by lia,λi h1 h2=>by lia⟩
  case ifin =>
   rintro c v ⟨rfl,l,r,rfl,Z,L,hm,D,J⟩
   have:l=r:=by lia
   subst this;exact⟨rfl,l,l,rfl,L,D,J⟩
  case istep =>
   rintro x c v _ hxk ⟨rfl,l,r,rfl,Z,L,hm,D,J⟩;dsimp only
   by_cases Y:l>=r
   ·rw[if_pos Y]
    have:l=r:=by lia
    subst this;exact aB ⟨rfl,l,l,rfl,L,D,J⟩
   ·rw[if_neg Y];refine ax (aZ5 o hk PA g (i:=lo+k) (j:=lo+(l+r)/2) (by lia) (by lia) ?_)
    dsimp only;cases e:lt (at0 xs (lo+k)) (at0 xs (lo+(l+r)/2)) with
    |true =>
     rw[if_pos rfl];refine aB ⟨rfl,l,(l+r)/2,rfl,by lia,by lia,by lia,D,λi h1 h2=>?_⟩
     have e2:=o.as _ _ (pp _ (by lia)) (pp _ (by lia)) e
     rcases Nat.eq_or_lt_of_le h1 with z|z
     ·rw[<- z];exact e2
     ·exact o.tr _ _ _ (pp _ (by lia)) (pp (lo+(l+r)/2) (by lia)) (pp _ (by lia)) e2 (hu _ _ (by lia) (by lia) (by lia))
    |false =>
     rw[if_neg (by simp)]
     refine aB ⟨rfl,(l+r)/2+1,r,rfl,by lia,by lia,by lia,λi h1=>?_,J⟩
     rcases Nat.eq_or_lt_of_le (show i<=(l+r)/2 by lia) with z|z
     ·rw[z];exact e
     ·exact o.tr _ _ _ (pp _ (by lia)) (pp (lo+(l+r)/2) (by lia)) (pp _ (by lia)) (hu _ _ (by lia) (by lia) (by lia)) e
  case ipost =>
   rintro c v ⟨rfl,l,r,rfl,hlk,D,J⟩;show wpS _ _ _ _ (do moveDown' (lo+k) (lo+l);pure (bh (none,()))) _ _
   rw[moveDown'_eq];have N:lo+k<xs.size:=by lia
   have ed:lo+k-(lo+l)=k-l:=by lia
   refine ax (cO (aB ⟨bubble xs (lo+k) (lo+k-(lo+l)),rfl,rfl,⟨(bubble_perm _ _ _).trans g.1,λi hi=>?_⟩,?_⟩))
   ·rw[getElem?_bubble N _ (by lia),if_neg (by lia),if_neg (by lia)]
    exact g.2 i hi
   ·rw[show min (k+1) n=k+1 by lia]
    intro p q h1 h2 h3;rw[bub_at N (by lia),bub_at N (by lia),show lo+k-(lo+k-(lo+l))=lo+l by lia]
    have O:∀i,lo<=i->i<lo+l->lt (at0 xs (lo+k)) (at0 xs i)=false:=λi a b=>by
     have:=D (i-lo) (by lia)
     rwa [show lo+(i-lo)=i by lia] at this
    have U:∀i,lo+l<=i->i<lo+k->lt (at0 xs i) (at0 xs (lo+k))=false:=λi a b=>by
     have:=J (i-lo) (by lia) (by lia)
     rwa [show lo+(i-lo)=i by lia] at this
    repeat' split
    all_goals first
     |(exfalso;lia)
     |exact O _ (by lia) (by lia)
     |exact U _ (by lia) (by lia)
     |exact hu _ _ (by lia) (by lia) (by lia)
end
def offs:Nat->List (List aH)->List (Nat×Nat)
 |_,[]=>[]
 |k,s::ss=>(k,s.length)::offs (k+s.length) ss
theorem bQx:∀k ss,(offs k ss).length=ss.length
 |_,[]=>rfl
 |k,s::ss=>by simp[offs,bQx]
theorem aJa:∀k (s1 s2:List (List aH)),offs k (s1++s2)=offs k s1++offs (k+s1.flatten.length) s2
 |k,[],s2=>by simp[offs]
 |k,s::s1,s2=>by simp[offs,aJa,Nat.add_assoc]
def sl(x:Nat×Nat×Nat):Nat×Nat:=(x.1,x.2.1)
structure Pn(κ:eO)(P:aH->Prop)(lt:aH->aH->Bool)(a0:List aH)(st:cN)(segs:List (List aH))(rest:List aH):Prop where
 kind:kindOf st=κ
 fl:fm st=none
 arr:(aO st).toList=segs.flatten++rest
 perm:(aO st).toList.Perm a0
 sd:∀sg∈segs,Sd lt sg/\sg≠[]
 pd:(bJ st).toList.map sl=offs 0 segs
section
variable{prog:aF}{w:aS}{A:a4}{E:ad->ak->Prop}{s:ak}{κ:eO}{P:aH->Prop}{lt:aH->aH->Bool}{st:cN}{a0 rest:List aH}{segs:List (List aH)}
theorem Pn.psize(h:Pn κ P lt a0 st segs rest):(bJ st).size=segs.length:=by
 have:=congrArg fN h.pd
 rwa [am,bQx,aM] at this
theorem Pn.size(h:Pn κ P lt a0 st segs rest):(aO st).size=a0.length:=by rw[<- aM];exact h.perm.length_eq
theorem Pn.room(h:Pn κ P lt a0 st segs rest):segs.flatten.length+rest.length=a0.length:=by rw[<- aA,<- h.arr];exact h.perm.length_eq
theorem dX2(o:Orc prog w A s κ P lt)(PA:∀x∈a0,P x)(h:Pn κ P lt a0 st segs rest){i:Nat}(hi:i+1<segs.length){Q:Bool->cN->Prop}
  (hq:∀st' segs',Pn κ P lt a0 st' segs' rest->segs'.length+1=segs.length->segs'.flatten.length=segs.flatten.length->Q true st'):wpS (aE prog w) A E s (mergeAt' i) Q st:=by
 obtain⟨S1,j,D,L,rfl,rfl⟩:∃S1 j D L,segs=S1++j::D::L/\S1.length=i:=by
  refine⟨segs.take i,segs[i],segs[i+1],segs.drop (i+2),?_,by rw[aR];lia⟩
  rw[<- cS hi,<- cS (by lia),bb]
 have J:=h.pd;rw[aJa,Nat.zero_add] at J;obtain⟨p1,p2',Y,e2,e3⟩:=List.map_eq_append_iff.mp J;simp only[offs] at e3;obtain⟨x,Z,rfl,ex,e4⟩:=List.map_eq_cons_iff.mp e3;obtain⟨y,p2,rfl,ey,e5⟩:=List.map_eq_cons_iff.mp e4;have B:p1.length=S1.length:=by rw[<- am (f:=sl),e2,bQx]
 have g1:(bJ st)[S1.length]?=some (S1.flatten.length,j.length,x.2.2):=by
  rw[<- aL,Y,<- B,bU (Nat.le_refl _),Nat.sub_self,iP];obtain⟨x1,x2,x3⟩:=x;cases ex;rfl
 have g2:(bJ st)[S1.length+1]?=some (S1.flatten.length+j.length,D.length,y.2.2):=by
  rw[<- aL,Y,<- B,bU (by lia),Nat.add_sub_cancel_left,iH,iP]
  obtain⟨y1,y2,y3⟩:=y;cases ey;rfl
 have O:=h.sd j (by simp)
 have sB:=h.sd D (by simp)
 have hl:(aO st).toList=S1.flatten++(j++(D++(L.flatten++rest))):=by rw[h.arr];simp
 have pm:∀x∈j++D,P x:=λx v=>PA x (h.perm.mem_iff.mp (by rw[hl];simp at v ⊢;grind))
 refine eJ3 o h.kind h.fl g1 g2 rfl hl rfl rfl rfl (dy.mpr O.2) (dy.mpr sB.2) (λx v=>pm x (cy _ v)) (λx v=>pm x (a8 _ v)) O.1 sB.1 λC g xs v hC hp=>?_;have N:=hp.length_eq;rw[aA] at N;refine hq _ (S1++C::L) ⟨rfl,rfl,?_,?_,λsg U=>?_,?_⟩ (by simp only[aA,bG];lia) (by simp;lia)
 ·show xs.toList=_;rw[v];simp
 ·show xs.toList.Perm _;refine jv.trans ?_ h.perm;rw[v,hl];refine d7 _ ?_
  have:=dW (L.flatten++rest) hp
  rwa [aV j] at this
 ·rcases aP.mp U with z|z
  ·exact h.sd sg (by simp[z])
  ·rcases aK.mp z with rfl|z
   ·exact⟨hC,λe=>by
     have:=dy.mpr O.2
     rw[e] at N;simp at N;lia⟩
   ·exact h.sd sg (by simp[z])
 ·show(((bJ st).setIfInBounds S1.length (S1.flatten.length,j.length+D.length,x.2.2)).eraseIdxIfInBounds (S1.length+1)).toList.map sl=_;rw[Array.toList_eraseIdxIfInBounds,h8,Y,<- B,List.set_append_right _ _ (Nat.le_refl _),Nat.sub_self,List.set_cons_zero,List.eraseIdx_append_of_length_le (by lia),Nat.add_sub_cancel_left,List.eraseIdx_cons_succ,List.eraseIdx_cons_zero,cu,bC,e2,e5,aJa]
  simp[offs,sl,N,Nat.add_assoc]
theorem Pn.next(h:Pn κ P lt a0 st segs rest){xs:Array aH}{n:Nat}(hn:1<=n)(hs:segs.flatten.length+n<=a0.length)(g:Gd segs.flatten.length (aO st) xs)(hu:Up lt xs segs.flatten.length (segs.flatten.length+n)) :
  ∃sg rest',sg.length=n/\Sd lt sg/\sg≠[]/\Pn κ P lt a0 (cJ st xs) segs (sg++rest'):=by
 have L:xs.toList.length=a0.length:=by rw[aM,g.size,h.size]
 have B:xs.toList.take segs.flatten.length=segs.flatten:=by
  have:(aO st).toList.take segs.flatten.length=segs.flatten:=by rw[h.arr,cW (Nat.le_refl _),dJ]
  rw[<- this];refine ff λi=>?_;rw[List.getElem?_take,List.getElem?_take,this]
  split
  ·next hi=>rw[aL,aL];exact g.2 i hi
  ·rfl
 refine⟨(xs.toList.drop segs.flatten.length).take n,(xs.toList.drop segs.flatten.length).drop n,by rw[aR,bo];lia,?_,λe=>?_,h.kind,h.fl,?_,?_,h.sd,h.pd⟩
 ·refine bE.mpr λi j hi D J=>?_;rw[aR,bo] at hi D
  have:=hu (segs.flatten.length+i) (segs.flatten.length+j) (by lia) (by lia) (by lia)
  have z:∀k,segs.flatten.length+k<xs.toList.length->∀v,((xs.toList.drop segs.flatten.length).take n)[k]'v=at0 xs (segs.flatten.length+k):=λk h1 v=>by
   rw[f8,f9];unfold at0;rw[<- aL,ag h1]
   rfl
  rw[z i (by lia),z j (by lia)]
  exact this
 ·have:=congrArg fN e
  rw[aR,bo,dQ] at this;lia
 ·show xs.toList=_;rw[bb]
  conv=>lhs;rw[<- bb segs.flatten.length xs.toList,B]
 ·exact(cQ.mp g.1).trans h.perm
theorem Pn.push{sg rest':List aH}(h:Pn κ P lt a0 st segs (sg++rest'))(hs:Sd lt sg)(hne:sg≠[]){lo n:Nat}(hlo:segs.flatten.length=lo)(hn:sg.length=n):Pn κ P lt a0 (ft st ((bJ st).push (lo,n,0))) (segs++[sg]) rest':=by
 subst hlo hn;refine⟨h.kind,h.fl,?_,h.perm,λx i=>?_,?_⟩
 ·show(aO st).toList=_;rw[h.arr];simp
 ·rcases aP.mp i with z|z
  ·exact h.sd x z
  ·rw[aU.mp z];exact⟨hs,hne⟩
 ·show((bJ st).push _).toList.map sl=_;rw[ca,cu,h.pd,aJa];simp[offs,sl]
theorem Pn.repow(h:Pn κ P lt a0 st segs rest)(i pw:Nat):Pn κ P lt a0 (ft st ((bJ st).modify i λx=>(x.1,x.2.1,pw))) segs rest:=by
 refine⟨h.kind,h.fl,h.arr,h.perm,h.sd,?_⟩;show((bJ st).modify i _).toList.map sl=_;rw[<- h.pd,Array.toList_modify];refine ff λj=>?_;rw[aJ,aJ,List.getElem?_modify]
 by_cases c:i=j
 ·simp only[c,if_true];cases (bJ st).toList[j]? <;> rfl
 ·simp only[c,if_false];cases (bJ st).toList[j]? <;> rfl
theorem cQ6:∀(ss:List (List aH)),(∀sg∈ss,sg≠[])->ss.length<=ss.flatten.length
 |[],_=>Nat.le_refl _
 |s::ss,h=>by
  have:=cQ6 ss λx i=>h x (.tail _ i)
  have:=dy.mpr (h s (.head _))
  rw[io,aA,bG];lia
end
section
variable{prog:aF}{w:aS}{A:a4}{E:ad->ak->Prop}{s:ak}{κ:eO}{P:aH->Prop}{lt:aH->aH->Bool}{st:cN}{a0 rest:List aH}{segs:List (List aH)}
theorem dJo(o:Orc prog w A s κ P lt)(PA:∀x∈(aO st).toList,P x)(hk:kindOf st=κ)(hf:fm st=none)(hp:bJ st=#[]){Q:Unit->cN->Prop}
  (h:∀st',(aO st').toList.Perm (aO st).toList->fm st'=none->Sd lt (aO st').toList->Q () st'):wpS (aE prog w) A E s sortRuns' Q st:=by
 have h0:Pn κ P lt (aO st).toList st [] (aO st).toList:=⟨hk,hf,rfl,dq _,λ_ L=>absurd L gv,by rw[hp];rfl⟩
 have pA:∀ {st' segs rest},Pn κ P lt (aO st).toList st' segs rest->∀ x∈(aO st').toList,P x:=λI x L=>PA x (I.perm.mem_iff.mp L);rw[sortRuns'_eq];refine ax (gQ ?_);dsimp only;have lz:(aO st).toList.length=(aO st).size:=aM;refine ax (de (bL
  (I:=λx c st'=>∃segs rest,c=(none,segs.flatten.length)/\Pn κ P lt (aO st).toList st' segs rest/\x<=segs.flatten.length)
  (Q:=λc st'=>∃segs,c=(none,segs.flatten.length)/\Pn κ P lt (aO st).toList st' segs []) ?step ?fin ⟨[],_,rfl,h0,Nat.le_refl _⟩) ?post)
 case fin =>
  rintro c st' ⟨segs,rest,rfl,I,L⟩;have r:=I.room;obtain rfl:rest=[]:=bX (by lia)
  exact⟨segs,rfl,I⟩
 case post =>
  rintro c st' ⟨segs,rfl,I⟩;have r:=I.room;rw[dQ] at r;have fl:=cQ6 segs λsg hsg=>(I.sd sg hsg).2;dsimp only;refine ax (de (bL (I:=λx c st'=>∃ segs,c=(none,())/\Pn κ P lt (aO st).toList st' segs []/\(segs.length<=1\/segs.length + x<=(aO st).size))
   (Q:=λc st'=>∃segs,c=(none,())/\Pn κ P lt (aO st).toList st' segs []/\segs.length<=1) ?_ ?_ ⟨segs,rfl,I,by lia⟩) ?_)
  ·rintro x c st' _ L ⟨segs,rfl,I,hc⟩;refine ax (gQ ?_);have hps:=I.psize
   by_cases Z:(bJ st').size<=1
   ·rw[if_pos Z];exact aB ⟨segs,rfl,I,by lia⟩
   ·rw[if_neg Z];have hi:∀b:Bool,(if b=true then (bJ st').size-2-1 else (bJ st').size-2)+1<segs.length:=λb=>by split <;> lia
    refine ax (dX2 o PA I (hi _) λD j Y l2 _=>?_);exact aB ⟨j,rfl,Y,by lia⟩
  ·rintro c st' ⟨segs,rfl,I,hc⟩;exact⟨segs,rfl,I,by lia⟩
  ·rintro c st' ⟨segs,rfl,I,hc⟩;refine aB (h st' I.perm I.fl ?_);rw[I.arr,bB]
   match segs,hc,I with
   |[],_,_=>exact fZ
   |[sg],_,I=>rw[dX];exact(I.sd sg (.head _)).1
 case step =>
  rintro x c st' _ L ⟨segs,rest,rfl,I,hxs⟩;have r:=I.room;have sz:=I.size;dsimp only
  by_cases Z:segs.flatten.length>=(aO st).size
  ·rw[if_pos Z];obtain rfl:rest=[]:=bX (by lia)
   exact aB ⟨segs,rfl,I⟩
  rw[if_neg Z];refine ax (eJ4 o I.kind (pA I) (lo:=segs.flatten.length) (by lia) (by lia) λn xs n1 n2 g hu=>?_)
  dsimp only
  by_cases c2:n<minRun' (aO st).size (aO st).size 0
  rw[if_pos c2];refine ax (hZ (c7 ⟨rfl,?_⟩));refine ax (eJ5 o (st:=cJ st' xs) I.kind (λx L=>pA I x ((cQ.mp g.1).mem_iff.mp L)) (by have:=g.size;show _<=xs.size;lia) (by lia) hu λys g2 hu2=>?_)
  rw[if_neg (by simp)]
  obtain⟨sg,v,ls,hs,J,Y⟩:=I.next (by lia) (by lia) ⟨g2.1.trans g.1,λi hi=>(g2.2 i hi).trans (g.2 i hi)⟩ hu2
  change Pn κ P lt _ (cJ (cJ st' xs) ys) _ _ at Y
  rotate_left
  rw[if_neg c2];obtain⟨sg,v,ls,hs,J,Y⟩:=I.next n1 (by lia) g hu
  all_goals
   have lp:=dy.mpr J;refine ax (gQ ?_)
   split
   next s1 n1' _ hb =>
    refine ax (de (bL (I:=λ_ c B=>∃ j,c=(none,())/\Pn κ P lt (aO st).toList B j (sg++v)/\j.flatten.length=segs.flatten.length)
     (Q:=λc B=>∃j,c=(none,())/\Pn κ P lt (aO st).toList B j (sg++v)/\j.flatten.length=segs.flatten.length) ?_ (λ_ _ hh=>hh) ⟨segs,rfl,Y,rfl⟩) ?_)
    ·rintro y c D _ hy ⟨j,rfl,U,O⟩;refine ax (gQ ?_);have hps:=U.psize
     split
     next older he =>
      have hgt:(bJ D).size>1:=by
       by_cases z:(bJ D).size>1
       ·exact z
       ·rw[if_neg z] at he;cases he
      split
      ·exact aB ⟨j,rfl,U,O⟩
      ·refine ax (dX2 o PA U (by lia) λst4 N I4 _ l4=>?_)
       exact aB ⟨N,rfl,I4,l4.trans O⟩
     next=>exact aB ⟨j,rfl,U,O⟩
    ·rintro c D ⟨j,rfl,U,O⟩;dsimp only;refine ax (cO (ax (cO (aB ⟨j++[sg],v,?_,(U.repow _ _).push hs J O ls,?_⟩))))
     ·rw[dz,aA,dX,ls,O]
     ·rw[dz,aA,dX,O];lia
   next =>
    refine ax (cO (aB ⟨segs++[sg],v,?_,Y.push hs J rfl ls,?_⟩))
    ·rw[dz,aA,dX,ls]
    ·rw[dz,aA,dX];lia
end
theorem aZr{α:Type}:∀{l:List α}{x y:α},(x,y)∈l.zip l->x=y/\x∈l
 |a::l,x,y,h=>by
  rw[eX] at h;rcases aK.mp h with e|h
  ·cases e;exact⟨rfl,.head _⟩
  ·exact⟨(aZr h).1,.tail _ (aZr h).2⟩
section
variable{prog:aF}{w:aS}{A:a4}{E:ad->ak->Prop}{s:ak}
theorem dQr{α:Type}{R:α->α->Prop}:∀l:List α,l.length<2->l.Pairwise R
 |[],_=>.nil
 |[x],_=>cv _ _
theorem sort_any{a:Addr}{vs:List ad}{n:Nat}{P:iQ->ak->Prop}(lt:ad->ad->Bool)(hz:vs.length<=sizeLine)(ho:s.heap.get? a=some (bY "list" vs.toArray n))
  (H:∀h2:bd,(∀b o,b≠a->s.heap.get? b=some o->h2.get? b=some o)->2<=vs.length->∀(Q:eO->ak->Prop),(∀κ,Orc prog w A {s with heap:=h2} κ (λx=>x.1∈vs) (λx y=>lt x.1 y.1)->Q κ {s with heap:=h2})->aG (aE prog w) A (keyKind' vs.toArray) Q E {s with heap:=h2})
  (h:∀xs:Array aH,xs.Perm (gD vs)->xs.toList.Pairwise (λx y=>lt y.1 x.1=false)->P (.done (.ret .none)) {s with heap:=gy s.heap a vs (xs.map (·.2))}) :
  aG (aE prog w) A (cR.«list.sort» ⟨[.ref a],[]⟩) P E s:=by
 rw[list_sort_plain];have Y:a<s.heap.objs.size:=aD ho;refine aa (listItems_at ho rfl ?_);refine aa (listUpdate_at ho rfl ?_ (by rw[ar];exact hz) (Nat.zero_le _))
 obtain⟨B,v⟩:∃B,(s.heap.update a (bK λ_=>#[])).get? a=some (bY "list" #[] B):=⟨_,eg ho (λ_=>#[])⟩;refine aa (seqEpoch_at v rfl ?_);refine aa (wpAny_newTuple ?_ (by show vs.length<=_;exact hz))
 refine aa (wpAny_newList ?_ (Nat.zero_le _));refine bn ?_;have J:=cH s.heap a (bK λ_=>(#[]:Array ad));have j:(((s.heap.update a (bK λ_=>#[])).push (bY "tuple" vs.toArray 0)).push (bY "list" #[] 0)).get? a=some (bY "list" #[] B):=ae _ (ae _ v);have kp:∀b o,b≠a->s.heap.get? b=some o->(((s.heap.update a (bK λ_=>#[])).push (bY "tuple" vs.toArray 0)).push (bY "list" #[] 0)).get? b=some o:=λb o O e=>ae _ (ae _ ((J.2 b O).trans e));show aG (aE prog w) A _ P E {s with heap:=((s.heap.update a (bK λ_=>#[])).push (bY "tuple" vs.toArray 0)).push (bY "list" #[] 0)}
 dsimp only;have z:(gD vs).size=vs.length:=pairsOf_size vs
 by_cases h2:vs.toArray.size<2
 ·rw[if_pos h2,if_pos h2];refine aa (af ?_);rw[StateT.run_pure];refine aa (af ?_);dsimp only;refine aa (seqEpoch_at j rfl ?_);refine aa (listUpdate_at j rfl ?_ (Nat.zero_le _) (by rw[jl];show(gD vs).size<=_;rw[z];exact Nat.le_succ_of_le hz))
  simp only[bne_self_eq_false,aN,if_false];refine af (h (gD vs) (je _) ?_)
  have:(gD vs).toList.length<2:=by rw[aM,z];simpa using h2
  exact dQr _ this
 ·rw[if_neg h2,if_neg h2];refine aa (H _ kp (by simpa using h2) _ fun κ o=>?_)
  refine aa (cT (dJo o (st:=hX κ (vs.toArray.zip vs.toArray) #[] 7 none) (Q:=λ_ i=>(aO i).toList.Perm (gD vs).toList/\fm i=none/\Sd (λx y:aH=>lt x.1 y.1) (aO i).toList)
   (λx L=>(aZr (x:=x.1) (y:=x.2) (by rw[<- h9];exact L)).2) rfl rfl rfl λi a1 a2 U=>⟨a1,a2,U⟩) ?_ λ_ _ e=>e)
  rintro⟨⟨⟩,i⟩ s' ⟨rfl,D,hf,N⟩;dsimp only;refine aa (seqEpoch_at j rfl ?_);refine aa (listUpdate_at j rfl ?_ (Nat.zero_le _) (by rw[jl,<- aM,D.length_eq,aM,z];exact Nat.le_succ_of_le hz))
  rw[hf];simp only[bne_self_eq_false,aN,if_false];exact af (h _ (cQ.mpr D) N)
theorem treeK{κ:KeyKind}(hO:κ.OneLt){a:Addr}{vs:List ad}{n:Nat}{P:iQ->ak->Prop}(ho:s.heap.get? a=some (bY "list" vs.toArray n))
  (h0:KeysOf κ (gD vs)) (hkk:∀v₁ v₂ rest,vs=v₁::v₂::rest->keyKind' (v₁::v₂::rest).toArray=pure oneType') (hz:vs.length<=sizeLine)
  (h:∀st':cN,(aO st').Perm (gD vs)->SortedToK κ (aO st') (gD vs).size->P (.done (.ret .none)) {s with heap:=gy s.heap a vs ((aO st').map (·.2))}) :
  aG (aE prog w) A (cR.«list.sort» ⟨[.ref a],[]⟩) P E s:=by
 have key:∀ v∈vs,∃ x,κ.keyOf v=some x:=λv hv=>h0 (v,v) (by
  rw[h9];obtain⟨i,hi,e⟩:=be hv;exact List.mem_iff_getElem.mpr ⟨i,by simpa using hi,by simp[e]⟩)
 refine sort_any (λu v=>κ.blt ((κ.keyOf u).getD κ.dflt) ((κ.keyOf v).getD κ.dflt)) hz ho (λh2 kp O Q hq=>?_) λxs D hs=>h (hX oneType' xs #[] 7 none) D λi j N hj=>?_
 ·obtain⟨v₁,v₂,rest,rfl⟩:∃v₁ v₂ rest,vs=v₁::v₂::rest:=by
   match vs,O with
   |v₁::v₂::rest,_=>exact⟨v₁,v₂,rest,rfl⟩
  rw[hkk _ _ _ rfl];refine af (hq _ ⟨λx y Q hx Z q=>?_,λx y _ _ e=>KeyOrd.klt_asymm e,λx y z _ _ _ e1 e2=>KeyOrd.kle_trans e1 e2⟩);obtain⟨p,D⟩:=key _ hx;obtain⟨Y,B⟩:=key _ Z;rw[keyLt'_oneType];refine hO _ _ _ _ _ _ _ p Y D B ?_;rw[D,B] at q;exact q
 ·show κ.kle (KK κ xs i) (KK κ xs j);rcases Nat.eq_or_lt_of_le N with rfl|J
  ·exact KeyOrd.kle_refl _
  ·have sz:=D.size_eq;have U:∀k (L:k<xs.size),KK κ xs k=(κ.keyOf (xs.toList[k]'(by simpa using L)).1).getD κ.dflt:=λk L=>by
    unfold KK;rw[<- aL,ag (by simpa using L)]
   rw[U i (by lia),U j (by lia)]
   exact bE.mp hs i j (by simp;lia) (by simp;lia) J
def iv:ad->Int
 |.int n _=>n
 |_=>0
theorem treeI{a:Addr}{vs:List ad}{ns:List Int}{n:Nat}{P:iQ->ak->Prop}(ho:s.heap.get? a=some (bY "list" vs.toArray n))(hI:gL vs ns)(hz:vs.length<=sizeLine)
  (h:∀(out:Array ad) (ns':List Int),gL out.toList ns'->ns'.Perm ns->ns'.Pairwise (·<=·)->P (.done (.ret .none)) {s with heap:=gy s.heap a vs out}) :
  aG (aE prog w) A (cR.«list.sort» ⟨[.ref a],[]⟩) P E s:=by
 have key:∀ v∈vs,∃ x t,v=.int x t:=λv hv=>hI.intKeys (v,v) (by
  rw[h9];obtain⟨i,hi,e⟩:=be hv;exact List.mem_iff_getElem.mpr ⟨i,by simpa using hi,by simp[e]⟩)
 refine sort_any (λu v=>decide (iv u<iv v)) hz ho (λh2 kp Y Q hq=>?_) λxs J hs=>?_
 ·obtain⟨D,B,rest,rfl⟩:∃D B rest,vs=D::B::rest:=by
   match vs,Y with
   |D::B::rest,_=>exact⟨D,B,rest,rfl⟩
  rw[keyKind_ints hI];refine af (hq _ ⟨λx y Q hx hy q=>?_,λx y _ _ e=>by simp at e ⊢;lia,λx y z _ _ _ e1 e2=>by simp at e1 e2 ⊢;lia⟩)
  obtain⟨p,t,J⟩:=key _ hx;obtain⟨p',t',N⟩:=key _ hy;rw[keyLt'_oneType];rw[J,N] at q ⊢;exact oneLt_int q
 ·have sz:=J.size_eq;obtain⟨ns',h1,h2,h3⟩:=sorted_out hI J (λi j U hj=>by
   rcases Nat.eq_or_lt_of_le U with rfl|O
   ·exact Int.le_refl _
   ·have Z:∀k (L:k<xs.size),K xs k=iv (xs.toList[k]'(by simpa using L)).1:=λk L=>by
     have hm:xs.toList[k]'(by simpa using L)∈(gD vs).toList:=(cQ.mp J).mem_iff.mp (db _)
     obtain⟨p,t,e⟩:=hI.intKeys _ hm;unfold K;rw[<- aL,ag (by simpa using L)]
     generalize xs.toList[k]'(by simpa using L)=z at e
     obtain⟨z1,z2⟩:=z;cases e
     rfl
    rw[Z i (by lia),Z j (by lia)]
    have:=bE.mp hs i j (by simp;lia) (by simp;lia) O
    have:=of_decide_eq_false this
    lia)
  exact h _ ns' h1 h2 h3
end
end SF
set_option maxHeartbeats 1000000
namespace HT
open PySem
theorem ltS_tot{a b:Str}(h:ltS a b=false)(hne:a≠b):ltS b a=true:=by
 unfold ltS at *
 refine decide_eq_true ?_;have h1:=of_decide_eq_false h;refine aY λh2=>hne ?_;have e:a.cps.toList=b.cps.toList:=List.le_antisymm (List.not_lt.mp h2) (List.not_lt.mp h1);cases a;cases b
 congr 1
 exact Array.toList_inj.mp e
theorem ltS_tr{a b c:Str}(h:ltS a b=true)(h':ltS b c=true):ltS a c=true:=decide_eq_true (List.lt_trans (of_decide_eq_true h) (of_decide_eq_true h'))
theorem ltS_ir(a:Str):ltS a a=false:=decide_eq_false (List.lt_irrefl _)
theorem ltS_as{a b:Str}(h:ltS a b=true):ltS b a=false:=decide_eq_false (List.lt_asymm (of_decide_eq_true h))
theorem lexS_tot:∀{a b:List Str},lexS a b=false->a≠b->lexS b a=true
 |[],[],_,h=>absurd rfl h
 |[],_::_,h,_=>by cases h
 |_::_,[],_,_=>rfl
 |x::xs,y::ys,h,i=>by
  rw[lexS_cons] at h ⊢
  by_cases e:x=y
  ·rw[if_pos e] at h;rw[if_pos e.symm];exact lexS_tot h λz=>i (by rw[e,z])
  ·rw[if_neg e] at h;rw[if_neg λz=>e z.symm];exact ltS_tot h e
theorem lexS_as:∀{a b:List Str},lexS a b=true->lexS b a=false
 |[],[],h=>by cases h
 |[],_::_,_=>rfl
 |_::_,[],h=>by cases h
 |x::xs,y::ys,h=>by
  rw[lexS_cons] at h ⊢
  by_cases e:x=y
  ·rw[if_pos e] at h;rw[if_pos e.symm];exact lexS_as h
  ·rw[if_neg e] at h;rw[if_neg (λz=>e z.symm)];exact ltS_as h
theorem lexS_tr:∀{a b c:List Str},lexS a b=true->lexS b c=true->lexS a c=true
 |[],[],_,h,_=>by cases h
 |[],_::_,[],_,h=>by cases h
 |[],_::_,_::_,_,_=>rfl
 |_::_,[],_,h,_=>by cases h
 |_::_,_::_,[],_,h=>by cases h
 |x::xs,y::ys,z::zs,h,h'=>by
  rw[lexS_cons] at h h' ⊢
  by_cases e:x=y
  ·subst e;rw[if_pos rfl] at h
   by_cases i:x=z
   ·rw[if_pos i] at h' ⊢;exact lexS_tr h h'
   ·rw[if_neg i] at h' ⊢;exact h'
  ·rw[if_neg e] at h
   by_cases i:y=z
   ·subst i;rw[if_neg e];exact h
   ·rw[if_neg i] at h';have hxz:=ltS_tr h h'
    have:x≠z:=by rintro rfl;rw[ltS_ir] at hxz;cases hxz
    rw[if_neg this];exact hxz
end HT
namespace KS
open PySem PySem.W PyProof.Rows
theorem TS.keep{h h':bd}{v:ad}{d:List Str}(t:TS h v d)(k:∀b o,h.get? b=some o->o.cls=.type "tuple"->h'.get? b=some o):TS h' v d:=by
 obtain⟨b,items,e,⟨o,j,i,r⟩,p⟩:=t;exact⟨b,items,e,⟨o,k b o j i,i,r⟩,p⟩
section
variable{prog:aF}{w:aS}{A:a4}{E:ad->ak->Prop}{s:ak}
theorem TS.uniq{h:bd}{v:ad}{d d':List Str}(t:TS h v d)(t':TS h v d'):d=d':=by
 obtain⟨b,items,rfl,⟨o,B,O,n,hd⟩,p⟩:=t;obtain⟨Y,i,e,⟨o',ho',j,U,hd'⟩,L⟩:=t';cases e;rw[B] at ho';cases ho';rw[hd] at hd';cases hd';clear hd B O j;have go:∀{l:List ad}{d d':List Str},HT.SAre l d->HT.SAre l d'->d=d':=by
  intro l d d' p
  induction p generalizing d' with
  |nil=>intro q;cases q;rfl
  |cons z _ N =>
   intro q;cases q with
   |cons D J =>
    obtain⟨t,e⟩:=z;obtain⟨t',e'⟩:=D;rw[e] at e';cases e';rw[N J]
 exact go p L
open Classical in
noncomputable def dec(h:bd)(v:ad):List Str:=if e:∃d,TS h v d then e.choose else []
theorem cXj{h:bd}{v:ad}{d:List Str}(t:TS h v d):dec h v=d:=by
 unfold dec;have e:∃d,TS h v d:=⟨d,t⟩;rw[dif_pos e];exact e.choose_spec.uniq t
theorem dJp{a b c:List Str}(h1:HT.lexS b a=false)(h2:HT.lexS c b=false):HT.lexS c a=false:=by
 cases e:HT.lexS c a with
 |false=>rfl
 |true =>
  by_cases z:b=a
  ·subst z;rw[h2] at e;cases e
  ·have:=HT.lexS_tr e (HT.lexS_tot h1 z)
   rw[h2] at this;cases this
theorem dQs{α β:Type}{f:α->β}{l:List β}{k:List β}(h:l.Perm k):∀{m:List α},k=m.map f->∃m':List α,m'.Perm m/\l=m'.map f:=by
 induction h with
 |nil=>exact λe=>⟨_,dq _,e⟩
 |cons x _ L =>
  intro m e;cases m with
  |nil=>cases e
  |cons a m =>
   rw[bC] at e;injection e with j i
   obtain⟨m',p,q⟩:=L i;exact⟨a::m',p.cons a,by rw[bC,q,j]⟩
 |swap x y l =>
  intro m e;cases m with
  |nil=>cases e
  |cons a m =>
   cases m with
   |nil=>simp at e
   |cons b m =>
    rw[bC,bC] at e;injection e with j i
    injection i with i N
    exact⟨b::a::m,.swap _ _ _,by rw[bC,bC,j,i,N]⟩
 |trans p q z v =>
  intro m e;obtain⟨O,D,j⟩:=v e;obtain⟨J,B,i⟩:=z j;exact⟨J,B.trans D,i⟩
theorem cXk{α:Type}(l:List α)(d:α):((a7 l.length).map λi=>l.getD i d)=l:=by
 apply iR
 ·simp
 ·intro i h1 h2;simp only[iS,List.getElem_range,ah];rw[ag h2]
  rfl
theorem sort_tupsL{a:Addr}{vs:List ad}{ds:List (List Str)}{n:Nat}{P:iQ->ak->Prop}(hu:A.units<cB)(ho:s.heap.get? a=some (bY "list" vs.toArray n))(hp:br (TS s.heap) vs ds)(hz:vs.length<=sizeLine)
  (h:∀ (idx:List Nat) (h':bd) (c:Nat),idx.Perm (a7 vs.length)->(idx.map λi=>ds.getD i []).Pairwise (λa b=>HT.lexS b a=false)->(idx.map λi=>ds.getD i []).Perm ds->h'.get? a=some (bY "list" (idx.map λi=>vs.getD i cK).toArray c) ->
   (∀b o,b≠a->s.heap.get? b=some o->h'.get? b=some o)->P (.done (.ret .none)) {s with heap:=h'}) :
  aG (aE prog w) A (cR.«list.sort» ⟨[.ref a],[]⟩) P E s:=by
 have hl:vs.length=ds.length:=cw hp;have at_:∀i,i<vs.length->TS s.heap (vs.getD i cK) (ds.getD i []):=λk hk=>by
  obtain⟨d,hd,t⟩:=L2.Paired.get' hp (ag hk);rw[ah,ah,hd,ag hk];exact t
 have B:∀v∈vs,TS s.heap v (dec s.heap v):=λv hv=>by
  obtain⟨i,hi,e⟩:=be hv
  have:=at_ i hi
  rw[ah,ag hi] at this;have L:TS s.heap v (ds.getD i []):=by rw[<- e];exact this
  rw[cXj L];exact L
 refine SF.sort_any (λu v=>HT.lexS (dec s.heap u) (dec s.heap v)) hz ho (λh2 kp h2l Q hq=>?_) λxs U hs=>?_
 ·have kt:∀ b o,s.heap.get? b=some o->o.cls=.type "tuple"->h2.get? b=some o:=λb o e c=>kp b o (by
   rintro rfl;rw[ho] at e;have e':=aQ e;rw[<- e'] at c;have c':c6 "list"=c6 "tuple":=c;injection c' with c''
   exact absurd c'' (by decide)) e
  have Y:br (TS h2) vs ds:=L2.Paired.imp (λv d t=>t.keep kt) hp;refine dJm (s:={s with heap:=h2}) Y (by rintro rfl;simp at h2l) fun κ hκ=>hq κ ⟨λx y Q U hy q=>?_,λx y _ _ e=>HT.lexS_as e,λx y z _ _ _ D L=>dJp D L⟩
  have t1:=(B _ U).keep kt;have N:=(B _ hy).keep kt;rcases hκ with rfl|rfl|rfl
  ·exact cXf (s:={s with heap:=h2}) t1 N q
  ·exact cZ5 (s:={s with heap:=h2}) hu t1 N q
  ·exact eXw (s:={s with heap:=h2}) hu t1 N q
 ·have pl:xs.toList.Perm (gD vs).toList:=cQ.mp U;obtain⟨idx,O,D⟩:=dQs (f:=λi=>(vs.getD i cK,vs.getD i cK)) (m:=a7 vs.length) pl (by
   rw[h9]
   conv=>lhs;rw[<- cXk vs cK]
   rw[List.zip_map'])
  have J:∀i∈idx,i<vs.length:=λi hi=>aZ.mp (O.mem_iff.mp hi);have eo:xs.map (·.2)=(idx.map λi=>vs.getD i cK).toArray:=by
   apply Array.toList_inj.mp;rw[Array.toList_map,D,bW]
   rfl
  rw[eo];rw[D,cV] at hs;have s2:=cH (((s.heap.update a (bK λ_=>(#[]:Array ad))).push (bY "tuple" vs.toArray 0)).push (bY "list" #[] 0)) a (bK λ_=>(idx.map λi=>vs.getD i cK).toArray);obtain⟨L,Z⟩:∃D,(s.heap.update a (bK λ_=>(#[]:Array ad))).get? a=some (bY "list" #[] D):=⟨_,eg ho λ_=>#[]⟩;have sb:=cH s.heap a (bK λ_=>(#[]:Array ad));refine h idx _ _ O ?_ ?_ (eg (ae _ (ae _ Z)) λ_=>_) λb o hb e=>(s2.2 b hb).trans (ae _ (ae _ ((sb.2 b hb).trans e)))
  ·rw[cV];refine hs.imp_of_mem λ{i j} hi hj hij=>?_;have a1:=cXj (at_ i (J i hi));have a2:=cXj (at_ j (J j hj));rw[<- a1,<- a2];exact hij
  ·have:=O.map λi=>ds.getD i []
   rw[hl,cXk] at this;exact this
end
end KS
namespace ST
open PySem PySem.SetTable PySem.Spec PyProof.Rows
end ST
namespace L2
open PySem PySem.Spec PyProof.Rows
def stO(p:Addr)(es:Array (Int×ad))(ep:Nat)(t:aT):HO:=.ext λh=>h.get? p=some (ST.setOb es ep t)
theorem Inv.drawn{X:Cx}{pins:List (Addr×Obj)}{σ:St}{H:Hp}{s:ak}(I:Inv X pins σ H s)(d:_):Inv X pins σ H {s with drawn:=d} :=
 ⟨I.ok,I.os,I.bare,I.base,I.loc,I.cell,I.free,I.freeC,I.pin,I.hok,I.len⟩
section
variable{X:Cx}
theorem cXl{H:Hp}:∀{xs:List V}{us:List ad}{ds:List Str},br (dS H) xs ds->Vals xs us->ja us ds
 |_,_,_,.nil,.nil=>.nil
 |_,_,_,.cons p q,.cons r t=>by
  cases p;obtain⟨k,rfl⟩:=r;exact .cons _ k (cXl q t)
theorem bQy{H:Hp}:∀{us:List ad}{ds:List Str},ja us ds->Vals (ds.map V.str) us/\br (dS H) (ds.map V.str) ds
 |_,_,.nil=>⟨.nil,.nil⟩
 |_,_,.cons y t r=>⟨.cons ⟨t,rfl⟩ (bQy (H:=H) r).1,.cons rfl (bQy r).2⟩
theorem dX3:∀{l:List Str},sortedS l=true->l.Nodup->l.Pairwise λa b=>HT.ltS a b=true
 |[],_,_=>.nil
 |[x],_,_=>cv _ _
 |x::y::l,h,nd=>by
  have h':(!ltCps y.cps.toList x.cps.toList&&risingS y l)=true:=h;rw[a6] at h';have v:=dX3 (l:=y::l) h'.2 (bZ.mp nd).2;have i:HT.ltS x y=true:=by
   have e:HT.ltS y x=false:=by
    have:=h'.1
    rw[dw] at this;rw[ltCps_eq] at this;exact this
   exact HT.ltS_tot e λz=>(bZ.mp nd).1 (z▸aq)
  refine bz.mpr ⟨λz j=>?_,v⟩;rcases aK.mp j with rfl|j
  ·exact i
  ·exact HT.ltS_tr i ((bz.mp v).1 z j)
end
end L2
set_option maxHeartbeats 4000000
namespace L2
open PySem PySem.Spec PyProof.Rows
def cutS(z:Str)(lo hi:Option Int):Str:=if ((bQ lo hi 1 z.length).length==z.length)=true then z else ⟨((bQ lo hi 1 z.length).filterMap (z.cps[·]?)).toArray⟩
def rSlS:V->Option Int->Option Int->Hp->VK->Prop:=λx lo hi H Q=>∃z,x=.str z/\z.length<=1000000/\Q (.str (cutS z lo hi)) H
theorem sl_str{X:Cx}:SlR X rSlS:=by
 intro pins s σ H x v vl Z lo hi sl Q I N U pl pu h;obtain⟨z,rfl,hz,q⟩:=h;obtain⟨t,rfl⟩:=N;refine⟨"str",_,PySem.F.slot_str_getitem.lookup,typeIs_str _ _ _,?_⟩;have go:∀(l u:Option (Int×Tok)),l.map (·.1)=lo->u.map (·.1)=hi->s.heap.IsSlice sl l u none->aG (aE X.prog X.w) X.A (iY (.str z t) (.ref sl)) (EP X pins σ Q) X.xe s:=λl u hl O Y=>by
  refine wpAny_getItem_str_slice Y rfl ?_;unfold sliceMade slicePicked;simp only[Option.map_none,iD,beq_self_eq_true,iy,hl,O];unfold cutS at q
  by_cases c:((bQ lo hi 1 z.length).length==z.length)=true
  ·rw[if_pos c] at q ⊢;exact⟨.str z,H,I,⟨t,rfl⟩,q⟩
  ·rw[if_neg c] at q ⊢;refine⟨?_,.str _,H,I.tok _,⟨_,rfl⟩,q⟩;have h1:=PyProof.Rows.indices_len_le lo hi z.length;have h2:((bQ lo hi 1 z.length).filterMap (z.cps[·]?)).length<=(bQ lo hi 1 z.length).length:=List.length_filterMap_le _ _;show((bQ lo hi 1 z.length).filterMap (z.cps[·]?)).toArray.size<=_;rw[ar,bf];lia
 obtain⟨o,B,D,hd⟩:=U;cases pl with
 |none =>
  cases pu with
  |none=>exact go none none rfl rfl ⟨o,B,D,hd⟩
  |int j J=>exact go none (some (j,J)) rfl rfl ⟨o,B,D,hd⟩
 |int i L =>
  cases pu with
  |none=>exact go (some (i,L)) none rfl rfl ⟨o,B,D,hd⟩
  |int j J=>exact go (some (i,L)) (some (j,J)) rfl rfl ⟨o,B,D,hd⟩
end L2
set_option maxHeartbeats 1000000
namespace L2
open PySem PySem.Spec PyProof.Rows
inductive D where
 |non|bl (b:Bool)|int (i:Int)|str (x:Str)|ty (n:String)|ref (a:Addr)|tup (xs:List D)|lst (xs:List D)
abbrev Am:=Addr->Prop
structure Keep(M:Am)(H:Hp)(M':Am)(H':Hp):Prop where
 st:∀a o,¬ M a->H a=some o->H' a=some o
 nm:∀a,¬ M a->H a≠none->¬ M' a
def Xo:HO->Prop
 |.ext _=>True
 |.ins _ _ _=>True
 |_=>False
inductive DO where
 |lst (xs:List D)|dk (kvs:List (Key×D))|dt (kvs:List (List Key×D))
 |tb (pos:Pos) (qual:Str)
 |ex (f:Am->Hp->Addr->Prop) (hk:∀M M' H H' a,Keep M H M' H'->H' a=H a->f M H a->f M' H' a) (hl:∀M H a,f M H a->∃g,H a=some g/\Xo g)
abbrev Sto:=Addr->Option DO
abbrev Gm:=List (Option D)
def supd(S:Sto)(a:Addr)(o:DO):Sto:=λb=>if b=a then some o else S b
theorem aQ5{S:Sto}{a:Addr}{o:DO}:supd S a o a=some o:=by unfold supd;rw[if_pos rfl]
theorem aQ8{S:Sto}{a b:Addr}{o:DO}(h:b≠a):supd S a o b=S b:=by unfold supd;rw[if_neg h]
def TupAt(K:Fg)(M:Am)(H:Hp)(a:Addr)(xs:List V):Prop:=(¬ M a/\Rd H a (.tup xs))\/SqT K (λ_=>none) a xs
theorem TupAt.sq{K:Fg}{M:Am}{H:Hp}{a:Addr}{xs:List V}(h:TupAt K M H a xs):SqT K H a xs:=by
 rcases h with h|(h|⟨o,h⟩)|h
 ·exact .inl h.2
 ·cases h
 ·cases h
 ·exact .inr h
def LstAt(K:Fg)(M:Am)(H:Hp)(a:Addr)(xs:List V):Prop:=(¬ M a/\Rd H a (.lst xs))\/SqL K (λ_=>none) a xs
theorem LstAt.sq{K:Fg}{M:Am}{H:Hp}{a:Addr}{xs:List V}(h:LstAt K M H a xs):SqL K H a xs:=by
 rcases h with h|(h|⟨o,h⟩)|h
 ·exact .inl h.2
 ·cases h
 ·cases h
 ·exact .inr h
mutual
def RepV(K:Fg)(M:Am)(H:Hp):D->V->Prop
 |.non,v=>v=.non
 |.bl b,v=>v=.bl b
 |.int i,v=>v=.int i
 |.str x,v=>v=.str x
 |.ty n,v=>v=.ty n
 |.ref a,v=>v=.ref a
 |.tup ds,v=>∃a xs,v=.ref a/\TupAt K M H a xs/\RepL K M H ds xs
 |.lst ds,v=>∃a xs,v=.ref a/\LstAt K M H a xs/\RepL K M H ds xs
def RepL(K:Fg)(M:Am)(H:Hp):List D->List V->Prop
 |[],xs=>xs=[]
 |d::ds,xs=>∃v vs,xs=v::vs/\RepV K M H d v/\RepL K M H ds vs
end
theorem Rd.live{H:Hp}{a:Addr}{u:HO}(r:Rd H a u):H a≠none:=by
 rcases r with r|⟨o,r⟩ <;> rw[r] <;> exact λz=>by cases z
theorem Keep.rd{M M':Am}{H H':Hp}(k:Keep M H M' H'){a:Addr}{u:HO}(hm:¬ M a)(r:Rd H a u):Rd H' a u:=by
 rcases r with r|⟨o,r⟩
 ·exact .inl (k.st a _ hm r)
 ·exact .inr ⟨o,k.st a _ hm r⟩
theorem TupAt.keep{K:Fg}{M M':Am}{H H':Hp}{p:Addr}{us:List V}(t:TupAt K M H p us)(x:Keep M H M' H'):TupAt K M' H' p us:=by
 rcases t with⟨hm,r⟩|t
 ·exact .inl ⟨x.nm p hm r.live,x.rd hm r⟩
 ·exact .inr t
theorem LstAt.keep{K:Fg}{M M':Am}{H H':Hp}{p:Addr}{us:List V}(t:LstAt K M H p us)(x:Keep M H M' H'):LstAt K M' H' p us:=by
 rcases t with⟨hm,r⟩|t
 ·exact .inl ⟨x.nm p hm r.live,x.rd hm r⟩
 ·exact .inr t
mutual
theorem RepV.keep{K:Fg}{M M':Am}{H H':Hp}(k:Keep M H M' H'):∀{d:D}{v:V},RepV K M H d v->RepV K M' H' d v
 |.non,_,h=>h
 |.bl _,_,h=>h
 |.int _,_,h=>h
 |.str _,_,h=>h
 |.ty _,_,h=>h
 |.ref _,_,h=>h
 |.tup ds,v,h=>by
  unfold RepV at h ⊢;obtain⟨a,xs,e,t,l⟩:=h;exact⟨a,xs,e,t.keep k,RepL.keep k l⟩
 |.lst ds,v,h=>by
  unfold RepV at h ⊢;obtain⟨a,xs,e,t,l⟩:=h;exact⟨a,xs,e,t.keep k,RepL.keep k l⟩
theorem RepL.keep{K:Fg}{M M':Am}{H H':Hp}(k:Keep M H M' H'):∀{ds:List D}{xs:List V},RepL K M H ds xs->RepL K M' H' ds xs
 |[],_,h=>h
 |d::ds,xs,h=>by
  unfold RepL at h ⊢;obtain⟨v,i,e,r,l⟩:=h;exact⟨v,i,e,RepV.keep k r,RepL.keep k l⟩
end
section
variable{K:Fg}{M:Am}{H:Hp}
theorem RepL.length:∀{ds:List D}{xs:List V},RepL K M H ds xs->xs.length=ds.length
 |[],_,h=>by unfold RepL at h;rw[h];rfl
 |d::ds,xs,h=>by
  unfold RepL at h;obtain⟨v,i,rfl,_,l⟩:=h;simp[RepL.length l]
theorem RepL.nil:RepL K M H [] []:=by unfold RepL;rfl
theorem RepL.cons{d:D}{ds:List D}{v:V}{vs:List V}(r:RepV K M H d v)(l:RepL K M H ds vs):RepL K M H (d::ds) (v::vs):=by unfold RepL;exact⟨v,vs,rfl,r,l⟩
theorem RepL.app:∀{ds es:List D}{xs ys:List V},RepL K M H ds xs->RepL K M H es ys->RepL K M H (ds++es) (xs++ys)
 |[],es,xs,ys,h,h'=>by unfold RepL at h;rw[h];exact h'
 |d::ds,es,xs,ys,h,h'=>by
  unfold RepL at h;obtain⟨v,i,rfl,r,l⟩:=h;exact RepL.cons r (RepL.app l h')
theorem RepL.get:∀{ds:List D}{xs:List V}{i:Nat}{d:D},RepL K M H ds xs->ds[i]?=some d->∃v,xs[i]?=some v/\RepV K M H d v
 |[],_,_,_,_,e=>by simp at e
 |d::ds,xs,0,e,h,he=>by
  unfold RepL at h;obtain⟨v,j,rfl,r,l⟩:=h;simp at he;subst he;exact⟨v,rfl,r⟩
 |d::ds,xs,i+1,e,h,he=>by
  unfold RepL at h;obtain⟨v,j,rfl,r,l⟩:=h;obtain⟨w,h1,h2⟩:=RepL.get (i:=i) l (by simpa using he)
  exact⟨w,by simpa using h1,h2⟩
theorem RepL.get'{ds:List D}{xs:List V}{i:Nat}{v:V}(h:RepL K M H ds xs)(e:xs[i]?=some v):∃d,ds[i]?=some d/\RepV K M H d v:=by
 have hl:=h.length;have hi:i<xs.length:=by
  rcases Nat.lt_or_ge i xs.length with z|z
  ·exact z
  ·rw[bV z] at e;cases e
 have j:ds[i]?=some ds[i]:=ag (by omega)
 obtain⟨w,h1,h2⟩:=h.get j;rw[e] at h1;cases h1;exact⟨_,j,h2⟩
theorem RepL.take:∀{ds:List D}{xs:List V}(n:Nat),RepL K M H ds xs->RepL K M H (ds.take n) (xs.take n)
 |_,_,0,_=>by simpa using RepL.nil
 |[],_,n+1,h=>by unfold RepL at h;subst h;simpa using RepL.nil
 |d::ds,xs,n+1,h=>by
  unfold RepL at h;obtain⟨v,i,rfl,r,l⟩:=h;simpa using RepL.cons r (RepL.take n l)
theorem RepL.drop:∀{ds:List D}{xs:List V}(n:Nat),RepL K M H ds xs->RepL K M H (ds.drop n) (xs.drop n)
 |_,_,0,h=>by simpa using h
 |[],_,n+1,h=>by unfold RepL at h;subst h;simpa using RepL.nil
 |d::ds,xs,n+1,h=>by
  unfold RepL at h;obtain⟨v,i,rfl,r,l⟩:=h;simpa using RepL.drop n l
theorem RepL.set{d:D}{v:V}(r:RepV K M H d v):∀{ds:List D}{xs:List V}(i:Nat),RepL K M H ds xs->RepL K M H (ds.set i d) (xs.set i v)
 |[],_,i,h=>by unfold RepL at h;subst h;simpa using RepL.nil
 |e::ds,xs,0,h=>by
  unfold RepL at h;obtain⟨w,j,rfl,_,l⟩:=h;simpa using RepL.cons r l
 |e::ds,xs,i+1,h=>by
  unfold RepL at h;obtain⟨w,j,rfl,q,l⟩:=h;simpa using RepL.cons q (RepL.set r i l)
theorem RepL.erase:∀{ds:List D}{xs:List V}(i:Nat),RepL K M H ds xs->RepL K M H (ds.eraseIdx i) (xs.eraseIdx i)
 |[],_,i,h=>by unfold RepL at h;subst h;simpa using RepL.nil
 |e::ds,xs,0,h=>by
  unfold RepL at h;obtain⟨w,j,rfl,_,l⟩:=h;simpa using l
 |e::ds,xs,i+1,h=>by
  unfold RepL at h;obtain⟨w,j,rfl,q,l⟩:=h;simpa using RepL.cons q (RepL.erase i l)
theorem RepL.one{d:D}{xs:List V}(h:RepL K M H [d] xs):∃v,xs=[v]/\RepV K M H d v:=by
 unfold RepL at h;obtain⟨v,i,rfl,r,l⟩:=h;unfold RepL at l;subst l;exact⟨v,rfl,r⟩
theorem RepL.two{d e:D}{xs:List V}(h:RepL K M H [d,e] xs):∃v w,xs=[v,w]/\RepV K M H d v/\RepV K M H e w:=by
 unfold RepL at h;obtain⟨v,j,rfl,r,l⟩:=h;obtain⟨w,rfl,i⟩:=l.one;exact⟨v,w,rfl,r,i⟩
end
def mt(S:Sto)(F:Am):Am:=λa=>S a≠none\/F a
abbrev cdO(c:Addr)(oc:Obj):HO:=.ext λh=>h.get? c=some oc
def TbOk(M:Am)(H:Hp)(pos:Pos)(qual:Str)(ps:Array ad):Prop:=TriplesOk ps.toList/\(gT pos ps.toList=none \/
 ∃c oc,gT pos ps.toList=some (.ref c)/\¬ M c/\H c=some (cdO c oc)/\∃vs t,oc.data=.fields vs/\vs[1]?=some (.str qual t))
theorem TbOk.keep{M M':Am}{H H':Hp}(k:Keep M H M' H'){pos:Pos}{qual:Str}{ps:Array ad}(h:TbOk M H pos qual ps):TbOk M' H' pos qual ps:=by
 obtain⟨h1,h2⟩:=h;refine⟨h1,h2.imp id λ⟨c,oc,j,m,i,r⟩=>⟨c,oc,j,k.nm c m (by rw[i];exact λz=>by cases z),k.st c _ m i,r⟩⟩
def RepO(K:Fg)(M:Am)(H:Hp)(a:Addr):DO->Prop
 |.lst ds=>∃xs,H a=some (.lst xs)/\RepL K M H ds xs
 |.dk kvs=>∃ks,H a=some (.dK ks)/\br (λ(p:Key×V) (q:Key×D)=>p.1=q.1/\RepV K M H q.2 p.2) ks kvs
 |.dt kvs=>∃ks,H a=some (.dT ks)/\br (λ(p:List Key×V) (q:List Key×D)=>p.1=q.1/\RepV K M H q.2 p.2) ks kvs
 |.tb pos qual=>∃ps,H a=some (.tbl ps)/\TbOk M H pos qual ps
 |.ex f _ _=>f M H a
theorem RepO.live{K:Fg}{M:Am}{H:Hp}{a:Addr}{o:DO}(h:RepO K M H a o):H a≠none:=by
 cases o with
 |ex f i hl=>obtain⟨g,e,_⟩:=hl _ _ _ h;rw[e];exact λz=>by cases z
 |_=>obtain⟨xs,e,_⟩:=h;rw[e];exact λz=>by cases z
theorem RepO.keep{K:Fg}{M M':Am}{H H':Hp}(k:Keep M H M' H'){a:Addr}{o:DO}(e:H' a=H a)(h:RepO K M H a o):RepO K M' H' a o:=by
 cases o with
 |lst ds=>obtain⟨xs,i,l⟩:=h;exact⟨xs,e.trans i,l.keep k⟩
 |dk j=>obtain⟨xs,i,l⟩:=h;exact⟨xs,e.trans i,Paired.imp (λ_ _ z=>⟨z.1,z.2.keep k⟩) l⟩
 |dt j=>obtain⟨xs,i,l⟩:=h;exact⟨xs,e.trans i,Paired.imp (λ_ _ z=>⟨z.1,z.2.keep k⟩) l⟩
 |tb pos qual=>obtain⟨xs,i,l⟩:=h;exact⟨xs,e.trans i,l.keep k⟩
 |ex f v hl=>exact v _ _ _ _ _ k e h
def Clt:HO->Prop
 |.lst _=>True
 |.ext _=>True
 |_=>False
structure Rp(K:Fg)(F:Am)(S:Sto)(H:Hp):Prop where
 obj:∀a o,S a=some o->RepO K (mt S F) H a o
 frm:∀a,F a->(∃u,H a=some u/\Clt u)/\S a=none
structure Ext(S:Sto)(H:Hp)(S':Sto)(H':Hp):Prop where
 keep:∀a o,S a=none->H a=some o->H' a=some o
 live:∀a,H a≠none->H' a≠none
 new:∀a,S' a≠none->S a≠none\/H a=none
theorem Ext.refl(S:Sto)(H:Hp):Ext S H S H:=⟨λ_ _ _ h=>h,λ_ h=>h,λ_ h=>.inl h⟩
theorem Ext.sn{S S':Sto}{H H':Hp}(x:Ext S H S' H'){a:Addr}(h:S a=none)(h':H a≠none):S' a=none:=by
 cases e:S' a with
 |none=>rfl
 |some o =>
  rcases x.new a (by rw[e];exact λz=>by cases z) with z|z
  ·exact absurd h z
  ·exact absurd z h'
theorem Ext.trans{S S1 S2:Sto}{H H1 H2:Hp}(x:Ext S H S1 H1)(y:Ext S1 H1 S2 H2):Ext S H S2 H2 :=
 ⟨λa o h h'=>y.keep a o (x.sn h (by rw[h'];exact λz=>by cases z)) (x.keep a o h h'),λa h=>y.live a (x.live a h),λa h=>by
  rcases y.new a h with z|z
  ·exact x.new a z
  ·refine .inr (aY λn=>x.live a n z)⟩
theorem Ext.same{S:Sto}{H H':Hp}(s:Same H H'):Ext S H S H' where
 keep:=λa o _ h=>s a o h
 live:=λa h=>by
  cases e:H a with
  |none=>exact absurd e h
  |some o =>
   rw[s a o e];exact λz=>by cases z
 new:=λ_ h=>.inl h
theorem Ext.kp{F:Am}{S S':Sto}{H H':Hp}(x:Ext S H S' H'):Keep (mt S F) H (mt S' F) H':=⟨λa o h e=>x.keep a o (aY λn=>h (.inl n)) e,λa h e=>λz=>by
 rcases z with z|z
 ·rcases x.new a z with y|y
  ·exact h (.inl y)
  ·exact e y
 ·exact h (.inr z)⟩
section
variable{K:Fg}{F:Am}{S S':Sto}{H H':Hp}
theorem RepV.ext{d:D}{v:V}(h:RepV K (mt S F) H d v)(x:Ext S H S' H'):RepV K (mt S' F) H' d v:=h.keep x.kp
theorem RepL.ext{ds:List D}{vs:List V}(h:RepL K (mt S F) H ds vs)(x:Ext S H S' H'):RepL K (mt S' F) H' ds vs:=h.keep x.kp
theorem Rp.same(r:Rp K F S H)(s:Same H H'):Rp K F S H' where
 obj:=λa o h=>by
  have q:=r.obj a o h;have e:H' a=H a:=by
   cases z:H a with
   |none=>exact absurd z q.live
   |some u=>exact s a u z
  exact q.keep (Ext.same s).kp e
 frm:=λa h=>by
  obtain⟨⟨zs,e,ct⟩,h2⟩:=r.frm a h;exact⟨⟨zs,s a _ e,ct⟩,h2⟩
theorem Ext.write{a:Addr}{o:DO}{u:HO}(h:S a≠none):Ext S H (supd S a o) (upd H a u) where
 keep:=λb j h1 h2=>by
  have ne:b≠a:=by rintro rfl;exact h h1
  rw[upd_ne ne];exact h2
 live:=λb i=>by
  by_cases e:b=a
  ·subst e;rw[aQ7];exact λz=>by cases z
  ·rw[upd_ne e];exact i
 new:=λb i=>by
  by_cases e:b=a
  ·subst e;exact .inl h
  ·rw[aQ8 e] at i;exact .inl i
theorem Rp.write{a:Addr}{o:DO}{u:HO}(r:Rp K F S H)(h:S a≠none)(q:RepO K (mt (supd S a o) F) (upd H a u) a o):Rp K F (supd S a o) (upd H a u) where
 obj:=λb i hb=>by
  by_cases e:b=a
  ·subst e;rw[aQ5] at hb;cases hb;exact q
  ·rw[aQ8 e] at hb;exact(r.obj b i hb).keep (Ext.write h).kp (upd_ne e)
 frm:=λb hb=>by
  have e:b≠a:=by rintro rfl;exact h (r.frm b hb).2
  rw[upd_ne e,aQ8 e];exact r.frm b hb
theorem Rp.sn(r:Rp K F S H){a:Addr}(h:H a=none):S a=none:=by
 cases e:S a with
 |none=>rfl
 |some o=>exact absurd h (r.obj a o e).live
theorem Ext.mk'{a:Addr}{o:DO}{u:HO}(h:H a=none):Ext S H (supd S a o) (upd H a u) where
 keep:=λb j h1 h2=>by
  have ne:b≠a:=by rintro rfl;rw[h] at h2;cases h2
  rw[upd_ne ne];exact h2
 live:=λb i=>by
  have ne:b≠a:=by rintro rfl;exact i h
  rw[upd_ne ne];exact i
 new:=λb i=>by
  by_cases e:b=a
  ·subst e;exact .inr h
  ·rw[aQ8 e] at i;exact .inl i
theorem Rp.mk'{a:Addr}{o:DO}{u:HO}(r:Rp K F S H)(h:H a=none)(q:RepO K (mt (supd S a o) F) (upd H a u) a o):Rp K F (supd S a o) (upd H a u) where
 obj:=λb i hb=>by
  by_cases e:b=a
  ·subst e;rw[aQ5] at hb;cases hb;exact q
  ·rw[aQ8 e] at hb;exact(r.obj b i hb).keep (Ext.mk' h).kp (upd_ne e)
 frm:=λb hb=>by
  have e:b≠a:=by
   rintro rfl;obtain⟨⟨zs,e,_⟩,_⟩:=r.frm b hb;rw[h] at e;cases e
  rw[upd_ne e,aQ8 e];exact r.frm b hb
theorem Ext.less{S':Sto}(h:∀ a o,S' a=some o->S a=some o):Ext S H S' H:=⟨λ_ _ _ e=>e,λ_ e=>e,λa e=>.inl λz=>by
 cases q:S' a with
 |none=>exact e q
 |some o=>rw[h a o q] at z;cases z⟩
theorem Rp.less{S':Sto}(r:Rp K F S H)(h:∀a o,S' a=some o->S a=some o):Rp K F S' H where
 obj:=λa o e=>(r.obj a o (h a o e)).keep (Ext.less h).kp rfl
 frm:=λa e=>⟨(r.frm a e).1,by
  cases q:S' a with
  |none=>rfl
  |some o=>have:=h a o q;rw[(r.frm a e).2] at this;cases this⟩
end
def look(g:Gm)(i:Nat)(k:D->Prop):Prop:=match i with
 |0=>match g with
  |some d::_=>k d
  |_=>False
 |n+1=>match g with
  |_::g=>look g n k
  |[]=>False
def RepG(K:Fg)(M:Am)(H:Hp):Gm->St->Prop
 |[],σ=>σ=[]
 |none::g,σ=>∃v τ,σ=v::τ/\RepG K M H g τ
 |some d::g,σ=>∃v τ,σ=some v::τ/\RepV K M H d v/\RepG K M H g τ
theorem RepG.keep{K:Fg}{M M':Am}{H H':Hp}(k:Keep M H M' H'):∀{g:Gm}{σ:St},RepG K M H g σ->RepG K M' H' g σ
 |[],_,h=>h
 |none::g,_,⟨v,τ,e,r⟩=>⟨v,τ,e,RepG.keep k r⟩
 |some d::g,_,⟨v,τ,e,q,r⟩=>⟨v,τ,e,q.keep k,RepG.keep k r⟩
theorem RepG.ext{K:Fg}{F:Am}{S S':Sto}{H H':Hp}{g:Gm}{σ:St}(h:RepG K (mt S F) H g σ)(x:Ext S H S' H'):RepG K (mt S' F) H' g σ:=h.keep x.kp
theorem RepG.look{K:Fg}{M:Am}{H:Hp}{k:D->Prop}:∀{g:Gm}{σ:St}{i:Nat},RepG K M H g σ->look g i k->∃v d,σ[i]?=some (some v)/\RepV K M H d v/\k d
 |[],_,0,_,h=>dh h
 |[],_,_+1,_,h=>dh h
 |none::_,_,0,_,h=>dh h
 |some d::g,_,0,⟨v,τ,e,q,r⟩,h=>⟨v,d,by rw[e];rfl,q,h⟩
 |some d::g,_,i+1,⟨v,τ,e,q,r⟩,h=>by
  obtain⟨u,z,j,h1⟩:=RepG.look (i:=i) r h;exact⟨u,z,by rw[e];simpa using j,h1⟩
 |none::g,_,i+1,⟨v,τ,e,r⟩,h=>by
  obtain⟨u,z,j,h1⟩:=RepG.look (i:=i) r h;exact⟨u,z,by rw[e];simpa using j,h1⟩
theorem RepG.set{K:Fg}{M:Am}{H:Hp}{d:D}{v:V}(q:RepV K M H d v):∀{g:Gm}{σ:St}(i:Nat),RepG K M H g σ->RepG K M H (g.set i (some d)) (σ.set i (some v))
 |[],_,_,h=>by cases h;rfl
 |none::g,_,0,⟨w,τ,e,r⟩=>by subst e;exact⟨v,τ,rfl,q,r⟩
 |some _::g,_,0,⟨w,τ,e,_,r⟩=>by subst e;exact⟨v,τ,rfl,q,r⟩
 |none::g,_,i+1,⟨w,τ,e,r⟩=>by subst e;exact⟨w,_,rfl,RepG.set q i r⟩
 |some _::g,_,i+1,⟨w,τ,e,z,r⟩=>by subst e;exact⟨w,_,rfl,z,RepG.set q i r⟩
abbrev DK:=D->Sto->Prop
abbrev ED:=Gm->Sto->DK->Prop
abbrev TD:=Gm->Sto->(Bool->Sto->Prop)->Prop
abbrev AD:=Gm->Sto->(List D->Sto->Prop)->Prop
structure EndsD where
 nx:Gm->Sto->Prop
 rt:DK
 bk:Gm->Sto->Prop:=λ_ _=>False
 ct:Gm->Sto->Prop:=λ_ _=>False
abbrev SD:=EndsD->Gm->Sto->Prop
def upE(K:Fg)(t:ED):TE:=fun σ H Q=>∃F S Γ QD,Rp K F S H/\RepG K (mt S F) H Γ σ/\t Γ S QD/\∀v d H' S',Ext S H S' H'->Rp K F S' H'->RepV K (mt S' F) H' d v->QD d S'->Q v H'
theorem upE.el{K:Fg}{t:ED}{σ:St}{H:Hp}{Q:VK}{p:Prop}(h:upE K t σ H Q)(k:∀F S Γ QD,Rp K F S H->RepG K (mt S F) H Γ σ->t Γ S QD->(∀v d H' S',Ext S H S' H'->Rp K F S' H'->RepV K (mt S' F) H' d v->QD d S'->Q v H')->p):p:=by
 obtain⟨F,S,Γ,QD,h0,h1,h2,i⟩:=h;exact k F S Γ QD h0 h1 h2 i
def upT(K:Fg)(t:TD):TT:=fun σ H Q=>∃F S Γ QD,Rp K F S H/\RepG K (mt S F) H Γ σ/\t Γ S QD/\∀b H' S',Ext S H S' H'->Rp K F S' H'->QD b S'->Q b H'
theorem upT.el{K:Fg}{t:TD}{σ:St}{H:Hp}{Q:Bool->Hp->Prop}{p:Prop}(h:upT K t σ H Q)(k:∀F S Γ QD,Rp K F S H->RepG K (mt S F) H Γ σ->t Γ S QD->(∀b H' S',Ext S H S' H'->Rp K F S' H'->QD b S'->Q b H')->p):p:=by
 obtain⟨F,S,Γ,QD,h0,h1,h2,i⟩:=h;exact k F S Γ QD h0 h1 h2 i
def upA(K:Fg)(t:AD):TA:=fun σ H Q=>∃F S Γ QD,Rp K F S H/\RepG K (mt S F) H Γ σ/\t Γ S QD/\∀vs ds H' S',Ext S H S' H'->Rp K F S' H'->RepL K (mt S' F) H' ds vs->QD ds S'->Q vs H'
theorem upA.el{K:Fg}{t:AD}{σ:St}{H:Hp}{Q:List V->Hp->Prop}{p:Prop}(h:upA K t σ H Q)(k:∀F S Γ QD,Rp K F S H->RepG K (mt S F) H Γ σ->t Γ S QD->(∀vs ds H' S',Ext S H S' H'->Rp K F S' H'->RepL K (mt S' F) H' ds vs->QD ds S'->Q vs H')->p):p:=by
 obtain⟨F,S,Γ,QD,h0,h1,h2,i⟩:=h;exact k F S Γ QD h0 h1 h2 i
structure CnS(K:Fg)(F:Am)(S:Sto)(H:Hp)(E:EndsD)(D':Ends):Prop where
 nx:∀Γ' S' σ' H',Ext S H S' H'->Rp K F S' H'->RepG K (mt S' F) H' Γ' σ'->E.nx Γ' S'->D'.nx σ' H'
 rt:∀v d H' S',Ext S H S' H'->Rp K F S' H'->RepV K (mt S' F) H' d v->E.rt d S'->D'.rt v H'
 bk:∀Γ' S' σ' H',Ext S H S' H'->Rp K F S' H'->RepG K (mt S' F) H' Γ' σ'->E.bk Γ' S'->D'.bk σ' H'
 ct:∀Γ' S' σ' H',Ext S H S' H'->Rp K F S' H'->RepG K (mt S' F) H' Γ' σ'->E.ct Γ' S'->D'.ct σ' H'
theorem CnS.ext{K:Fg}{F:Am}{S S1:Sto}{H H1:Hp}{E:EndsD}{D':Ends}(c:CnS K F S H E D')(x:Ext S H S1 H1):CnS K F S1 H1 E D' :=
 ⟨fun Γ' S' σ' H' y=>c.nx Γ' S' σ' H' (x.trans y),λv d H' S' y=>c.rt v d H' S' (x.trans y),fun Γ' S' σ' H' y=>c.bk Γ' S' σ' H' (x.trans y),fun Γ' S' σ' H' y=>c.ct Γ' S' σ' H' (x.trans y)⟩
def upS(K:Fg)(t:SD):TS:=λD' σ H=>∃F S Γ E,Rp K F S H/\RepG K (mt S F) H Γ σ/\t E Γ S/\CnS K F S H E D'
theorem upS.el{K:Fg}{t:SD}{D':Ends}{σ:St}{H:Hp}{p:Prop}(h:upS K t D' σ H)(k:∀F S Γ E,Rp K F S H->RepG K (mt S F) H Γ σ->t E Γ S->CnS K F S H E D'->p):p:=by
 obtain⟨F,S,Γ,E,h0,h1,h2,i⟩:=h;exact k F S Γ E h0 h1 h2 i
structure PD(K:Fg)(X:Cx)(e:Expr)(t:ED):Prop where
 o:PE X e (upE K t)
structure PTD(K:Fg)(X:Cx)(e:Expr)(t:TD):Prop where
 o:PT X e (upT K t)
structure PAD(K:Fg)(X:Cx)(es:List Expr)(t:AD):Prop where
 o:PA X es (upA K t)
structure PSD(K:Fg)(X:Cx)(st:Stmt)(t:SD):Prop where
 o:PS X st (upS K t)
structure PSsD(K:Fg)(X:Cx)(st:List Stmt)(t:SD):Prop where
 o:PSs X st (upS K t)
section
variable{X:Cx}{K:Fg}
theorem PD.of{e:Expr}{te:TE}{t:ED}(h:PE X e te)(i:∀σ H Q,upE K t σ H Q->te σ H Q):PD K X e t:=⟨λpins s σ H Q I q=>h pins s σ H Q I (i σ H Q q)⟩
theorem PTD.of{e:Expr}{te:TT}{t:TD}(h:PT X e te)(i:∀σ H Q,upT K t σ H Q->te σ H Q):PTD K X e t:=⟨λpins s σ H Q I q=>h pins s σ H Q I (i σ H Q q)⟩
theorem PAD.of{e:List Expr}{te:TA}{t:AD}(h:PA X e te)(i:∀σ H Q,upA K t σ H Q->te σ H Q):PAD K X e t:=⟨λpos pins s σ H Q I q=>h pos pins s σ H Q I (i σ H Q q)⟩
theorem PSD.of{e:Stmt}{te:TS}{t:SD}(h:PS X e te)(i:∀D' σ H,upS K t D' σ H->te D' σ H):PSD K X e t:=⟨λpins s σ H D' I q=>h pins s σ H D' I (i D' σ H q)⟩
theorem PSsD.of{e:List Stmt}{te:TS}{t:SD}(h:PSs X e te)(i:∀D' σ H,upS K t D' σ H->te D' σ H):PSsD K X e t:=⟨λpins s σ H D' I q=>h pins s σ H D' I (i D' σ H q)⟩
def dVar(i:Nat):ED:=fun Γ S Q=>look Γ i λd=>Q d S
def dC(d:D):ED:=λ_ S Q=>Q d S
theorem dv(i:Nat){x:Str}{pos:Pos}(hN:X.N[i]?=some x:=by rfl)(hv:Vis X.env.scope x:=by first|exact bA rfl|exact ic (bA rfl)|exact ic (ic rfl))(hd:(x==("__debug__":Str))=false:=by decide)
  (hcd:(x==("__classdict__":Str))=false:=by decide):PD K X (.Name x pos) (dVar i):=.of (eZm hN hv hd hcd) fun σ H Q j=>j.el λF S Γ QD r g h c=>by
 obtain⟨v,d,e,q,z⟩:=g.look h;exact⟨v,e,c v d H S (Ext.refl _ _) r q z⟩
theorem up_c{d:D}{v:V}(h:∀M H,RepV K M H d v):∀σ H Q,upE K (dC d) σ H Q->tC v σ H Q:=fun σ H Q i=>i.el λF S Γ QD r g q c=>c v d H S (Ext.refl _ _) r (h _ _) q
theorem aQ4{i j pos}:PD K X (.Constant (.int i) j pos) (dC (.int i)):=.of eZn (up_c λ_ _=>by unfold RepV;rfl)
theorem e_bl{b j pos}:PD K X (.Constant (.bool b) j pos) (dC (.bl b)):=.of fQm (up_c λ_ _=>by unfold RepV;rfl)
theorem cXm{j pos}:PD K X (.Constant .none j pos) (dC .non):=.of eZo (up_c λ_ _=>by unfold RepV;rfl)
theorem aXm{x j pos}:PD K X (.Constant (.str x) j pos) (dC (.str x)):=.of eZp (up_c λ_ _=>by unfold RepV;rfl)
def Cn(K:Fg)(F:Am)(S:Sto)(H:Hp)(QD:DK)(Q:VK):Prop:=∀v d H' S',Ext S H S' H'->Rp K F S' H'->RepV K (mt S' F) H' d v->QD d S'->Q v H'
abbrev R2D:=D->D->Sto->DK->Prop
def OpD(K:Fg)(r:R2)(rd:R2D):Prop:=∀F S H d e x y Q QD,Rp K F S H->RepV K (mt S F) H d x->RepV K (mt S F) H e y->rd d e S QD->Cn K F S H QD Q->r x y H Q
def dOp(rd:R2D)(ta tb:ED):ED:=fun Γ S Q=>ta Γ S λx S1=>tb Γ S1 λy S2=>rd x y S2 Q
theorem dQt{r:R2}{rd:R2D}{ta tb:ED}(h:OpD K r rd):∀σ H Q,upE K (dOp rd ta tb) σ H Q->tOp r (upE K ta) (upE K tb) σ H Q:=fun σ H Q B=>B.el λF S Γ QD r g q c =>
 ⟨F,S,Γ,_,r,g,q,λx d H1 Z j L v1 O=>⟨F,Z,Γ,_,L,g.ext j,O,λy e H2 Y i J v2 N=>h F Y H2 d e x y Q QD J (v1.ext i) v2 N λv z H3 U D=>c v z H3 U (j.trans (i.trans D))⟩⟩
theorem e_op{op:Operator}{r:R2}{rd:R2D}{a b:Expr}{ta tb:ED}{pos:Pos}(ho:OpR X (er op) r)(h:OpD K r rd)(ha:PD K X a ta)(hb:PD K X b tb):PD K X (.BinOp a op b pos) (dOp rd ta tb):=.of (fQu ho ha.o hb.o) (dQt h)
theorem dJq{op:CmpOp}{r:R2}{rd:R2D}{a b:Expr}{ta tb:ED}{pos:Pos}(ho:OpR X (cD op) r)(h:OpD K r rd)(ha:PD K X a ta)(hb:PD K X b tb)(hm:dZ op b=false):PD K X (.Compare a [op] [b] pos) (dOp rd ta tb):=.of (dXu ho ha.o hb.o hm) (dQt h)
def aXn(t:ED):TD:=fun Γ S Q=>t Γ S λd S1=>∃b,d=.bl b/\Q b S1
theorem eJ6{r:R2}{rd:R2D}{ta tb:ED}(h:OpD K r rd):∀ σ H Q,upT K (aXn (dOp rd ta tb)) σ H Q->eX7 (tOp r (upE K ta) (upE K tb)) σ H Q:=fun σ H Q q=>dQt (rd:=rd) h σ H _ (by
 obtain⟨F,S,Γ,QD,r,g,q,c⟩:=q;refine⟨F,S,Γ,_,r,g,q,λv d H1 B i j v1 ⟨b,e,z⟩=>?_⟩;subst e;unfold RepV at v1;exact⟨b,v1,c b H1 B i j z⟩)
theorem aX9{op:CmpOp}{r:R2}{rd:R2D}{a b:Expr}{ta tb:ED}{pos:Pos}(ho:OpR X (cD op) r)(h:OpD K r rd)(ha:PD K X a ta)(hb:PD K X b tb)(hm:dZ op b=false):PTD K X (.Compare a [op] [b] pos) (aXn (dOp rd ta tb)):=.of (dXv ho ha.o hb.o hm) (eJ6 h)
end
end L2
set_option maxHeartbeats 4000000
namespace L2
open PySem PySem.Spec PyProof.Rows
section
variable{K:Fg}{F:Am}{S:Sto}{H:Hp}{QD:DK}{Q:VK}
theorem Cn.here(c:Cn K F S H QD Q)(r:Rp K F S H){d:D}{v:V}(h:RepV K (mt S F) H d v)(q:QD d S):Q v H:=c v d H S (Ext.refl _ _) r h q
theorem Cn.int(c:Cn K F S H QD Q)(r:Rp K F S H){i:Int}(q:QD (.int i) S):Q (.int i) H:=c.here r (by unfold RepV;rfl) q
theorem Cn.str(c:Cn K F S H QD Q)(r:Rp K F S H){i:Str}(q:QD (.str i) S):Q (.str i) H:=c.here r (by unfold RepV;rfl) q
theorem Cn.bl(c:Cn K F S H QD Q)(r:Rp K F S H){i:Bool}(q:QD (.bl i) S):Q (.bl i) H:=c.here r (by unfold RepV;rfl) q
theorem Rp.nmt(r:Rp K F S H){a:Addr}(h:H a=none):¬ mt S F a:=λz=>by
 rcases z with z|z
 ·exact z (r.sn h)
 ·obtain⟨⟨zs,e,_⟩,_⟩:=r.frm a z;rw[h] at e;cases e
theorem Cn.tup(c:Cn K F S H QD Q)(r:Rp K F S H){l:Addr}(h:H l=none){ds:List D}{xs:List V}(rl:RepL K (mt S F) H ds xs)(q:QD (.tup ds) S):Q (.ref l) (upd H l (.tup xs)):=by
 have x:Ext S H S (upd H l (.tup xs)):=Ext.same (aQw h);refine c _ _ _ S x (r.same (aQw h)) ?_ q;unfold RepV;exact⟨l,xs,rfl,.inl ⟨r.nmt h,.inl aQ7⟩,rl.ext x⟩
theorem Cn.lst(c:Cn K F S H QD Q)(r:Rp K F S H){l:Addr}(h:H l=none){ds:List D}{xs:List V}(rl:RepL K (mt S F) H ds xs)(q:QD (.lst ds) S):Q (.ref l) (upd H l (.lst xs)):=by
 have x:Ext S H S (upd H l (.lst xs)):=Ext.same (aQw h);refine c _ _ _ S x (r.same (aQw h)) ?_ q;unfold RepV;exact⟨l,xs,rfl,.inl ⟨r.nmt h,.inl aQ7⟩,rl.ext x⟩
theorem Cn.lstR(c:Cn K F S H QD Q)(r:Rp K F S H){l:Addr}(h:H l=none){ds:List D}{xs:List V}(rl:RepL K (mt S F) H ds xs)(q:QD (.ref l) (supd S l (.lst ds))):Q (.ref l) (upd H l (.lst xs)):=by
 have x:Ext S H (supd S l (.lst ds)) (upd H l (.lst xs)):=Ext.mk' h;exact c _ _ _ _ x (r.mk' h ⟨xs,aQ7,rl.ext x⟩) (by unfold RepV;rfl) q
def newL(b:Bool)(ds:List D)(S:Sto)(Q:DK):Prop:=match b with
 |false=>Q (.lst ds) S
 |true=>∀p,S p=none->Q (.ref p) (supd S p (.lst ds))
theorem Cn.new(c:Cn K F S H QD Q)(r:Rp K F S H){b:Bool}{l:Addr}(h:H l=none){ds:List D}{xs:List V}(rl:RepL K (mt S F) H ds xs)(q:newL b ds S QD):Q (.ref l) (upd H l (.lst xs)):=by
 cases b with
 |false=>exact c.lst r h rl q
 |true=>exact c.lstR r h rl (q l (r.sn h))
def lsIs(S:Sto):D->List D->Prop
 |.lst ys,xs=>ys=xs
 |.ref a,xs=>S a=some (.lst xs)
 |_,_=>False
def sqIs(S:Sto):D->List D->Prop
 |.tup ys,xs=>ys=xs
 |.lst ys,xs=>ys=xs
 |.ref a,xs=>S a=some (.lst xs)
 |_,_=>False
theorem lsIs.sl(r:Rp K F S H){d:D}{v:V}{ds:List D}(h:RepV K (mt S F) H d v)(l:lsIs S d ds):∃a xs,v=.ref a/\SqL K H a xs/\RepL K (mt S F) H ds xs:=by
 cases d with
 |lst ys =>
  cases l;unfold RepV at h;obtain⟨a,xs,e,q,z⟩:=h;exact⟨a,xs,e,q.sq,z⟩
 |ref a =>
  unfold RepV at h;obtain⟨xs,e,z⟩:=r.obj a _ l;exact⟨a,xs,h,SqL.of e,z⟩
 |_=>exact l.elim
theorem tup.st{ds:List D}{v:V}(h:RepV K (mt S F) H (.tup ds) v):∃a xs,v=.ref a/\SqT K H a xs/\RepL K (mt S F) H ds xs:=by
 unfold RepV at h;obtain⟨a,xs,e,t,z⟩:=h;exact⟨a,xs,e,t.sq,z⟩
theorem sqIs.sq(r:Rp K F S H){d:D}{v:V}{ds:List D}(h:RepV K (mt S F) H d v)(l:sqIs S d ds):∃a xs,v=.ref a/\(SqL K H a xs\/SqT K H a xs)/\RepL K (mt S F) H ds xs:=by
 cases d with
 |tup ys =>
  cases l;obtain⟨a,xs,e,t,z⟩:=tup.st h;exact⟨a,xs,e,.inr t,z⟩
 |lst ys =>
  obtain⟨a,xs,e,t,z⟩:=lsIs.sl r h (show lsIs S (.lst ys) ds from l)
  exact⟨a,xs,e,.inl t,z⟩
 |ref a =>
  obtain⟨a,xs,e,t,z⟩:=lsIs.sl r h (show lsIs S (.ref a) ds from l)
  exact⟨a,xs,e,.inl t,z⟩
 |_=>exact l.elim
theorem rint{i:Int}{v:V}(h:RepV K (mt S F) H (.int i) v):v=.int i:=by unfold RepV at h;exact h
theorem rstr{i:Str}{v:V}(h:RepV K (mt S F) H (.str i) v):v=.str i:=by unfold RepV at h;exact h
theorem rbl{i:Bool}{v:V}(h:RepV K (mt S F) H (.bl i) v):v=.bl i:=by unfold RepV at h;exact h
theorem rref{i:Addr}{v:V}(h:RepV K (mt S F) H (.ref i) v):v=.ref i:=by unfold RepV at h;exact h
theorem rnon{v:V}(h:RepV K (mt S F) H .non v):v=.non:=by unfold RepV at h;exact h
end
section
variable{X:Cx}{K:Fg}
def eJ7(K:Fg):R2:=λx y H Q=>∃l b xs zs,x=.ref l/\y=.ref b/\SqL K H l xs/\SqL K H b zs/\xs.length+zs.length<=sizeLine/\∀p,H p=none->Q (.ref p) (upd H p (.lst (xs++zs)))
theorem dJr(hK:X.K=K:=by rfl):OpR X (er .Add) (eJ7 K):=by
 subst hK;intro pins s σ H x y v u Q I rx ry h;obtain⟨l,b,xs,zs,rfl,rfl,hH,hB,hz,q⟩:=h;cases rx;cases ry;obtain⟨its,r,⟨⟨cls,dd,data,sl⟩,n,N,O,hd,B⟩,hz1⟩:=I.list hH;obtain⟨i,L,⟨⟨U,dd2,data2,J⟩,Y,z,D,hd2,j⟩,Z⟩:=I.list hB;simp only at O hd B D hd2 j;subst O hd B D hd2 j;have h1:=r.length;have h2:=L.length;refine iX ⟨_,N,rfl⟩ ⟨_,z,rfl⟩ noFill_list_add seq_list_add PySem.F.slot_list_add PySem.F.entry_list_add (PySem.F.args_list_add_2 _ _)
  (list_addW l b its.toArray i.toArray n Y none none sl J (by rw[ar,ar];lia)) ⟨N,z,?_⟩
 have ea:its.toArray++i.toArray=(its++i).toArray:=by simp
 rw[ea];exact⟨.ref _,_,I.lnew (t':=s.toks) (r.append L) (by rw[aA];lia),rfl,q _ I.fresh⟩
def eJ8(K:Fg):R2:=λx y H Q=>∃a b ys,x=.ref a/\y=.ref b/\SqT K H a []/\SqT K H b ys/\Q (.ref b) H
theorem dJs(hK:X.K=K:=by rfl):OpR X (er .Add) (eJ8 K):=by
 subst hK;intro pins s σ H x y v u Q I rx ry h;obtain⟨a,b,ys,rfl,rfl,Z,Y,q⟩:=h;cases rx;cases ry;obtain⟨its,r1,O,_⟩:=I.tuple Z;obtain⟨D,r2,p2,_⟩:=I.tuple Y;cases r1;obtain⟨⟨cls,dd,data,sl⟩,J,L,n,hd⟩:=id O;obtain⟨⟨N,B,data2,z⟩,i,j,U,hd2⟩:=id p2;simp only at L hd j hd2;subst L hd j hd2;exact iX ⟨_,J,rfl⟩ ⟨_,i,rfl⟩ iC seq_tuple_add fX fO (fC _ _)
   (tuple_addW0 a b _ _ n U dd B sl z rfl) ⟨J,i,⟨.ref b,H,I,rfl,q⟩⟩
def addD(b:Bool):R2D:=λd e S Q=>match d,e with
 |.int i,.int j=>Q (.int (i+j)) S
 |.str x,.str y=>x.length+y.length<=sizeLine/\Q (.str (x++y)) S
 |.tup xs,.tup ys=>xs.length+ys.length<=sizeLine/\Q (.tup (xs++ys)) S
 |d,e=>∃xs ys,lsIs S d xs/\lsIs S e ys/\xs.length+ys.length<=sizeLine/\newL b (xs++ys) S Q
def dJt(K:Fg):R2:=λx y H Q=>rI0 (λi j=>.int (i+j)) x y H Q\/(∃i j,x=.str i/\y=.str j/\i.length+j.length<=sizeLine/\Q (.str (i++j)) H)\/dJ0 K x y H Q\/eJ8 K x y H Q\/eJ7 K x y H Q
theorem dJu(hK:X.K=K:=by rfl):OpR X (er .Add) (dJt K):=op_add.or (op_add_str.or ((dQo hK).or ((dJs hK).or (dJr hK))))
theorem eJ9{b:Bool}:OpD K (dJt K) (addD b):=by
 intro F S H d e x y Q QD r hd he h c;have lists:(∃xs ys,lsIs S d xs/\lsIs S e ys/\xs.length+ys.length<=sizeLine/\newL b (xs++ys) S QD)->dJt K x y H Q:=by
  rintro⟨xs,ys,L,J,N,q⟩;obtain⟨a,us,rfl,s1,v⟩:=lsIs.sl r hd L;obtain⟨a2,us2,rfl,s2,p2⟩:=lsIs.sl r he J;exact .inr (.inr (.inr (.inr ⟨a,a2,us,us2,rfl,rfl,s1,s2,by rw[v.length,p2.length];exact N,λp B=>c.new r B (v.app p2) q⟩)))
 cases d with
 |int i =>
  cases e with
  |int j=>rw[rint hd,rint he];exact .inl ⟨i,j,rfl,rfl,c.int r h⟩
  |_=>exact lists h
 |str i =>
  cases e with
  |str j=>rw[rstr hd,rstr he];exact .inr (.inl ⟨i,j,rfl,rfl,h.1,c.str r h.2⟩)
  |_=>exact lists h
 |tup xs =>
  cases e with
  |tup ys =>
   obtain⟨a,us,rfl,s1,v⟩:=tup.st hd;obtain⟨a2,us2,rfl,s2,p2⟩:=tup.st he
   by_cases D:xs=[]
   ·subst D;unfold RepL at v;subst v;exact .inr (.inr (.inr (.inl ⟨a,a2,us2,rfl,rfl,s1,s2,c.here r he (by simpa using h.2)⟩)))
   ·refine .inr (.inr (.inl ⟨a,a2,us,us2,rfl,rfl,s1,s2,λz=>D ?_,by rw[v.length,p2.length];exact h.1,λz=>?_,λ_ p B=>c.tup r B (v.app p2) h.2⟩))
    ·have:=v.length;rw[z] at this;exact bX this.symm
    ·have h0:ys=[]:=by have:=p2.length;rw[z] at this;exact bX this.symm
     subst h0;exact c.here r hd (by simpa using h.2)
  |_=>exact lists h
 |_=>exact lists h
def iiD(C:Int->Int->Prop)(g:Int->Int->D):R2D:=λd e S Q=>match d,e with
 |.int i,.int j=>C i j/\Q (g i j) S
 |_,_=>False
theorem od_I{C:Int->Int->Prop}{g:Int->Int->Int}:OpD K (rI C λi j=>.int (g i j)) (iiD C λi j=>.int (g i j)):=by
 intro F S H d e x y Q QD r hd he h c;cases d with
 |int i =>
  cases e with
  |int j=>rw[rint hd,rint he];exact⟨i,j,rfl,rfl,h.1,c.int r h.2⟩
  |_=>exact h.elim
 |_=>exact h.elim
def iiD0(g:Int->Int->D):R2D:=λd e S Q=>match d,e with
 |.int i,.int j=>Q (g i j) S
 |_,_=>False
theorem fZ7{g:Int->Int->Int}:OpD K (rI0 λi j=>.int (g i j)) (iiD0 λi j=>.int (g i j)):=by
 intro F S H d e x y Q QD r hd he h c;cases d with
 |int i =>
  cases e with
  |int j=>rw[rint hd,rint he];exact⟨i,j,rfl,rfl,c.int r h⟩
  |_=>exact h.elim
 |_=>exact h.elim
theorem dJv{g:Int->Int->Bool}:OpD K (rI0 λi j=>.bl (g i j)) (iiD0 λi j=>.bl (g i j)):=by
 intro F S H d e x y Q QD r hd he h c;cases d with
 |int i =>
  cases e with
  |int j=>rw[rint hd,rint he];exact⟨i,j,rfl,rfl,c.bl r h⟩
  |_=>exact h.elim
 |_=>exact h.elim
section
variable{a b:Expr}{ta tb:ED}{pos:Pos}
theorem aQs{k:Bool}(ha:PD K X a ta)(hb:PD K X b tb)(hK:X.K=K:=by rfl):PD K X (.BinOp a .Add b pos) (dOp (addD k) ta tb):=e_op (dJu hK) eJ9 ha hb
theorem fZ8(ha:PD K X a ta)(hb:PD K X b tb):PD K X (.BinOp a .Sub b pos) (dOp (iiD0 λi j=>.int (i-j)) ta tb):=e_op eX1 fZ7 ha hb
theorem bXy(ha:PD K X a ta)(hb:PD K X b tb):PD K X (.BinOp a .Mult b pos) (dOp (iiD CMul λi j=>.int (i*j)) ta tb):=e_op eX2 od_I ha hb
theorem bZz(ha:PD K X a ta)(hb:PD K X b tb):PD K X (.BinOp a .Mod b pos) (dOp (iiD (λ_ j=>0<j) λi j=>.int (i%j)) ta tb):=e_op eX3 od_I ha hb
theorem cXn(ha:PD K X a ta)(hb:PD K X b tb):PD K X (.BinOp a .FloorDiv b pos) (dOp (iiD CDiv λi j=>.int (i/j)) ta tb):=e_op dXs od_I ha hb
theorem fZ9(ha:PD K X a ta)(hb:PD K X b tb):PD K X (.BinOp a .Pow b pos) (dOp (iiD CPow λi j=>.int (i^j.toNat)) ta tb):=e_op eX4 od_I ha hb
end
def unD(g:Int->D):D->Sto->DK->Prop:=λd S Q=>match d with
 |.int i=>Q (g i) S
 |_=>False
def dUn(rd:D->Sto->DK->Prop)(ta:ED):ED:=fun Γ S Q=>ta Γ S λx S1=>rd x S1 Q
theorem fZa{a:Expr}{ta:ED}{pos:Pos}(ha:PD K X a ta):PD K X (.UnaryOp .USub a pos) (dUn (unD λi=>.int (-i)) ta):=.of (fQv eX5 ha.o) fun σ H Q B=>B.el λF S Γ QD r g q c =>
 ⟨F,S,Γ,_,r,g,q,λv d H1 U J L v1 j=>by
  cases d with
  |int i=>rw[rint v1];exact⟨i,rfl,Cn.int (λv z O N D=>c v z O N (J.trans D)) L j⟩
  |_=>exact j.elim⟩
def dNil:AD:=λ_ S Q=>Q [] S
def bXz(ta:ED)(tr:AD):AD:=fun Γ S Q=>ta Γ S λx S1=>tr Γ S1 λxs S2=>Q (x::xs) S2
theorem aQ1:PAD K X [] dNil:=.of bQ6 fun σ H Q i=>i.el λF S Γ QD r g q c=>c [] [] H S (Ext.refl _ _) r RepL.nil q
theorem aQ0{e:Expr}{es:List Expr}{te:ED}{t:AD}(ha:PD K X e te)(hr:PAD K X es t)(hs:az (e::es) X.env=(false,eval e X.env)::az es X.env:=by rfl):PAD K X (e::es) (bXz te t) :=
 .of (aXh ha.o hr.o hs) fun σ H Q z=>z.el λF S Γ QD r g q c=>⟨F,S,Γ,_,r,g,q,λv d H1 U j J v1 N=>⟨F,U,Γ,_,J,g.ext j,N,λB ds H2 O i D v2 L=>c (v::B) (d::ds) H2 O (j.trans i) D (RepL.cons (v1.ext i) v2) L⟩⟩
def dTup(t:AD):ED:=fun Γ S Q=>t Γ S λds S1=>ds.length<=sizeLine/\Q (.tup ds) S1
def dLst(b:Bool)(t:AD):ED:=fun Γ S Q=>t Γ S λds S1=>ds.length<=sizeLine/\newL b ds S1 Q
theorem Cn.shift{F:Am}{S S1:Sto}{H H1:Hp}{QD:DK}{Q:VK}(c:∀v d H' S',Ext S H S' H'->Rp K F S' H'->RepV K (mt S' F) H' d v->QD d S'->Q v H')(x:Ext S H S1 H1):Cn K F S1 H1 QD Q:=λv z B j i=>c v z B j (x.trans i)
theorem aZb{es:List Expr}{t:AD}{x1 pos}(h:PAD K X es t):PD K X (.Tuple es x1 pos) (dTup t):=.of (eXa h.o) fun σ H Q j=>j.el λF S Γ QD r g q c =>
 ⟨F,S,Γ,_,r,g,q,λB ds H1 D x1 v v1 i=>⟨by rw[v1.length];exact i.1,λp z=>(Cn.shift c x1).tup v z v1 i.2⟩⟩
theorem bQ4{b:Bool}{es:List Expr}{t:AD}{pos}(h:PAD K X es t):PD K X (.List es pos) (dLst b t):=.of (eXb h.o) fun σ H Q j=>j.el λF S Γ QD r g q c =>
 ⟨F,S,Γ,_,r,g,q,λD ds H1 J v z v1 i=>⟨by rw[v1.length];exact i.1,λp B=>(Cn.shift c v).new z B v1 i.2⟩⟩
abbrev RCD:=List D->Sto->DK->Prop
def aJr(K:Fg)(r:List V->Hp->VK->Prop)(rd:RCD):Prop:=∀F S H ds vs Q QD,Rp K F S H->RepL K (mt S F) H ds vs->rd ds S QD->Cn K F S H QD Q->r vs H Q
def dCB(rd:RCD)(t:AD):ED:=fun Γ S Q=>t Γ S λds S1=>rd ds S1 Q
theorem eJa{r:List V->Hp->VK->Prop}{rd:RCD}{t:AD}(h:aJr K r rd):∀σ H Q,upE K (dCB rd t) σ H Q->tCB r (upA K t) σ H Q:=fun σ H Q i=>i.el λF S Γ QD r g q c =>
 ⟨F,S,Γ,_,r,g,q,λv ds H1 D j z v1 B=>h F D H1 ds v Q QD z v1 B (Cn.shift c j)⟩
theorem aZs{id:String}{r:List V->Hp->VK->Prop}{rd:RCD}{x:Str}{p pos:Pos}{e:Expr}{es:List Expr}{t:AD}(hc:CallR X (.builtin id) r)(h:aJr K r rd)(hg:Gl X x)(hm:X.mg x=none)(hv:cj x=some (.builtin id))(ha:PAD K X (e::es) t)(hn:x ≠ "__name__":=by decide)(hdb:(x==("__debug__":Str))=false:=by decide)
  (he:az (e::es) X.env=(false,eval e X.env)::az es X.env:=by rfl) (hpl:(cx pos (az es X.env)).any (·.1)=false:=by rfl):PD K X (.Call (.Name x p) (e::es) [] pos) (dCB rd t):=.of (bQl hc hg hm hv ha.o hn hdb he hpl) (eJa h)
theorem bQz{T:String}{r:List V->Hp->VK->Prop}{rd:RCD}{x:Str}{p pos:Pos}{e:Expr}{es:List Expr}{t:AD}(hc:CallR X (.type T) r)(h:aJr K r rd)(hg:Gl X x)(hm:X.mg x=none)(hv:cj x=some (.type T))(ha:PAD K X (e::es) t)(hn:x ≠ "__name__":=by decide)(hdb:(x==("__debug__":Str))=false:=by decide)
  (he:az (e::es) X.env=(false,eval e X.env)::az es X.env:=by rfl) (hpl:(cx pos (az es X.env)).any (·.1)=false:=by rfl):PD K X (.Call (.Name x p) (e::es) [] pos) (dCB rd t):=.of (aX6 hc hg hm hv ha.o hn hdb he hpl) (eJa h)
end
mutual
def beqD:D->D->Bool
 |.non,.non=>true
 |.bl a,.bl b=>a==b
 |.int a,.int b=>decide (a=b)
 |.str a,.str b=>decide (a=b)
 |.ty a,.ty b=>decide (a=b)
 |.ref a,.ref b=>decide (a=b)
 |.tup a,.tup b=>bJ0 a b
 |.lst a,.lst b=>bJ0 a b
 |_,_=>false
def bJ0:List D->List D->Bool
 |[],[]=>true
 |a::as,b::bs=>beqD a b&&bJ0 as bs
 |_,_=>false
end
theorem bqE{α:Type}[BEq α][LawfulBEq α]{c:α->D}(inj:∀x y,c x=c y->x=y)(x y:α):(x==y)=true↔c x=c y:=⟨λh=>congrArg c (beq_iff_eq.mp h),λh=>beq_iff_eq.mpr (inj x y h)⟩
theorem bdE{α:Type}{c:α->D}(inj:∀x y,c x=c y->x=y)(x y:α){d:Decidable (x=y)}:@decide (x=y) d=true↔c x=c y:=⟨λh=>congrArg c (of_decide_eq_true h),λh=>decide_eq_true (inj x y h)⟩
theorem bnE{p:Prop}(h:¬ p):false=true↔p:=⟨λz=>absurd z dH,λz=>absurd z h⟩
mutual
theorem cXo:∀{a b:D},beqD a b=true↔a=b
 |.non,b=>by
  cases b with
  |non=>exact⟨λ_=>rfl,λ_=>rfl⟩
  |_=>exact bnE (λh=>by cases h)
 |.bl x,b=>by
  cases b with
  |bl y=>exact bqE (λ_ _ h=>by injection h) x y
  |_=>exact bnE (λh=>by cases h)
 |.int x,b=>by
  cases b with
  |int y=>exact bdE (λ_ _ h=>by injection h) x y
  |_=>exact bnE (λh=>by cases h)
 |.str x,b=>by
  cases b with
  |str y=>exact bdE (λ_ _ h=>by injection h) x y
  |_=>exact bnE (λh=>by cases h)
 |.ty x,b=>by
  cases b with
  |ty y=>exact bdE (λ_ _ h=>by injection h) x y
  |_=>exact bnE (λh=>by cases h)
 |.ref x,b=>by
  cases b with
  |ref y=>exact bdE (λ_ _ h=>by injection h) x y
  |_=>exact bnE (λh=>by cases h)
 |.tup as,b=>by
  cases b with
  |tup bs=>exact beqDs_eq.trans ⟨λh=>congrArg D.tup h,λh=>by injection h⟩
  |_=>exact bnE (λh=>by cases h)
 |.lst as,b=>by
  cases b with
  |lst bs=>exact beqDs_eq.trans ⟨λh=>congrArg D.lst h,λh=>by injection h⟩
  |_=>exact bnE (λh=>by cases h)
theorem beqDs_eq:∀{a b:List D},bJ0 a b=true↔a=b
 |[],b=>by cases b <;> simp[bJ0]
 |a::as,[]=>by simp[bJ0]
 |a::as,b::bs=>by
  simp only[bJ0,a6,List.cons.injEq];rw[cXo,beqDs_eq]
end
instance:DecidableEq D:=λa b=>decidable_of_iff _ (cXo (a:=a) (b:=b))
def okE:Nat->D->D->Bool
 |_,.int _,.int _=>true
 |_,.str _,.str _=>true
 |_,.bl _,.bl _=>true
 |_,.non,.non=>true
 |_,.non,.int _=>true
 |_,.int _,.non=>true
 |_,.non,.str _=>true
 |_,.str _,.non=>true
 |n+1,.non,.tup _=>true
 |n+1,.tup _,.non=>true
 |n+1,.tup xs,.tup ys=>(xs.zip ys).all λp=>okE n p.1 p.2
 |n+1,.lst xs,.lst ys=>(xs.zip ys).all λp=>okE n p.1 p.2
 |_,_,_=>false
abbrev okEs(n:Nat)(xs ys:List D):Bool:=(xs.zip ys).all λp=>okE n p.1 p.2
section
variable{X:Cx}{pins:List (Addr×Obj)}{σ:St}{H:Hp}{s:ak}{M:Am}
structure Eq3(A:a4)(s:ak)(u v:ad)(b:Bool):Prop where
 eq:c5 A s u v b
 rc:SeqAt.RcAt A s u v b
 ne:cA A s u v (!b)
theorem dJw{xs ys:List D}:decide (D.tup xs=D.tup ys)=decide (xs=ys):=by simp
theorem dJx{xs ys:List D}:decide (D.lst xs=D.lst ys)=decide (xs=ys):=by simp
theorem dJy{xs ys:List D}{j:Nat}{a b:D}(h1:xs[j]?=some a)(h2:ys[j]?=some b):(a,b)∈xs.zip ys:=by
 have v:j<xs.length:=by
  rcases Nat.lt_or_ge j xs.length with z|z
  ·exact z
  ·rw[bV z] at h1;cases h1
 have i:j<ys.length:=by
  rcases Nat.lt_or_ge j ys.length with z|z
  ·exact z
  ·rw[bV z] at h2;cases h2
 have L:xs[j]=a:=by rw[ag v] at h1;exact aQ h1
 have J:ys[j]=b:=by rw[ag i] at h2;exact aQ h2
 have B:j<(xs.zip ys).length:=by rw[List.length_zip];lia
 have:(xs.zip ys)[j]=(a,b):=by rw[List.getElem_zip,L,J]
 rw[<- this];exact db B
theorem dX4{n:Nat}{xs ys:List V}{us vs:List ad}{ds es:List D}{A:a4}(p:RepL X.K M H ds xs)(p':RepL X.K M H es ys)(r:Vals xs us)(r':Vals ys vs)(hz:okEs n ds es=true)
  (ih:∀{d e:D}{x y:V}{u v:ad},RepV X.K M H d x->RepV X.K M H e y->RelV x u->RelV y v->okE n d e=true->Eq3 A s u v (decide (d=e))) :
  ∀j (h1:j<us.toArray.size) (h2:j<vs.toArray.size),c5 A s us.toArray[j] vs.toArray[j] (decide (ds[j]?=es[j]?)):=by
 intro j h1 h2;simp only[ar] at h1 h2;have J:j<xs.length:=by have:=r.length;lia
 have B:j<ys.length:=by have:=r'.length;lia
 obtain⟨d,O,rd⟩:=p.get' (ag J);obtain⟨e,N,re⟩:=p'.get' (ag B);obtain⟨u,L,Y⟩:=r.get (ag J);obtain⟨v,ev,U⟩:=r'.get (ag B);have z:us[j]=u:=by rw[ag h1] at L;exact aQ L
 have i:vs[j]=v:=by rw[ag h2] at ev;exact aQ ev
 have:decide (ds[j]?=es[j]?)=decide (d=e):=by rw[O,N];simp
 rw[this];simp only[List.getElem_toArray];rw[z,i];exact(ih rd re Y U (bF.mp hz _ (dJy O N))).eq
theorem dX5{n:Nat}{a b:Addr}{xs ys:List V}{ds es:List D}{A:a4}(I:Inv X pins σ H s)(q:SqL X.K H a xs)(q':SqL X.K H b ys)(p:RepL X.K M H ds xs)(p':RepL X.K M H es ys)(hz:okEs n ds es=true)(hu:A.units+(n+1)<cB)
  (ih:∀{d e:D}{x y:V}{u v:ad},RepV X.K M H d x->RepV X.K M H e y->RelV x u->RelV y v->okE n d e=true->Eq3 A.in1 s u v (decide (d=e))) :
  SeqAt.RcAt A s (.ref a) (.ref b) (decide (ds=es))/\cA A s (.ref a) (.ref b) (!decide (ds=es)):=by
 obtain⟨us,N,pl,_⟩:=I.list q;obtain⟨vs,L,i,_⟩:=I.list q';have Z:=p.length;have Y:=p'.length;have U:=N.length;have O:=L.length;have it:=dX4 (A:=A.in1) p p' N L hz ih
 by_cases hl:ds.length=es.length
 ·have z:us.toArray.size=vs.toArray.size:=by rw[ar,ar];lia
  have J:((a7 (us.toArray.size)).all λj=>decide (ds[j]?=es[j]?))=decide (ds=es):=by
   have:=cZy ds es us.toArray.size vs.toArray.size (by rw[ar];lia) (by rw[ar];lia)
   rw[z,Nat.min_self] at this;rw[z,<- this];simp
  have h1:=SeqAt.RcAt.lists (e:=λj=>decide (ds[j]?=es[j]?)) pl.isList i.isList z (show A.units<cB by lia) λj h1 h2=>it j h1 h2
  have h2:=cA.lists (e:=λj=>decide (ds[j]?=es[j]?)) pl.isList i.isList z (show A.units<cB by lia) λj h1 h2=>it j h1 h2
  rw[J] at h1 h2;exact⟨h1,h2⟩
 ·have z:(us.toArray.size !=vs.toArray.size)=true:=by rw[ar,ar];simp;lia
  have B:ds≠es:=λe=>hl (by rw[e])
  rw[decide_eq_false B];exact⟨SeqAt.RcAt.lists_lengths pl.isList i.isList z (by lia),cA.lists_lengths pl.isList i.isList z (by lia)⟩
theorem dJz{n:Nat}(ih:∀{d e:D}{v:V},RepV X.K M H d v->RepV X.K M H e v->okE n d e=true->d=e):∀{ds es:List D}{xs:List V},RepL X.K M H ds xs->RepL X.K M H es xs->okEs n ds es=true->ds=es
 |[],[],_,_,_,_=>rfl
 |[],e::es,xs,p,i,_=>by have h1:=p.length;have h2:=i.length;rw[h1] at h2;simp at h2
 |d::ds,[],xs,p,i,_=>by have h1:=p.length;have h2:=i.length;rw[h1] at h2;simp at h2
 |d::ds,e::es,xs,p,i,h=>by
  unfold RepL at p i;obtain⟨v,J,rfl,r,l⟩:=p;obtain⟨L,j,e1,z,B⟩:=i;cases e1;simp only[okEs,eX,List.all_cons,a6] at h;rw[ih r z h.1,dJz ih l B h.2]
theorem uniq(I:Inv X pins σ H s):∀(n:Nat) {d e:D}{v:V},RepV X.K M H d v->RepV X.K M H e v->okE n d e=true->d=e:=by
 intro n
 induction n with
 |zero =>
  intro d e v h h' o;cases d <;> cases e <;> first|rfl|(cases o;done)|(unfold RepV at h h';rw[h] at h';cases h';done)|(unfold RepV at h h';rw[h] at h';cases h';rfl)
 |succ n z =>
  intro d e v h h' o;cases d <;> cases e <;> first|rfl|(cases o;done)|(unfold RepV at h h';rw[h] at h';cases h';done)|(unfold RepV at h h';rw[h] at h';cases h';rfl)|skip
  ·unfold RepV at h h';obtain⟨a,xs,e1,_⟩:=h';rw[h] at e1;cases e1
  ·unfold RepV at h h';obtain⟨a,xs,e1,_⟩:=h;rw[h'] at e1;cases e1
  ·unfold RepV at h h';obtain⟨a,xs,rfl,t,l⟩:=h;obtain⟨b,ys,e1,i,j⟩:=h';cases e1
   have:=I.tuple_inj t.sq i.sq
   subst this;rw[dJz z l j o]
  ·unfold RepV at h h';obtain⟨a,xs,rfl,t,l⟩:=h;obtain⟨b,ys,e1,i,j⟩:=h';cases e1
   have:=I.list_inj t.sq i.sq
   subst this;rw[dJz z l j o]
theorem eq3(I:Inv X pins σ H s):∀(n:Nat) {A:a4}{d e:D}{x y:V}{u v:ad},A.units+n<cB->RepV X.K M H d x->RepV X.K M H e y->RelV x u->RelV y v->okE n d e=true->Eq3 A s u v (decide (d=e)):=by
 intro n
 induction n with
 |zero =>
  intro A d e x y u v hu h h' r r' o;cases d <;> cases e <;> first|(cases o;done)|skip
  all_goals unfold RepV at h h';subst h;subst h'
  ·cases r;cases r';exact⟨jf _,SeqAt.RcAt.none_none,cA.none_none⟩
  ·cases r;obtain⟨t,rfl⟩:=r';exact⟨c5.none_int _ _,SeqAt.RcAt.none_int _ _,cA.none_int _ _⟩
  ·cases r;obtain⟨t,rfl⟩:=r';exact⟨c5.none_str _ _,SeqAt.RcAt.none_str _ _,cA.none_str _ _⟩
  ·cases r;cases r';rw[show ∀a b:Bool,decide (D.bl a=D.bl b)=(a==b) from by intro a b;cases a <;> cases b <;> rfl];exact⟨c5.bool_bool _ _,SeqAt.RcAt.bool_bool _ _,cA.bool_bool _ _⟩
  ·obtain⟨t,rfl⟩:=r;cases r';exact⟨c5.int_none _ _,SeqAt.RcAt.int_none _ _,cA.int_none _ _⟩
  ·obtain⟨t,rfl⟩:=r;obtain⟨J,rfl⟩:=r';rw[show ∀a b:Int,decide (D.int a=D.int b)=(a==b) from by intro a b;rw[beq_dec];simp];exact⟨c5.int_int _ _ _ _,SeqAt.RcAt.int_int _ _ _ _,cA.int_int _ _ _ _⟩
  ·obtain⟨t,rfl⟩:=r;cases r';exact⟨c5.str_none _ _,SeqAt.RcAt.str_none _ _,cA.str_none _ _⟩
  ·obtain⟨t,rfl⟩:=r;obtain⟨J,rfl⟩:=r';rw[show ∀a b:Str,decide (D.str a=D.str b)=(a==b) from by intro a b;rw[beq_dec];simp];exact⟨g9 _ _ _ _,SeqAt.RcAt.str_str _ _ _ _,cA.str_str _ _ _ _⟩
 |succ n j =>
  intro A d e x y u v hu h h' r r' o;cases d <;> cases e <;> first|(cases o;done)|skip
  ·exact j (by lia) h h' r r' (by cases n <;> rfl)
  ·exact j (by lia) h h' r r' (by cases n <;> rfl)
  ·exact j (by lia) h h' r r' (by cases n <;> rfl)
  ·unfold RepV at h;subst h;cases r;obtain⟨a,xs,rfl,t,l⟩:=(show RepV X.K M H (.tup _) y from h')
   cases r';obtain⟨us,N,pl,_⟩:=I.tuple t.sq;exact⟨c5.none_tuple pl (by lia),SeqAt.RcAt.none_tuple pl (by lia),cA.none_tuple pl (by lia)⟩
  ·exact j (by lia) h h' r r' (by cases n <;> rfl)
  ·exact j (by lia) h h' r r' (by cases n <;> rfl)
  ·exact j (by lia) h h' r r' (by cases n <;> rfl)
  ·exact j (by lia) h h' r r' (by cases n <;> rfl)
  ·exact j (by lia) h h' r r' (by cases n <;> rfl)
  ·unfold RepV at h';subst h';cases r';obtain⟨a,xs,rfl,t,l⟩:=(show RepV X.K M H (.tup _) x from h)
   cases r;obtain⟨us,N,pl,_⟩:=I.tuple t.sq;exact⟨c5.tuple_none pl (by lia),SeqAt.RcAt.tuple_none pl (by lia),cA.tuple_none pl (by lia)⟩
  ·rename_i ds es;have un:=λ{e:D}=>uniq (e:=e) I (n+1) h;have h0:=h;have B:=h';unfold RepV at h h';obtain⟨a,xs,rfl,t,l⟩:=h;obtain⟨b,ys,rfl,J,O⟩:=h';cases r;cases r';obtain⟨us,N,pl,_⟩:=I.tuple t.sq;obtain⟨vs,rv,L,_⟩:=I.tuple J.sq;have l1:=l.length;have l2:=O.length;have l3:=N.length;have l4:=rv.length;have it:=dX4 (A:=A.in1) l O N rv o λq Y z U o=>j (show A.units+1+n<cB by lia) q Y z U o
   have Z:=cZy ds es us.toArray.size vs.toArray.size (by rw[ar];lia) (by rw[ar];lia)
   have h1:=SeqAt.RcAt.tuples pl L (show A.units<cB by lia) it
   have h2:=cA.tuples pl L (show A.units<cB by lia) it
   rw[Z] at h1 h2;rw[dJw];refine⟨?_,h1,h2⟩
   by_cases i:a=b
   ·subst i;have e1:=un B o;cases e1;rw[decide_eq_true rfl];exact jf _
   ·exact jC i h1
  ·have un:=λ{e:D}=>uniq (e:=e) I (n+1) h;have B:=h';unfold RepV at h h';obtain⟨a,xs,rfl,t,l⟩:=h;obtain⟨b,ys,rfl,J,O⟩:=h';cases r;cases r';obtain⟨h1,h2⟩:=dX5 (A:=A) (n:=n) I t.sq J.sq l O o hu λq Y z U o=>j (show A.units+1+n<cB by lia) q Y z U o
   rw[dJx];refine⟨?_,h1,h2⟩
   by_cases i:a=b
   ·subst i;have e1:=un B o;cases e1;rw[decide_eq_true rfl];exact jf _
   ·exact jC i h1
def eqD(neg:Bool):R2D:=λd e S Q=>match d,e with
 |.ref a,e=>∃xs ys,S a=some (.lst xs)/\lsIs S e ys/\okEs 8 xs ys=true/\Q (.bl (if neg then !decide (xs=ys) else decide (xs=ys))) S
 |.lst xs,.ref a=>∃ys,S a=some (.lst ys)/\okEs 8 xs ys=true/\Q (.bl (if neg then !decide (xs=ys) else decide (xs=ys))) S
 |d,e=>okE 9 d e=true/\Q (.bl (if neg then !decide (d=e) else decide (d=e))) S
def rEqA(K:Fg)(neg:Bool):R2:=λx y H Q=>∃b,(∀{X:Cx}{pins:List (Addr×Obj)}{σ:St}{s:ak},Inv X pins σ H s->X.K=K->∀{u v:ad},RelV x u->RelV y v->∀A:a4,A.units+9<cB->SeqAt.RcAt A s u v b/\cA A s u v (!b))/\Q (.bl (if neg then !b else b)) H
theorem dX6{K:Fg}(hu:X.A.units+9<cB)(hK:X.K=K:=by rfl):OpR X (cD .Eq) (rEqA K false):=by
 intro pins s σ H x y v u Q I j i ⟨b,h,q⟩;exact(h I hK j i X.A hu).1 _ _ _ _ ⟨.bl b,H,I,rfl,q⟩
theorem eJb{K:Fg}(hu:X.A.units+9<cB)(hK:X.K=K:=by rfl):OpR X (cD .NotEq) (rEqA K true):=by
 intro pins s σ H x y v u Q I j i ⟨b,h,q⟩;exact(h I hK j i X.A hu).2 _ _ _ _ ⟨.bl (!b),H,I,rfl,q⟩
theorem eQ0{K:Fg}{neg:Bool}:OpD K (rEqA K neg) (eqD neg):=by
 intro F S H d e x y Q QD r hd he h c;have lists:∀{xs ys:List D},lsIs S d xs->lsIs S e ys->okEs 8 xs ys=true->QD (.bl (if neg then !decide (xs=ys) else decide (xs=ys))) S->rEqA K neg x y H Q:=by
  intro xs ys Y U o q;obtain⟨a,us,rfl,s1,O⟩:=lsIs.sl r hd Y;obtain⟨a2,us2,rfl,s2,p2⟩:=lsIs.sl r he U;refine⟨_,λ{X pins σ s} I i u v ru rv A j=>?_,c.bl r q⟩;subst i;cases ru;cases rv;exact dX5 I s1 s2 O p2 o j λq N z L o=>eq3 I 8 (show A.units+1+8<cB by lia) q N z L o
 have plain:okE 9 d e=true->QD (.bl (if neg then !decide (d=e) else decide (d=e))) S->rEqA K neg x y H Q:=by
  intro o q;refine⟨_,λ{X pins σ s} I i u v ru rv A j=>?_,c.bl r q⟩;subst i
  have:=eq3 I 9 j hd he ru rv o
  exact⟨this.rc,this.ne⟩
 cases d with
 |ref a=>obtain⟨xs,ys,h1,h2,J,B⟩:=h;exact lists h1 h2 J B
 |lst xs =>
  cases e with
  |ref a=>obtain⟨ys,h2,J,B⟩:=h;exact lists rfl h2 J B
  |_=>exact plain h.1 h.2
 |_=>exact plain h.1 h.2
mutual
def plain:D->Bool
 |.non=>true
 |.bl _=>true
 |.int _=>true
 |.str _=>true
 |.tup xs=>aZf xs
 |_=>false
def aZf:List D->Bool
 |[]=>true
 |x::xs=>plain x&&aZf xs
end
mutual
theorem cQ7(I:Inv X pins σ H s):∀{d e:D}{v:V},plain d=true->plain e=true->RepV X.K M H d v->RepV X.K M H e v->d=e
 |.tup ds,e,v,p,p',h,h'=>by
  cases e with
  |tup es =>
   unfold RepV at h h';obtain⟨a,xs,rfl,t,l⟩:=h;obtain⟨b,ys,e1,i,j⟩:=h';cases e1
   have:=I.tuple_inj t.sq i.sq
   subst this;unfold plain at p p';rw[bX0 I p p' l j]
  |lst _=>cases p'
  |ref _=>cases p'
  |ty _=>cases p'
  |_ =>
   unfold RepV at h h';obtain⟨a,xs,e1,_⟩:=h;rw[h'] at e1;cases e1
 |.non,e,v,p,p',h,h'=>by
  cases e <;> first|rfl|(cases p';done)|(unfold RepV at h h';rw[h] at h';cases h';done)|(unfold RepV at h h';obtain⟨a,xs,e1,_⟩:=h';rw[h] at e1;cases e1)
 |.bl _,e,v,p,p',h,h'=>by
  cases e <;> first|(cases p';done)|(unfold RepV at h h';rw[h] at h';cases h';done)|(unfold RepV at h h';rw[h] at h';cases h';rfl)|(unfold RepV at h h';obtain⟨a,xs,e1,_⟩:=h';rw[h] at e1;cases e1)
 |.int _,e,v,p,p',h,h'=>by
  cases e <;> first|(cases p';done)|(unfold RepV at h h';rw[h] at h';cases h';done)|(unfold RepV at h h';rw[h] at h';cases h';rfl)|(unfold RepV at h h';obtain⟨a,xs,e1,_⟩:=h';rw[h] at e1;cases e1)
 |.str _,e,v,p,p',h,h'=>by
  cases e <;> first|(cases p';done)|(unfold RepV at h h';rw[h] at h';cases h';done)|(unfold RepV at h h';rw[h] at h';cases h';rfl)|(unfold RepV at h h';obtain⟨a,xs,e1,_⟩:=h';rw[h] at e1;cases e1)
 |.ty _,e,v,p,p',h,h'=>by cases p
 |.ref _,e,v,p,p',h,h'=>by cases p
 |.lst _,e,v,p,p',h,h'=>by cases p
theorem bX0(I:Inv X pins σ H s):∀{ds es:List D}{vs:List V},aZf ds=true->aZf es=true->RepL X.K M H ds vs->RepL X.K M H es vs->ds=es
 |[],es,vs,p,j,l,i=>by
  have h1:=l.length;have h2:=i.length;rw[h1] at h2;exact(bX h2.symm).symm
 |d::ds,[],vs,p,j,l,i=>by have h1:=l.length;have h2:=i.length;rw[h1] at h2;simp at h2
 |d::ds,e::es,vs,p,j,l,i=>by
  unfold RepL at l i;obtain⟨v,vs,rfl,r,l⟩:=l;obtain⟨J,z,e1,B,i⟩:=i;cases e1;simp only[aZf,a6] at p j;rw[cQ7 I p.1 j.1 r B,bX0 I p.2 j.2 l i]
end
theorem aXo:∀{ds:List D},aZf ds=true->∀d∈ds,plain d=true
 |[],_,d,h=>by cases h
 |x::ds,p,d,h=>by
  simp only[aZf,a6] at p;rcases aK.mp h with rfl|h
  ·exact p.1
  ·exact aXo p.2 d h
def rInA(K:Fg)(neg:Bool):R2:=λx y H Q=>∃p xs b,y=.ref p/\(SqL K H p xs\/SqT K H p xs) /\
 (∀{X:Cx}{pins:List (Addr×Obj)}{σ:St}{s:ak},Inv X pins σ H s->X.K=K->∀{v:ad}{us:List ad},RelV x v->Vals xs us->∀A:a4,A.units+9<cB->∃f:ad->Bool,(∀u∈us,c5 A s u v (f u))/\us.any f=b)/\Q (.bl (if neg then !b else b)) H
theorem dX7{K:Fg}(hu:X.A.units+10<cB)(hK:X.K=K:=by rfl):OpR X (cD .In) (rInA K false):=by
 intro pins s σ H x y v u Q I j ry h;obtain⟨p,xs,b,rfl,i,hf,q⟩:=h;cases ry;rw[<- hK] at i;rcases i with i|i
 ·obtain⟨its,r,pl,z⟩:=I.list i;obtain⟨f,f1,f2⟩:=hf I hK j r X.A.in1 (show X.A.units+1+9<cB by lia)
  refine SeqAt.in_listAt f pl.isList (λw hw=>f1 w (by simpa using hw)) ⟨.bl _,H,I,rfl,?_⟩
  rw[show its.toArray.any f=its.any f by simp,f2]
  exact q
 ·obtain⟨its,r,pl,z⟩:=I.tuple i;obtain⟨f,f1,f2⟩:=hf I hK j r X.A.in1 (show X.A.units+1+9<cB by lia)
  refine SeqAt.in_tupleAt f pl (λw hw=>f1 w (by simpa using hw)) ⟨.bl _,H,I,rfl,?_⟩
  rw[show its.toArray.any f=its.any f by simp,f2]
  exact q
theorem eQ1{K:Fg}(hu:X.A.units+10<cB)(hK:X.K=K:=by rfl):OpR X (cD .NotIn) (rInA K true):=by
 intro pins s σ H x y v u Q I j ry h;obtain⟨p,xs,b,rfl,i,hf,q⟩:=h;cases ry;rw[<- hK] at i;rcases i with i|i
 ·obtain⟨its,r,pl,z⟩:=I.list i;obtain⟨f,f1,f2⟩:=hf I hK j r X.A.in1 (show X.A.units+1+9<cB by lia)
  refine SeqAt.notIn_listAt f pl.isList (λw hw=>f1 w (by simpa using hw)) ⟨.bl _,H,I,rfl,?_⟩
  rw[show its.toArray.any f=its.any f by simp,f2]
  exact q
 ·obtain⟨its,r,pl,z⟩:=I.tuple i;obtain⟨f,f1,f2⟩:=hf I hK j r X.A.in1 (show X.A.units+1+9<cB by lia)
  refine SeqAt.notIn_tupleAt f pl (λw hw=>f1 w (by simpa using hw)) ⟨.bl _,H,I,rfl,?_⟩
  rw[show its.toArray.any f=its.any f by simp,f2]
  exact q
def inD(neg:Bool):R2D:=λd e S Q=>∃xs,sqIs S e xs/\aZf xs=true/\(xs.all λy=>okE 8 y d)=true/\Q (.bl (if neg then !decide (d∈xs) else decide (d∈xs))) S
theorem eJc(I:Inv X pins σ H s){d:D}{x:V}{v:ad}(rx:RelV x v)(hd:RepV X.K M H d x){A:a4}(hA:A.units+9<cB):∀{xs:List V}{us:List ad}{ds:List D},RepL X.K M H ds xs->Vals xs us->aZf ds=true->(ds.all λy=>okE 8 y d)=true ->
  ∃f:ad->Bool,(∀u∈us,c5 A s u v (f u))/\us.any f=decide (d∈ds):=by
 classical
 intro xs us ds l r p o;have key:∀{y:V}{u:ad}{e:D},e∈ds->RepV X.K M H e y->RelV y u->decide (∃y e,e∈ds/\RepV X.K M H e y/\RelV y u/\e=d)=decide (e=d):=by
  intro y u e hm he j
  congr 1
  refine propext ⟨λ⟨y',Z,J,h1,h2,U⟩=>?_,λh=>⟨y,e,hm,he,j,h⟩⟩
  have:=h2.inj j
  subst this;rw[<- U];exact cQ7 I (aXo p e hm) (aXo p Z J) he h1
 refine⟨λu=>decide (∃y e,e∈ds/\RepV X.K M H e y/\RelV y u/\e=d),?_,?_⟩
 ·intro u O;obtain⟨i,hi,rfl⟩:=be O;have h1:=r.length;have h2:=l.length;obtain⟨e,Y,re⟩:=l.get' (ag (show i<xs.length by lia))
  obtain⟨u',eu,j⟩:=r.get (ag (show i<xs.length by lia))
  rw[ag hi] at eu;cases eu;have hm:e∈ds:=ao Y;show c5 A s us[i] v (decide (∃y e,e∈ds/\RepV X.K M H e y/\RelV y us[i]/\e=d));rw[key hm re j];exact(eq3 I 8 (by lia) re hd j rx (bF.mp o e hm)).eq
 ·have gen:∀{zs:List V}{ws:List ad}{es:List D},RepL X.K M H es zs->Vals zs ws->(∀e∈es,e∈ds)->ws.any (λu=>decide (∃y e,e∈ds/\RepV X.K M H e y/\RelV y u/\e=d))=decide (d∈es):=by
   intro zs ws es
   induction es generalizing zs ws with
   |nil =>
    intro l r _;unfold RepL at l;subst l;cases r;simp
   |cons e es N =>
    intro l r hm;unfold RepL at l;obtain⟨z,zs,rfl,B,L⟩:=l;cases r with
    |cons q t =>
     rw[List.any_cons,key (hm e aq) B q,N L t λe he=>hm e (ay _ he)]
     by_cases h:e=d
     ·simp[h]
     ·have h':¬ d=e:=λz=>h z.symm;simp[h,h']
  exact gen l r λ_ h=>h
theorem eQ2{K:Fg}{neg:Bool}:OpD K (rInA K neg) (inD neg):=by
 intro F S H d e x y Q QD r hd he ⟨ds,z,p,o,q⟩ c;obtain⟨a,xs,rfl,sq,l⟩:=z.sq r he;refine⟨a,xs,decide (d∈ds),rfl,sq,λ{X pins σ s} I B {v us} i j A D=>?_,c.bl r q⟩;subst B;exact eJc I i hd D l j p o
variable{K:Fg}{a b:Expr}{ta tb:ED}{pos:Pos}{k:Nat}
theorem lt10{n:Nat}{A:a4}(r:Room k A)(h:n<=64:=by decide):A.units+n<cB:=by have:=r.units;lia
theorem e_eq(hr:Room k X.A)(ha:PD K X a ta)(hb:PD K X b tb)(hK:X.K=K:=by rfl):PD K X (.Compare a [.Eq] [b] pos) (dOp (eqD false) ta tb):=dJq (dX6 (lt10 hr) hK) eQ0 ha hb (nomark _)
theorem fZb(hr:Room k X.A)(ha:PD K X a ta)(hb:PD K X b tb)(hK:X.K=K:=by rfl):PTD K X (.Compare a [.Eq] [b] pos) (aXn (dOp (eqD false) ta tb)):=aX9 (dX6 (lt10 hr) hK) eQ0 ha hb (nomark _)
theorem cXp(hr:Room k X.A)(ha:PD K X a ta)(hb:PD K X b tb)(hK:X.K=K:=by rfl):PTD K X (.Compare a [.NotEq] [b] pos) (aXn (dOp (eqD true) ta tb)):=aX9 (eJb (lt10 hr) hK) eQ0 ha hb (nomark _)
theorem e_in(hr:Room k X.A)(ha:PD K X a ta)(hb:PD K X b tb)(hm:dZ .In b=false:=by rfl)(hK:X.K=K:=by rfl):PD K X (.Compare a [.In] [b] pos) (dOp (inD false) ta tb):=dJq (dX7 (lt10 hr) hK) eQ2 ha hb hm
theorem eQ3(hr:Room k X.A)(ha:PD K X a ta)(hb:PD K X b tb)(hm:dZ .In b=false:=by rfl)(hK:X.K=K:=by rfl):PTD K X (.Compare a [.In] [b] pos) (aXn (dOp (inD false) ta tb)):=aX9 (dX7 (lt10 hr) hK) eQ2 ha hb hm
theorem dX8(hr:Room k X.A)(ha:PD K X a ta)(hb:PD K X b tb)(hm:dZ .NotIn b=false:=by rfl)(hK:X.K=K:=by rfl):PTD K X (.Compare a [.NotIn] [b] pos) (aXn (dOp (inD true) ta tb)):=aX9 (eQ1 (lt10 hr) hK) eQ2 ha hb hm
end
end L2
namespace HT
open PySem PySem.Spec PyProof.Rows
section
variable{prog:aF}{w:aS}{A:a4}{E:ad->ak->Prop}{s:ak}
theorem tup_slice{t sl:Addr}{items:Array ad}{Q:ad->ak->Prop}(ht:iA s.heap t items)(hTs:s.TypeIs (.ref sl) "slice")
    (h:∀ A,aG (aE prog w) A (fk (.ref sl) (pure (items.size:Int))) (λr s'=>s'=s /\
      ((r.1=0 /\ r.2.1=1 /\ r.2.2=items.size /\ Q (.ref t) s) \/
       (¬ (r.1==0&&r.2.1==1&&r.2.2==items.size)=true/\sizeOk (.seq ((a7 r.2.2).filterMap λ(k:Nat)=>items[(r.1+(k:Int)*r.2.1).toNat]?).toArray)/\Q (.ref s.heap.objs.size) {s with heap:=s.heap.push {cls:=.type "tuple",data:=.seq ((a7 r.2.2).filterMap λ(k:Nat)=>items[(r.1+(k:Int)*r.2.1).toNat]?).toArray}}))) E s) :
    aG (aE prog w) A (iY (.ref t) (.ref sl)) Q E s:=by
  unfold iY
  try with_reducible refine bn ?_
  first|refine aa (af ?_)|skip
  refine aa (wpAny_sequenceKey ht.typeIs (by decide) ?_)
  refine aa (fP (name:=Str.ofString "__getitem__") ht.typeIs ci
    (d0 ci ht.typeIs entry_tuple_getitem ?_ (args_tuple_getitem _ _)))
  show aG _ _ (gZ (.ref t)>>=_) _ _ s;refine aa (tupleItemsOf_ ht (aa (fY hTs ?_)));rw [if_pos (by decide)]
  refine aa (cT (h _) (λr s' ⟨e,q⟩=>?_) λ_ _ x=>x);subst e;obtain⟨lo,st,n⟩:=r;show aG _ _ (if (lo==0&&st==1&&n==items.size)=true then _ else _) _ _ _
  rcases q with⟨h1,h2,v,q⟩|⟨j,i,q⟩
  · have D:lo=0:=h1
    have B:st=1:=h2;have z:n=items.size:=v;rw [if_pos (by rw [D,B,z]; simp)]
    unfold cR.Tuple.tupleIsExact;refine aa (aa (fY ht.typeIs (af ?_)));rw [if_pos (by decide)]
    refine aa (c7 ?_)
    first
      |exact af ⟨_,rfl,af q⟩
      |exact aa (af ⟨_,rfl,af q⟩)
      |exact aa (af (af ⟨_,rfl,af q⟩))
  · rw [if_neg j]
    first
      |exact aa (m:=cf _) (bu (af ⟨_,rfl,af q⟩) i)
      |exact aa (m:=cf _) (bu (aa (af (af ⟨_,rfl,af q⟩))) i)
      |exact aa (aa (m:=cf _) (bu (af (af ⟨_,rfl,af q⟩)) i))
      |exact aa (aa (m:=cf _) (bu (af ⟨_,rfl,af q⟩) i))
end
end HT
namespace L2
open PySem PySem.Spec PyProof.Rows
section
variable{X:Cx}{K:Fg}
def rSlW(K:Fg):V->Option Int->Option Int->Hp->VK->Prop:=λx lo hi H Q=>∃a xs,x=.ref a/\SqT K H a xs/\HT.sIx xs.length 0 lo=0/\HT.sIx xs.length xs.length hi=xs.length/\Q (.ref a) H
theorem eQ4(hK:X.K=K:=by rfl):SlR X (rSlW K):=by
 subst hK;intro pins s σ H x v O N lo hi sl Q I rx B pl pu h;obtain⟨a,xs,rfl,D,h0,J,q⟩:=h;cases rx;obtain⟨its,r,z,U⟩:=I.tuple D;have hlen:its.toArray.size=xs.length:=by rw[ar];exact r.length.symm
 obtain⟨os,i,j,L⟩:=id B;refine⟨"tuple",_,ci.lookup,z.typeIs,HT.tup_slice z ⟨os,i,j⟩ λA=>HT.sliceApplied_gen B pl pu ⟨rfl,.inl ⟨?_,rfl,?_,.ref a,H,I,rfl,q⟩⟩⟩
 ·show((HT.sIx its.toArray.size 0 lo:Nat):Int)=0;rw[hlen,h0];rfl
 ·show HT.sIx its.toArray.size its.toArray.size hi-HT.sIx its.toArray.size 0 lo=its.toArray.size;rw[hlen,h0,J];rfl
end
end L2
set_option maxHeartbeats 1000000
namespace L2
open PySem PySem.Spec PyProof.Rows
section
variable{X:Cx}{K:Fg}{a b:Expr}{ta tb:ED}{pos:Pos}{k:Nat}
def ltD:R2D:=λd e S Q=>match d,e with
 |.int i,.int j=>Q (.bl (decide (i<j))) S
 |.str x,.str y=>Q (.bl (HT.ltS x y)) S
 |.tup xs,.tup ys=>∃as bs,xs=as.map D.str/\ys=bs.map D.str/\Q (.bl (HT.lexS as bs)) S
 |_,_=>False
def rLtA(K:Fg):R2:=λx y H Q=>rI0 (λi j=>.bl (decide (i<j))) x y H Q\/(∃i j,x=.str i/\y=.str j/\Q (.bl (decide (i.cps.toList<j.cps.toList))) H)\/rLtS K x y H Q
theorem eJd(hu:X.A.units<cB)(hK:X.K=K:=by rfl):OpR X (cD .Lt) (rLtA K):=op_lt.or (op_lt_str.or (dJi hu hK))
theorem bJ1{M:Am}{H:Hp}:∀{as:List Str}{xs:List V},RepL K M H (as.map D.str) xs->br (dS H) xs as
 |[],xs,h=>by rw[fw] at h;unfold RepL at h;subst h;exact .nil
 |a::as,xs,h=>by
  rw[bC] at h;unfold RepL at h;obtain⟨v,i,rfl,r,l⟩:=h;unfold RepV at r;exact .cons r (bJ1 l)
theorem bJ2{S:Sto}{F:Am}{H:Hp}{as:List Str}{v:V}(h:RepV K (mt S F) H (.tup (as.map D.str)) v):dT K dS H v as:=by
 obtain⟨a,xs,rfl,t,l⟩:=tup.st h;exact⟨a,xs,rfl,t,bJ1 l⟩
theorem fZc:OpD K (rLtA K) ltD:=by
 intro F S H d e x y Q QD r hd he h c;cases d with
 |int i =>
  cases e with
  |int j=>rw[rint hd,rint he];exact .inl ⟨i,j,rfl,rfl,c.bl r h⟩
  |_=>exact h.elim
 |str i =>
  cases e with
  |str j=>rw[rstr hd,rstr he];exact .inr (.inl ⟨i,j,rfl,rfl,c.bl r h⟩)
  |_=>exact h.elim
 |tup xs =>
  cases e with
  |tup ys =>
   obtain⟨as,bs,rfl,rfl,q⟩:=h;exact .inr (.inr ⟨as,bs,bJ2 hd,bJ2 he,c.bl r q⟩)
  |_=>exact h.elim
 |_=>exact h.elim
theorem cXq(hr:Room k X.A)(ha:PD K X a ta)(hb:PD K X b tb)(hK:X.K=K:=by rfl):PTD K X (.Compare a [.Lt] [b] pos) (aXn (dOp ltD ta tb)):=aX9 (eJd hr.units0 hK) fZc ha hb (nomark _)
abbrev leD:R2D:=iiD0 λi j=>.bl (decide (i<=j))
abbrev gtD:R2D:=iiD0 λi j=>.bl (decide (j<i))
abbrev geD:R2D:=iiD0 λi j=>.bl (decide (j<=i))
theorem eJe(hr:Room k X.A)(ha:PD K X a ta)(hb:PD K X b tb):PTD K X (.Compare a [.LtE] [b] pos) (aXn (dOp leD ta tb)):=aX9 fQw dJv ha hb (nomark _)
theorem eJf(hr:Room k X.A)(ha:PD K X a ta)(hb:PD K X b tb):PTD K X (.Compare a [.Gt] [b] pos) (aXn (dOp gtD ta tb)):=aX9 fQx dJv ha hb (nomark _)
theorem fZd(hr:Room k X.A)(ha:PD K X a ta)(hb:PD K X b tb):PTD K X (.Compare a [.GtE] [b] pos) (aXn (dOp geD ta tb)):=aX9 fQy dJv ha hb (nomark _)
def cXr:D->Bool
 |.non=>true
 |_=>false
def isD(neg:Bool):R2D:=λd e S Q=>match d,e with
 |.bl x,.bl y=>Q (.bl (if neg then x !=y else x==y)) S
 |d,.non=>Q (.bl (if neg then !cXr d else cXr d)) S
 |_,_=>False
def rIsA(neg:Bool):R2:=λx y H Q=>(∃i j,x=.bl i/\y=.bl j/\Q (.bl (if neg then i !=j else i==j)) H)\/(y=.non/\Q (.bl (if neg then !decide (x=.non) else decide (x=.non))) H)
theorem eJg:OpR X (cD .Is) (rIsA false):=OpR.or (by
 intro pins s σ H x y v u Q I rx ry h;obtain⟨i,j,rfl,rfl,q⟩:=h;cases rx;cases ry;exact is_bool ⟨.bl _,H,I,rfl,q⟩) eX6
theorem dQu:OpR X (cD .IsNot) (rIsA true):=OpR.or (by
 intro pins s σ H x y v u Q I rx ry h;obtain⟨i,j,rfl,rfl,q⟩:=h;cases rx;cases ry;exact isnot_bool ⟨.bl _,H,I,rfl,q⟩) dXt
theorem dQv{M:Am}{H:Hp}{d:D}{x:V}(h:RepV K M H d x):decide (x=.non)=cXr d:=by
 cases d <;> unfold RepV at h <;> first|(rw[h];rfl)|(obtain⟨a,xs,rfl,_⟩:=h;rfl)|skip
theorem eJh{neg:Bool}:OpD K (rIsA neg) (isD neg):=by
 intro F S H d e x y Q QD r hd he h c;have non:e=.non->QD (.bl (if neg then !cXr d else cXr d)) S->rIsA neg x y H Q:=by
  rintro rfl q;rw[rnon he];refine .inr ⟨rfl,?_⟩;rw[dQv hd];exact c.bl r q
 cases e with
 |non=>exact non rfl (by cases d <;> exact h)
 |bl j =>
  cases d with
  |bl i=>rw[rbl hd,rbl he];exact .inl ⟨i,j,rfl,rfl,c.bl r h⟩
  |_=>exact h.elim
 |_=>cases d <;> exact h.elim
theorem fZe(hr:Room k X.A)(ha:PD K X a ta)(hb:PD K X b tb):PTD K X (.Compare a [.Is] [b] pos) (aXn (dOp (isD false) ta tb)):=aX9 eJg eJh ha hb (nomark _)
theorem eJi(hr:Room k X.A)(ha:PD K X a ta)(hb:PD K X b tb):PD K X (.Compare a [.IsNot] [b] pos) (dOp (isD true) ta tb):=dJq dQu eJh ha hb (nomark _)
def fZf(ta tb:ED):ED:=fun Γ S Q=>ta Γ S λx S1=>∃c,x=.bl c/\if c=true then tb Γ S1 Q else Q (.bl false) S1
theorem fZg{op}(h:PD K X a ta):PD K X (.BoolOp op [a] pos) ta:=⟨eZt h.o⟩
theorem fZh{rest:List Expr}(ha:PD K X a ta)(hb:PD K X (.BoolOp .And (b::rest) pos) tb):PD K X (.BoolOp .And (a::b::rest) pos) (fZf ta tb):=.of (eZu ha.o hb.o) fun σ H Q J=>J.el λF S Γ QD r g q c =>
 ⟨F,S,Γ,_,r,g,q,λv d H1 O i j v1 D=>by
  obtain⟨z,e,B⟩:=D;subst e;refine⟨z,rbl v1,?_⟩;cases z with
  |true=>exact⟨F,O,Γ,QD,j,g.ext i,B,λv z U N L=>c v z U N (i.trans L)⟩
  |false=>exact(Cn.shift c i).bl j B⟩
structure PWD(K:Fg)(X:Cx)(e:Expr)(t:TD):Prop where
 o:PW X e (upT K t)
def dAnd(t u:TD):TD:=fun Γ S Q=>t Γ S λc S1=>if c=true then u Γ S1 Q else Q false S1
def dOr(t u:TD):TD:=fun Γ S Q=>t Γ S λc S1=>if c=true then Q true S1 else u Γ S1 Q
def dNot(t:TD):TD:=fun Γ S Q=>t Γ S λc S1=>Q (!c) S1
section
variable{tA tB':TD}{rest:List Expr}
theorem PWD.pt{e:Expr}{t:TD}(h:PWD K X e t):PTD K X e t:=⟨PW.pt h.o⟩
theorem PWD.of{e:Expr}{te:TT}{t:TD}(h:PW X e te)(i:∀σ H Q,upT K t σ H Q->te σ H Q):PWD K X e t:=⟨λj pins s σ H Q I q=>h j pins s σ H Q I (i σ H Q q)⟩
theorem bJ3(ha:PTD K X a tA):PWD K X (.BoolOp .And [a] pos) tA:=⟨dXn ha.o⟩
theorem dX9(ha:PTD K X a tA):PWD K X (.BoolOp .Or [a] pos) tA:=⟨eZq ha.o⟩
theorem cXs(ha:PTD K X a tA)(hb:PWD K X (.BoolOp .And (b::rest) pos) tB'):PWD K X (.BoolOp .And (a::b::rest) pos) (dAnd tA tB'):=.of (eZr ha.o hb.o) fun σ H Q B=>B.el λF S Γ QD r g q c =>
 ⟨F,S,Γ,_,r,g,q,λz H1 L i j v=>by
  cases z with
  |true=>exact⟨F,L,Γ,QD,j,g.ext i,v,λz N J D=>c z N J (i.trans D)⟩
  |false=>exact c _ _ _ i j v⟩
theorem dQw(ha:PTD K X a tA)(hb:PWD K X (.BoolOp .Or (b::rest) pos) tB'):PWD K X (.BoolOp .Or (a::b::rest) pos) (dOr tA tB'):=.of (fQn ha.o hb.o) fun σ H Q B=>B.el λF S Γ QD r g q c =>
 ⟨F,S,Γ,_,r,g,q,λz H1 L i j v=>by
  cases z with
  |false=>exact⟨F,L,Γ,QD,j,g.ext i,v,λz N J D=>c z N J (i.trans D)⟩
  |true=>exact c _ _ _ i j v⟩
theorem dXa(ha:PTD K X a tA):PTD K X (.UnaryOp .Not a pos) (dNot tA):=.of (eZs ha.o) fun σ H Q i=>i.el λF S Γ QD r g q c=>⟨F,S,Γ,_,r,g,q,λz H1 D j v B=>c _ _ _ j v B⟩
end
def truD(S:Sto)(d:D)(k:Bool->Prop):Prop:=match d with
 |.non=>k false
 |.bl b=>k b
 |.int i=>k (i !=0)
 |.str x=>x.length<=sizeLine/\k ((x.length:Int) !=0)
 |.tup xs=>k (!xs.isEmpty)
 |.lst xs=>k (!xs.isEmpty)
 |.ref a=>∃xs,S a=some (.lst xs)/\k (!xs.isEmpty)
 |.ty _=>False
def dTru(ta:ED):TD:=fun Γ S Q=>ta Γ S λd S1=>truD S1 d λb=>Q b S1
theorem cXt{M:Am}{H:Hp}{ds:List D}{xs:List V}(l:RepL K M H ds xs):(!xs.isEmpty)=!ds.isEmpty:=by
 have:=l.length
 cases ds <;> cases xs <;> first|rfl|simp at this
theorem cQ8(ha:PD K X a ta)(he:∀whole,isTrue a X.env whole=(do let v <- whole;fF a.pos;fb [v] (truthy v)):=by intro _;rfl)(hK:X.K=K:=by rfl):PTD K X a (dTru ta):=.of (cXe (K:=K) ha.o he hK) fun σ H Q D=>D.el λF S Γ QD r g q c =>
 ⟨F,S,Γ,_,r,g,q,λv d H1 B z j v1 i=>by
  cases d with
  |non=>rw[rnon v1];exact⟨false,rfl,c _ _ _ z j i⟩
  |bl b=>rw[rbl v1];exact⟨b,rfl,c _ _ _ z j i⟩
  |int b=>rw[rint v1];exact⟨_,rfl,c _ _ _ z j i⟩
  |str b=>rw[rstr v1];exact⟨_,⟨i.1,rfl⟩,c _ _ _ z j i.2⟩
  |ty b=>exact i.elim
  |tup xs =>
   obtain⟨p,us,rfl,t,l⟩:=tup.st v1;exact⟨_,.inr (.inl ⟨us,t,rfl⟩),c _ _ _ z j (by rw[cXt l];exact i)⟩
  |lst xs =>
   obtain⟨p,us,rfl,t,l⟩:=lsIs.sl j v1 (show lsIs B (.lst xs) xs from rfl)
   exact⟨_,.inl ⟨us,t,rfl⟩,c _ _ _ z j (by rw[cXt l];exact i)⟩
  |ref p =>
   obtain⟨xs,e,i⟩:=i;obtain⟨p,us,rfl,t,l⟩:=lsIs.sl j v1 (show lsIs B (.ref p) xs from e)
   exact⟨_,.inl ⟨us,t,rfl⟩,c _ _ _ z j (by rw[cXt l];exact i)⟩⟩
section
variable{e:Expr}{t:AD}{p:Pos}
def lenD:RCD:=λds S Q=>match ds with
 |[.str x]=>x.length<=sizeLine/\Q (.int x.length) S
 |[d]=>∃xs,sqIs S d xs/\Q (.int xs.length) S
 |_=>False
theorem cXu(hK:X.K=K:=by rfl):CallR X (.builtin "len") (λxs H Q=>∃x n,xs=[x]/\LenV K x H n/\Q (.int n) H):=hK▸dQ7
theorem eJj:aJr K (λxs H Q=>∃x n,xs=[x]/\LenV K x H n/\Q (.int n) H) lenD:=by
 intro F S H ds j Q QD r l h c
 match ds,h with
 |[d],h =>
  obtain⟨v,rfl,i⟩:=l.one;have seq:(∃xs,sqIs S d xs/\QD (.int xs.length) S)->∃x n,[v]=[x]/\LenV K x H n/\Q (.int n) H:=by
   rintro⟨xs,h1,q⟩;obtain⟨a,us,rfl,sq,l⟩:=h1.sq r i;refine⟨_,xs.length,rfl,?_,c.int r q⟩;rcases sq with sq|sq
   ·exact .inl ⟨us,sq,l.length.symm⟩
   ·exact .inr ⟨us,sq,l.length.symm⟩
  cases d with
  |str x=>rw[rstr i];exact⟨_,x.length,rfl,⟨h.1,rfl⟩,c.int r h.2⟩
  |_=>exact seq h
 |[],h=>exact h.elim
 |d::_::_,h=>cases d <;> exact h.elim
theorem aX0(hg:Gl X "len")(hm:X.mg "len"=none)(ha:PAD K X [e] t)(hK:X.K=K:=by rfl)(he:az [e] X.env=(false,eval e X.env)::az [] X.env:=by rfl)(hpl:(cx pos (az [] X.env)).any (·.1)=false:=by rfl):PD K X (.Call (.Name "len" p) [e] [] pos) (dCB lenD t):=aZs (cXu hK) eJj hg hm dZr ha (by decide) (by decide) he hpl
def tupD:RCD:=λds S Q=>match ds with
 |[d]=>∃xs,sqIs S d xs/\Q (.tup xs) S
 |_=>False
theorem eJk:aJr K (λxs H Q=>∃p ys,xs=[.ref p]/\((SqL K H p ys/\∀l,H l=none->Q (.ref l) (upd H l (.tup ys)))\/(SqT K H p ys/\Q (.ref p) H))) tupD:=by
 intro F S H ds z Q QD r l h c
 match ds,h with
 |[d],⟨xs,h1,q⟩ =>
  obtain⟨v,rfl,i⟩:=l.one;cases d with
  |tup ys =>
   cases h1;obtain⟨a,us,rfl,sq,l⟩:=tup.st i;exact⟨a,us,rfl,.inr ⟨sq,c.here r i q⟩⟩
  |lst ys =>
   obtain⟨a,us,rfl,sq,l⟩:=lsIs.sl r i (show lsIs S (.lst ys) xs from h1)
   exact⟨a,us,rfl,.inl ⟨sq,λp j=>c.tup r j l q⟩⟩
  |ref y =>
   obtain⟨a,us,rfl,sq,l⟩:=lsIs.sl r i (show lsIs S (.ref y) xs from h1)
   exact⟨a,us,rfl,.inl ⟨sq,λp j=>c.tup r j l q⟩⟩
  |_=>exact h1.elim
theorem aZ0(hg:Gl X "tuple")(hm:X.mg "tuple"=none)(ha:PAD K X [e] t)(hK:X.K=K:=by rfl)(he:az [e] X.env=(false,eval e X.env)::az [] X.env:=by rfl)(hpl:(cx pos (az [] X.env)).any (·.1)=false:=by rfl):PD K X (.Call (.Name "tuple" p) [e] [] pos) (dCB tupD t):=bQz (bXs hK) eJk hg hm dQd ha (by decide) (by decide) he hpl
def lstD(b:Bool):RCD:=λds S Q=>match ds with
 |[d]=>∃xs,sqIs S d xs/\newL b xs S Q
 |_=>False
theorem eJl{b:Bool}:aJr K (λxs H Q=>∃p ys,xs=[.ref p]/\(SqL K H p ys\/SqT K H p ys)/\∀l,H l=none->Q (.ref l) (upd H l (.lst ys))) (lstD b):=by
 intro F S H ds z Q QD r l h c
 match ds,h with
 |[d],⟨xs,h1,q⟩ =>
  obtain⟨v,rfl,i⟩:=l.one;obtain⟨a,us,rfl,sq,l⟩:=h1.sq r i;exact⟨a,us,rfl,sq,λp j=>c.new r j l q⟩
theorem dXb{b:Bool}(hg:Gl X "list")(hm:X.mg "list"=none)(ha:PAD K X [e] t)(hK:X.K=K:=by rfl)(he:az [e] X.env=(false,eval e X.env)::az [] X.env:=by rfl)(hpl:(cx pos (az [] X.env)).any (·.1)=false:=by rfl):PD K X (.Call (.Name "list" p) [e] [] pos) (dCB (lstD b) t):=bQz (cZ4 hK) eJl hg hm bXj ha (by decide) (by decide) he hpl
def i2D(g:Int->Int->Int):RCD:=λds S Q=>match ds with
 |[.int i,.int j]=>Q (.int (g i j)) S
 |_=>False
theorem fZi{g:Int->Int->Int}:aJr K (λxs H Q=>∃i j,xs=[.int i,.int j]/\Q (.int (g i j)) H) (i2D g):=by
 intro F S H ds D Q QD r l h c
 match ds,h with
 |[.int i,.int j],h =>
  obtain⟨v,w,rfl,B,z⟩:=l.two;rw[rint B,rint z];exact⟨i,j,rfl,c.int r h⟩
theorem fZj{e2:Expr}(hg:Gl X "min")(hm:X.mg "min"=none)(ha:PAD K X [e,e2] t)(hc:X.calm=true:=by rfl)(he:az [e,e2] X.env=(false,eval e X.env)::az [e2] X.env:=by rfl)(hpl:(cx pos (az [e2] X.env)).any (·.1)=false:=by rfl):PD K X (.Call (.Name "min" p) [e,e2] [] pos) (dCB (i2D λi j=>if j<i then j else i) t):=aZs (cZn hc) fZi hg hm dZs ha (by decide) (by decide) he hpl
theorem cQ9{M:Am}{H:Hp}:∀{bs:List Bool}{xs:List V},RepL K M H (bs.map D.bl) xs->br (dB H) xs bs
 |[],xs,h=>by rw[fw] at h;unfold RepL at h;subst h;exact .nil
 |a::as,xs,h=>by
  rw[bC] at h;unfold RepL at h;obtain⟨v,i,rfl,r,l⟩:=h;unfold RepV at r;exact .cons r (cQ9 l)
def quD(g:List Bool->Bool):RCD:=λds S Q=>match ds with
 |[d]=>∃bs,lsIs S d (bs.map D.bl)/\Q (.bl (g bs)) S
 |_=>False
theorem eJm{g:List Bool->Bool}:aJr K (λxs H Q=>∃x bs,xs=[x]/\dL K dB H x bs/\Q (.bl (g bs)) H) (quD g):=by
 intro F S H ds j Q QD r l h c
 match ds,h with
 |[d],⟨bs,h1,q⟩ =>
  obtain⟨v,rfl,i⟩:=l.one;obtain⟨a,us,rfl,sq,l⟩:=lsIs.sl r i h1;exact⟨_,bs,rfl,⟨a,us,rfl,sq,cQ9 l⟩,c.bl r q⟩
theorem fZk(hg:Gl X "all")(hm:X.mg "all"=none)(ha:PAD K X [e] t)(hK:X.K=K:=by rfl)(hc:X.calm=true:=by rfl)(he:az [e] X.env=(false,eval e X.env)::az [] X.env:=by rfl)(hpl:(cx pos (az [] X.env)).any (·.1)=false:=by rfl):PD K X (.Call (.Name "all" p) [e] [] pos) (dCB (quD λbs=>bs.all id) t):=aZs (cXc hK hc) eJm hg hm eXj ha (by decide) (by decide) he hpl
theorem eJn(hg:Gl X "any")(hm:X.mg "any"=none)(ha:PAD K X [e] t)(hK:X.K=K:=by rfl)(hc:X.calm=true:=by rfl)(he:az [e] X.env=(false,eval e X.env)::az [] X.env:=by rfl)(hpl:(cx pos (az [] X.env)).any (·.1)=false:=by rfl):PD K X (.Call (.Name "any" p) [e] [] pos) (dCB (quD λbs=>bs.any id) t):=aZs (cXd hK hc) eJm hg hm dZt ha (by decide) (by decide) he hpl
end
def ixD:R2D:=λd e S Q=>match d,e with
 |.str z,.int i=>z.length<=sizeLine/\∃c,atI z.cps.toList i=some c/\Q (.str ⟨#[c]⟩) S
 |d,.int i=>∃xs v,sqIs S d xs/\atI xs i=some v/\Q v S
 |_,_=>False
theorem fZl{M:Am}{H:Hp}{ds:List D}{xs:List V}(l:RepL K M H ds xs){i:Int}{d:D}(h:atI ds i=some d):∃v,atI xs i=some v/\RepV K M H d v:=by
 unfold atI at h ⊢;rw[l.length];cases hi:ixN ds.length i with
 |none=>rw[hi] at h;cases h
 |some j=>rw[hi] at h;exact l.get h
theorem fZm:OpD K (rIx K) ixD:=by
 intro F S H d e x y Q QD r hd he h c;have seq:∀i,e=.int i->(∃xs v,sqIs S d xs/\atI xs i=some v/\QD v S)->rIx K x y H Q:=by
  rintro i rfl ⟨xs,v,h1,h2,q⟩;obtain⟨a,us,rfl,sq,l⟩:=h1.sq r hd;obtain⟨u,B,j⟩:=fZl l h2;rw[rint he];rcases sq with sq|sq
  ·exact .inl ⟨a,us,i,u,rfl,rfl,sq,B,c.here r j q⟩
  ·exact .inr (.inl ⟨a,us,i,u,rfl,rfl,sq,B,c.here r j q⟩)
 cases e with
 |int i =>
  cases d with
  |str z =>
   obtain⟨h1,w,h2,q⟩:=h;rw[rstr hd,rint he];exact .inr (.inr ⟨z,i,w,rfl,rfl,h1,h2,c.str r q⟩)
  |_=>exact seq i rfl h
 |_=>cases d <;> exact h.elim
theorem eQ5(hK:X.K=K:=by rfl):IxR X (rIx K):=hK▸eXh
theorem e_ix(ha:PD K X a ta)(hb:PD K X b tb)(hs:PlainIx b:=by exact λ_ _=>rfl)(hK:X.K=K:=by rfl):PD K X (.Subscript a b pos) (dOp ixD ta tb):=.of (pe_ix (eQ5 hK) ha.o hb.o hs) (dQt fZm)
abbrev OD:=Gm->Sto->(Option Int->Sto->Prop)->Prop
def upO(K:Fg)(t:OD):TO:=fun σ H Q=>∃F S Γ QD,Rp K F S H/\RepG K (mt S F) H Γ σ/\t Γ S QD/\∀o H' S',Ext S H S' H'->Rp K F S' H'->QD o S'->Q o H'
theorem upO.el{K:Fg}{t:OD}{σ:St}{H:Hp}{Q:Option Int->Hp->Prop}{p:Prop}(h:upO K t σ H Q)(k:∀F S Γ QD,Rp K F S H->RepG K (mt S F) H Γ σ->t Γ S QD->(∀o H' S',Ext S H S' H'->Rp K F S' H'->QD o S'->Q o H')->p):p:=by
 obtain⟨F,S,Γ,QD,h0,h1,h2,i⟩:=h;exact k F S Γ QD h0 h1 h2 i
structure POD(K:Fg)(X:Cx)(e:Option Expr)(t:OD):Prop where
 o:PO X e (upO K t)
def cXv:OD:=λ_ S Q=>Q none S
def fZn(t:ED):OD:=fun Γ S Q=>t Γ S λd S1=>∃i,d=.int i/\Q (some i) S1
theorem bZ0:POD K X none cXv:=⟨λpins s σ H Q I i=>i.el λF S Γ QD r g q c=>dXy pins s σ H Q I (c none H S (Ext.refl _ _) r q)⟩
theorem aXp(h:PD K X a ta):POD K X (some a) (fZn ta):=⟨λpins s σ H Q I z=>z.el λF S Γ QD r g q c=>dXz h.o pins s σ H Q I ⟨F,S,Γ,_,r,g,q,λv d H1 L B D v1 j=>by
 obtain⟨i,e,J⟩:=j;subst e;exact⟨i,rint v1,c _ _ _ B D J⟩⟩⟩
def cutD(xs:List D)(lo hi:Option Int):List D:=(xs.drop (HT.sIx xs.length 0 lo)).take (HT.sIx xs.length xs.length hi-HT.sIx xs.length 0 lo)
def slD(b:Bool)(d:D)(lo hi:Option Int)(S:Sto)(Q:DK):Prop:=match d with
 |.str z=>z.length<=1000000/\Q (.str (cutS z lo hi)) S
 |.tup xs=>Q (.tup (cutD xs lo hi)) S
 |d=>∃xs,lsIs S d xs/\newL b (cutD xs lo hi) S Q
def rSlA(K:Fg):V->Option Int->Option Int->Hp->VK->Prop:=λx lo hi H Q=>rSlS x lo hi H Q\/rSlT K x lo hi H Q\/rSlW K x lo hi H Q\/rSlL K x lo hi H Q
theorem sl_A(hK:X.K=K:=by rfl):SlR X (rSlA K):=sl_str.or ((dJh hK).or ((eQ4 hK).or (dQn hK)))
theorem dQx(xs:List D){lo hi:Option Int}(h0:HT.sIx xs.length 0 lo=0)(h1:HT.sIx xs.length xs.length hi=xs.length):cutD xs lo hi=xs:=by unfold cutD;rw[h0,h1];simp
theorem dXc{M:Am}{H:Hp}{ds:List D}{xs:List V}(l:RepL K M H ds xs)(lo hi:Option Int):RepL K M H (cutD ds lo hi) (cutV xs lo hi):=by
 unfold cutD cutV;rw[l.length];exact(l.drop _).take _
theorem sd_A{b:Bool}:∀F S H d x lo hi Q QD,Rp K F S H->RepV K (mt S F) H d x->slD b d lo hi S QD->Cn K F S H QD Q->rSlA K x lo hi H Q:=by
 intro F S H d x lo hi Q QD r hd h c;have lists:(∃xs,lsIs S d xs/\newL b (cutD xs lo hi) S QD)->rSlA K x lo hi H Q:=by
  rintro⟨xs,v,q⟩;obtain⟨a,us,rfl,s1,i⟩:=lsIs.sl r hd v;exact .inr (.inr (.inr ⟨a,us,rfl,s1,λp j=>c.new r j (dXc i lo hi) q⟩))
 cases d with
 |str z=>rw[rstr hd];exact .inl ⟨z,rfl,h.1,c.str r h.2⟩
 |tup xs =>
  obtain⟨a,us,rfl,s1,i⟩:=tup.st hd
  by_cases hw:HT.sIx us.length 0 lo=0/\HT.sIx us.length us.length hi=us.length
  ·refine .inr (.inr (.inl ⟨a,us,rfl,s1,hw.1,hw.2,c.here r hd ?_⟩));rw[i.length] at hw;have h':QD (.tup (cutD xs lo hi)) S:=h;rwa [dQx xs hw.1 hw.2] at h'
  ·exact .inr (.inl ⟨a,us,rfl,s1,hw,λp j=>c.tup r j (dXc i lo hi) h⟩)
 |_=>exact lists h
def dSl(b:Bool)(te:ED)(tl th:OD):ED:=fun Γ S Q=>te Γ S λd S1=>tl Γ S1 λlo S2=>th Γ S2 λhi S3=>slD b d lo hi S3 Q
theorem e_sl{b:Bool}{e:Expr}{te:ED}{lo hi:Option Expr}{tl th:OD}{p2 pos:Pos}(he:PD K X e te)(hl:POD K X lo tl)(hu:POD K X hi th)(hK:X.K=K:=by rfl):PD K X (.Subscript e (.Slice lo hi none p2) pos) (dSl b te tl th):=.of (dQ9 (sl_A hK) he.o hl.o hu.o) fun σ H Q B=>B.el λF S Γ QD r g q c =>
 ⟨F,S,Γ,_,r,g,q,λv d H1 S1 j L v1 U=>⟨F,S1,Γ,_,L,g.ext j,U,λl H2 Z i J O=>⟨F,Z,Γ,_,J,g.ext (j.trans i),O,λu H3 Y z D N=>sd_A F Y H3 d v l u Q QD D (v1.ext (i.trans z)) N (Cn.shift c (j.trans (i.trans z)))⟩⟩⟩
end
end L2
set_option maxHeartbeats 4000000
namespace L2
open PySem PySem.Spec PyProof.Rows
section
variable{X:Cx}{K:Fg}{a b:Expr}{ta tb:ED}{pos:Pos}{k:Nat}
abbrev GD:=D->Gm->Sto->(Gm->Sto->Prop)->Prop
abbrev GsD:=List D->Gm->Sto->(Gm->Sto->Prop)->Prop
def upG(K:Fg)(t:GD):TG:=λv σ H Q=>∃F S Γ d QD,Rp K F S H/\RepG K (mt S F) H Γ σ/\RepV K (mt S F) H d v/\t d Γ S QD/\∀Γ' S' σ' H',Ext S H S' H'->Rp K F S' H'->RepG K (mt S' F) H' Γ' σ'->QD Γ' S'->Q σ' H'
theorem upG.el{K:Fg}{t:GD}{v:V}{σ:St}{H:Hp}{Q:St->Hp->Prop}{p:Prop}(h:upG K t v σ H Q)(k:∀F S Γ d QD,Rp K F S H->RepG K (mt S F) H Γ σ->RepV K (mt S F) H d v->t d Γ S QD->(∀Γ' S' σ' H',Ext S H S' H'->Rp K F S' H'->RepG K (mt S' F) H' Γ' σ'->QD Γ' S'->Q σ' H')->p):p:=by
 obtain⟨F,S,Γ,d,QD,h0,h1,h2,j,i⟩:=h;exact k F S Γ d QD h0 h1 h2 j i
def upGs(K:Fg)(t:GsD):TGs:=λvs σ H Q=>∃F S Γ ds QD,Rp K F S H/\RepG K (mt S F) H Γ σ/\RepL K (mt S F) H ds vs/\t ds Γ S QD/\∀Γ' S' σ' H',Ext S H S' H'->Rp K F S' H'->RepG K (mt S' F) H' Γ' σ'->QD Γ' S'->Q σ' H'
theorem upGs.el{K:Fg}{t:GsD}{vs:List V}{σ:St}{H:Hp}{Q:St->Hp->Prop}{p:Prop}(h:upGs K t vs σ H Q)(k:∀F S Γ ds QD,Rp K F S H->RepG K (mt S F) H Γ σ->RepL K (mt S F) H ds vs->t ds Γ S QD->(∀Γ' S' σ' H',Ext S H S' H'->Rp K F S' H'->RepG K (mt S' F) H' Γ' σ'->QD Γ' S'->Q σ' H')->p):p:=by
 obtain⟨F,S,Γ,ds,QD,h0,h1,h2,j,i⟩:=h;exact k F S Γ ds QD h0 h1 h2 j i
structure PGD(K:Fg)(X:Cx)(e:Expr)(t:GD):Prop where
 o:PG X e (upG K t)
structure PGsD(K:Fg)(X:Cx)(es:List Expr)(t:GsD):Prop where
 o:PGs X es (upGs K t)
theorem PGD.of{e:Expr}{te:TG}{t:GD}(h:PG X e te)(i:∀v σ H Q,upG K t v σ H Q->te v σ H Q):PGD K X e t:=⟨λpins s σ H v u Q I r q=>h pins s σ H v u Q I r (i v σ H Q q)⟩
theorem PGsD.of{e:List Expr}{te:TGs}{t:GsD}(h:PGs X e te)(i:∀v σ H Q,upGs K t v σ H Q->te v σ H Q):PGsD K X e t:=⟨λpins s σ H v u Q I r q=>h pins s σ H v u Q I r (i v σ H Q q)⟩
def aQu(i:Nat):GD:=λd Γ S Q=>Q (Γ.set i (some d)) S
theorem aZ1{i:Nat}{x:Str}(hN:X.N.Nodup)(hi:X.N[i]?=some x)(hx:Loc X.env.scope x)(hf:X.fn x=true\/X.env.scope.names.lookup x=some .local:=by first|exact .inl rfl|exact .inr rfl|assumption):PGD K X (.Name x pos) (aQu i) :=
 .of (aQf hN hi hx hf) λv σ H Q j=>j.el λF S Γ d QD r g z q c=>c _ S _ H (Ext.refl _ _) r (g.set z i) q
def eJo:GsD:=λds Γ S Q=>ds=[]/\Q Γ S
def cXw(t:GD)(u:GsD):GsD:=λds Γ S Q=>match ds with
 |[]=>False
 |d::r=>t d Γ S fun Γ' S'=>u r Γ' S' Q
def eQ6(n:Nat)(t:GsD):GD:=λd Γ S Q=>match d with
 |.tup ds=>ds.length=n/\t ds Γ S Q
 |_=>False
theorem bJ4:PGsD K X [] eJo:=.of cZh λv σ H Q i=>by
 obtain⟨F,S,Γ,ds,QD,r,g,l,⟨e,q⟩,c⟩:=i;subst e;unfold RepL at l;exact⟨l,c _ S _ H (Ext.refl _ _) r g q⟩
theorem aZy{e:Expr}{es:List Expr}{t:GD}{u:GsD}(h1:PGD K X e t)(h2:PGsD K X es u)(ha:(eD (e::es) X.env).map (·.2)=iV e X.env::(eD es X.env).map (·.2):=by rfl):PGsD K X (e::es) (cXw t u) :=
 .of (bQk h1.o h2.o ha) λj σ H Q z=>z.el λF S Γ ds QD r g l q c=>by
  cases ds with
  |nil=>exact q.elim
  |cons d ds =>
   unfold RepL at l;obtain⟨v,j,rfl,D,l⟩:=l;exact⟨v,j,rfl,F,S,Γ,d,_,r,g,D,q,fun Γ1 O σ1 H1 i J g1 L=>⟨F,O,Γ1,ds,_,J,g1,l.ext i,L,fun Γ2 N σ2 H2 B=>c Γ2 N σ2 H2 (i.trans B)⟩⟩
theorem cXx{es:List Expr}{kk:Nat}{t:GsD}{n:Nat}(hc:X.calm=true)(h:PGsD K X es t)(hK:X.K=K:=by rfl)
  (hn:(eD es X.env).length=n:=by rfl) (hst:(eD es X.env).findIdx? (·.1)=none:=by rfl):PGD K X (.Tuple es kk pos) (eQ6 n t) :=
 .of (dZn hc h.o hn hst) λv σ H Q i=>i.el λF S Γ d QD r g j q c=>by
  cases d with
  |tup ds =>
   obtain⟨p,us,rfl,sq,l⟩:=tup.st j;exact⟨p,us,rfl,by rw[hK];exact sq,by rw[l.length];exact q.1,F,S,Γ,ds,_,r,g,l,q.2,c⟩
  |_=>exact q.elim
def setD(o i v:D)(S:Sto)(Q:Sto->Prop):Prop:=match o,i with
 |.ref p,.int k=>∃xs j,S p=some (.lst xs)/\ixN xs.length k=some j/\Q (supd S p (.lst (xs.set j v)))
 |_,_=>False
def gdSub(to ti:ED):GD:=λv Γ S Q=>to Γ S λo S1=>ti Γ S1 λi S2=>setD o i v S2 λS3=>Q Γ S3
theorem bQh{o i:Expr}{to ti:ED}(ho:PD K X o to)(hi:PD K X i ti)
  (ha:∀ v,iV (.Subscript o i pos) X.env v=(do
   let ov <- fb [v] (eval o X.env)
   let iv <- fb [v,ov] (eval i X.env)
   fF pos
   fb [v,ov,iv] (setItem ov iv v)
   release [v,ov,iv] []):=by intro _;rfl):PGD K X (.Subscript o i pos) (gdSub to ti) :=
 .of (eZw ho.o hi.o dQa ha) λv σ H Q z0=>z0.el λF S Γ d QD r g rv q c =>
  ⟨F,S,Γ,_,r,g,q,λov od H1 S1 L r1 v1 q1=>⟨F,S1,Γ,_,r1,g.ext L,q1,λiv id H2 U J Y v2 O=>by
   have N:=v1.ext J;cases od with
   |ref p =>
    cases id with
    |int kk =>
     obtain⟨xs,j,Z,hj,q3⟩:=O;obtain⟨us,hH,l⟩:=Y.obj p _ Z;rw[rref N,rint v2];have B:U p≠none:=by rw[Z];exact λz=>by cases z
     have D:Ext U H2 (supd U p (.lst (xs.set j d))) (upd H2 p (.lst (us.set j v))):=Ext.write B;refine⟨p,us,kk,j,rfl,rfl,hH,by rw[l.length];exact hj,?_⟩
     refine c Γ _ σ _ (L.trans (J.trans D)) (Y.write B ⟨_,aQ7,?_⟩) (g.ext (L.trans (J.trans D))) q3;exact RepL.set (rv.ext (L.trans (J.trans D))) j (l.ext D)
    |_=>exact O.elim
   |_=>exact O.elim⟩⟩
def fZo:SD:=λE Γ S=>E.nx Γ S
def dSeq(t u:SD):SD:=λE Γ S=>t {E with nx:=u E} Γ S
def dAsg(te:ED)(g:GD):SD:=λE Γ S=>te Γ S λd S1=>g d Γ S1 E.nx
def fZp(te:ED):SD:=λE Γ S=>te Γ S λ_ S1=>E.nx Γ S1
def dRet(te:ED):SD:=λE Γ S=>te Γ S E.rt
def dIfS(c:TD)(t u:SD):SD:=λE Γ S=>c Γ S λb S1=>if b=true then t E Γ S1 else u E Γ S1
section
variable{st:Stmt}{rest:List Stmt}{t u:SD}
theorem aZ6:PSsD K X [] fZo:=.of dXo λj σ H i=>i.el λF S Γ E r g q c=>c.nx Γ S σ H (Ext.refl _ _) r g q
theorem aQ2(h1:PSD K X st t)(h2:PSsD K X rest u):PSsD K X (st::rest) (dSeq t u):=.of (bJq h1.o h2.o) λD σ H i=>i.el λF S Γ E r g q c =>
 ⟨F,S,Γ,{E with nx:=u E},r,g,q,fun Γ1 B σ1 H1 j v g1 z=>⟨F,B,Γ1,E,v,g1,z,c.ext j⟩,c.rt,c.bk,c.ct⟩
theorem aQ6(h1:PSD K X st t):PSsD K X [st] t:=⟨dXp h1.o⟩
theorem aXv{tg e:Expr}{te:ED}{g:GD}(he:PD K X e te)(hg:PGD K X tg g)(hs:swapsWithSole [tg] e pos.line X.env=pure false:=by rfl)(hw:swappedStores [tg] e X.env=pure none:=by rfl)
  (h1:(eD [tg] X.env).map (·.2)=[iV tg X.env]:=by rfl):PSD K X (.Assign [tg] e pos) (dAsg te g):=.of (eZx he.o hg.o hs hw h1) λN σ H j=>j.el λF S Γ E r g q c =>
 ⟨F,S,Γ,_,r,g,q,λv d H1 L i B v1 D=>⟨F,L,Γ,d,_,B,g.ext i,v1,D,fun Γ2 J σ2 H2 z=>c.nx Γ2 J σ2 H2 (i.trans z)⟩⟩
theorem eJp{te:ED}{i:Nat}:∀D' σ H,upS K (dAsg te (aQu i)) D' σ H->tAsg (upE K te) (bXg i) D' σ H:=λD' σ H z=>z.el λF S Γ E r g q c =>
 ⟨F,S,Γ,_,r,g,q,λv d H1 J j B v1 D=>c.nx _ J _ H1 j B ((g.ext j).set v1 i) D⟩
theorem aQe{i:Nat}{x:Str}{e:Expr}{te:ED}{pos':Pos}(hN:X.N.Nodup)(hi:X.N[i]?=some x)(hx:Loc X.env.scope x)(he:PD K X e te)(hs:iB e (some (.Name x pos')) pos.line X.env=pure false:=by rfl)(hf:X.fn x=true\/X.env.scope.names.lookup x=some .local:=by first|exact .inl rfl|exact .inr rfl|assumption) :
  PSD K X (.Assign [.Name x pos'] e pos) (dAsg te (aQu i)):=.of (eZy hN hi hx he.o hs hf) eJp
theorem bZ1{e:Expr}{te:ED}(he:PD K X e te)(hs:iB e none pos.line X.env=pure false:=by rfl):PSD K X (.Expr e pos) (fZp te):=.of (dXq he.o hs) λJ σ H j=>j.el λF S Γ E r g q c =>
 ⟨F,S,Γ,_,r,g,q,λv d H1 D i z v1 B=>c.nx Γ D σ H1 i z (g.ext i) B⟩
theorem aQg{e:Expr}{te:ED}(he:PD K X e te):PSD K X (.Return (some e) pos) (dRet te):=.of (eZv he.o) λJ σ H i=>i.el λF S Γ E r g q c =>
 ⟨F,S,Γ,_,r,g,q,λv d H1 D j z v1 B=>c.rt v d H1 D j z v1 B⟩
theorem aJs{c:Expr}{sa sb:List Stmt}{tc:TD}(hc:PTD K X c tc)(ha:PSsD K X sa t)(hb:PSsD K X sb u):PSD K X (.If c sa sb pos) (dIfS tc t u):=.of (fQr hc.o ha.o hb.o) λJ σ H D=>D.el λF S Γ E r g q c =>
 ⟨F,S,Γ,_,r,g,q,λz H1 B i j v=>by
  cases z with
  |true=>exact⟨F,B,Γ,E,j,g.ext i,v,c.ext i⟩
  |false=>exact⟨F,B,Γ,E,j,g.ext i,v,c.ext i⟩⟩
def eJq(c:TD)(tb:SD):SD:=λE Γ S=>∃W:Nat->Gm->Sto->Prop,(∃m,W m Γ S)/\∀m Γ S,W m Γ S ->
 c Γ S λb S1=>if b=true then tb {E with nx:=fun Γ' S'=>∃m',m'<m/\W m' Γ' S',ct:=fun Γ' S'=>∃m',m'<m/\W m' Γ' S',bk:=E.nx} Γ S1 else E.nx Γ S1
theorem cQa{c:Expr}{body:List Stmt}{tc:TD}{tb:SD}(hp:PassesOwn (aE X.prog X.w) X.A X.env X.xe)(hc:PTD K X c tc)(hb:PSsD K X body tb):PSD K X (.While c body [] pos) (eJq tc tb):=.of (dQ3 hp hc.o hb.o) λD' σ H ⟨F,S,Γ,E,r,g,⟨W,⟨m0,Z⟩,turn⟩,c⟩ =>
 ⟨λm σ' H'=>∃ S' Γ',Ext S H S' H'/\Rp K F S' H'/\RepG K (mt S' F) H' Γ' σ'/\W m Γ' S',⟨m0,S,Γ,Ext.refl _ _,r,g,Z⟩,λm σ1 H1 ⟨U,Γ1,D,r1,g1,Y⟩ =>
  ⟨F,U,Γ1,_,r1,g1,turn m Γ1 U Y,λz H2 O B L N=>by
   cases z with
   |false=>exact c.nx Γ1 O σ1 H2 (D.trans B) L (g1.ext B) N
   |true =>
    refine⟨fun σ' H'=>∃i,i<m/\∃S' Γ',Ext S H S' H'/\Rp K F S' H'/\RepG K (mt S' F) H' Γ' σ'/\W i Γ' S',fun σ' H' ⟨i,h1,h2⟩=>⟨i,h1,h2⟩,F,O,Γ1,_,L,g1.ext B,N,?_,λv d H' S' j=>c.rt v d H' S' (D.trans (B.trans j)),fun Γ' S' σ' H' j=>c.nx Γ' S' σ' H' (D.trans (B.trans j)),?_⟩
    ·exact fun Γ' S' σ' H' j J g3 ⟨i,h1,h2⟩=>⟨i,h1,S',Γ',D.trans (B.trans j),J,g3,h2⟩
    ·exact fun Γ' S' σ' H' j J g3 ⟨i,h1,h2⟩=>⟨i,h1,S',Γ',D.trans (B.trans j),J,g3,h2⟩⟩⟩
end
def FE(F:Am)(H:Hp)(F2:Am):Prop:=∀a,F2 a->F a\/H a=none
theorem FE.refl(F:Am)(H:Hp):FE F H F:=λ_ h=>.inl h
structure ExtW(F:Am)(S:Sto)(H:Hp)(S':Sto)(H':Hp):Prop where
 keep:∀a o,¬ mt S F a->H a=some o->H' a=some o
 new:∀a,S' a≠none->S a≠none\/H a=none
theorem Ext.w{F:Am}{S S':Sto}{H H':Hp}(x:Ext S H S' H'):ExtW F S H S' H':=⟨λa o h e=>x.keep a o (aY λn=>h (.inl n)) e,x.new⟩
theorem ExtW.kpF{F F2:Am}{S S':Sto}{H H':Hp}(x:ExtW F S H S' H')(f:FE F H F2):Keep (mt S F) H (mt S' F2) H':=⟨x.keep,λa h e=>λz=>by
 rcases z with z|z
 ·rcases x.new a z with y|y
  ·exact h (.inl y)
  ·exact e y
 ·rcases f a z with y|y
  ·exact h (.inr y)
  ·exact e y⟩
structure ItOk(K:Fg)(F:Am)(S:Sto)(H:Hp)(J:It)(xs:List D)(G:Sto->Prop):Prop where
 go:∀F2,FE F H F2->∀S2 H2,ExtW F S H S2 H2->Rp K F2 S2 H2->G S2->∀i d,xs[i]?=some d->J.go i H2/\∀x H3,J.yld i H2 x H3->Ext S2 H2 S2 H3/\Rp K F2 S2 H3/\RepV K (mt S2 F2) H3 d x
 stop:∀F2,FE F H F2->∀S2 H2,ExtW F S H S2 H2->Rp K F2 S2 H2->G S2->J.stop xs.length H2
abbrev IDk:=List D->(Sto->Prop)->Sto->Prop
abbrev ID:=Gm->Sto->IDk->Prop
def upI(K:Fg)(t:ID):TI:=fun σ H R=>∃F S Γ QD,Rp K F S H/\RepG K (mt S F) H Γ σ/\t Γ S QD/\∀J xs G H' S',Ext S H S' H'->Rp K F S' H'->ItOk K F S' H' J xs G->QD xs G S'->R J H'
theorem upI.el{K:Fg}{t:ID}{σ:St}{H:Hp}{R:It->Hp->Prop}{p:Prop}(h:upI K t σ H R)(k:∀F S Γ QD,Rp K F S H->RepG K (mt S F) H Γ σ->t Γ S QD->(∀J xs G H' S',Ext S H S' H'->Rp K F S' H'->ItOk K F S' H' J xs G->QD xs G S'->R J H')->p):p:=by
 obtain⟨F,S,Γ,QD,h0,h1,h2,i⟩:=h;exact k F S Γ QD h0 h1 h2 i
structure PID(K:Fg)(X:Cx)(tg e:Expr)(t:ID):Prop where
 o:PI X tg e (upI K t)
theorem PID.of{tg e:Expr}{te:TI}{t:ID}(h:PI X tg e te)(i:∀σ H Q,upI K t σ H Q->te σ H Q):PID K X tg e t:=⟨λpins s σ H Q I q=>h pins s σ H Q I (i σ H Q q)⟩
def iSq(K:Fg)(tl:TE):TI:=fun σ H R=>tl σ H λx H1=>(∃a,x=.ref a/\(∃xs,SqL K H1 a xs)/\R (Itl K a) H1)\/∃a,x=.ref a/\(∃xs,SqT K H1 a xs)/\R (Itt K a) H1
theorem fZq{tg l:Expr}{tl:TE}(hl:PE X l tl)(hK:X.K=K:=by rfl):PI X tg l (iSq K tl):=by
 subst hK;intro pins s σ H R I h;refine thn (hl pins s σ H _ I h) λv s1 ⟨x,H1,i,r1,D⟩=>?_;have z:∀b∈[s1.heap.objs.size],FpOk X pins H1 b:=λb L=>by
  have e:b=s1.heap.objs.size:=by simpa using L
  subst e;exact i.fpOk (Nat.le_refl _) (i.hok.fresh (Nat.le_refl _))
 rcases D with⟨a,e,⟨xs,j⟩,q⟩|⟨a,e,⟨xs,j⟩,q⟩
 ·subst e;cases r1;obtain⟨its,B,p,J⟩:=i.list j;exact gg p.isList ⟨s1.heap.objs.size,[s1.heap.objs.size],_,_,H1,rfl,i.kept (t':=s1.toks) λb o e=>ae _ e,cZi a _,⟨_,av _ rfl,rfl,rfl⟩,z,q⟩
 ·subst e;cases r1;obtain⟨its,B,p,J⟩:=i.tuple j;exact fM (show s1.heap.IsTuple a its.toArray from p) ⟨s1.heap.objs.size,[s1.heap.objs.size],_,_,H1,rfl,i.kept (t':=s1.toks) λb o e=>ae _ e,cQq a _,⟨_,av _ rfl,rfl,rfl⟩,z,q⟩
def eJr(d:D)(xs:List D):Sto->Prop:=match d with
 |.ref a=>λS=>S a=some (.lst xs)
 |_=>λ_=>True
def dSq(te:ED):ID:=fun Γ S Q=>te Γ S λd S1=>∃xs,sqIs S1 d xs/\Q xs (eJr d xs) S1
theorem eQ7{F:Am}{S:Sto}{H:Hp}{p:Addr}{xs:List D}{us:List V}{G:Sto->Prop}(t:TupAt K (mt S F) H p us)(l:RepL K (mt S F) H xs us):ItOk K F S H (Itt K p) xs G where
 go:=λU f O H2 x z _ i d hd=>by
  have j:=(t.keep (x.kpF f)).sq;obtain⟨v,B,L⟩:=l.get hd;refine⟨⟨us,v,j,B⟩,λy Y ⟨N,J⟩=>?_⟩;subst N
  have:=J us j
  rw[B] at this;cases this;exact⟨Ext.refl _ _,z,L.keep (x.kpF f)⟩
 stop:=λU f O H2 x z _=>⟨us,(t.keep (x.kpF f)).sq,by rw[l.length];exact Nat.le_refl _⟩
theorem eQ8{F:Am}{S:Sto}{H:Hp}{p:Addr}{xs:List D}{us:List V}{G:Sto->Prop}(t:LstAt K (mt S F) H p us)(l:RepL K (mt S F) H xs us):ItOk K F S H (Itl K p) xs G where
 go:=λU f O H2 x z _ i d hd=>by
  obtain⟨v,B,L⟩:=l.get hd;have j:SqL K H2 p us:=(t.keep (x.kpF f)).sq;refine⟨⟨us,v,j,B⟩,λy Y ⟨N,J⟩=>?_⟩;subst N
  have:=J us j
  rw[B] at this;cases this;exact⟨Ext.refl _ _,z,L.keep (x.kpF f)⟩
 stop:=λU f O H2 x z _=>⟨us,(t.keep (x.kpF f)).sq,by rw[l.length];exact Nat.le_refl _⟩
theorem eQ9{F:Am}{S:Sto}{H:Hp}{p:Addr}{xs:List D}:ItOk K F S H (Itl K p) xs (eJr (.ref p) xs) where
 go:=λY f U H2 x j B i d hd=>by
  obtain⟨us,z,l⟩:=j.obj p _ B;obtain⟨v,J,N⟩:=l.get hd;refine⟨⟨us,v,SqL.of z,J⟩,λy Z ⟨O,L⟩=>?_⟩;subst O
  have:=L us (SqL.of z)
  rw[J] at this;cases this;exact⟨Ext.refl _ _,j,N⟩
 stop:=λY f U H2 x j B=>by
  obtain⟨us,z,l⟩:=j.obj p _ B;exact⟨us,SqL.of z,by rw[l.length];exact Nat.le_refl _⟩
theorem aZo{tg l:Expr}{tl:ED}(hl:PD K X l tl)(hK:X.K=K:=by rfl):PID K X tg l (dSq tl):=.of (fZq hl.o hK) fun σ H Q D=>D.el λF S Γ QD r g q c =>
 ⟨F,S,Γ,_,r,g,q,λv d H1 L j i v1 B=>by
  obtain⟨xs,hs,z⟩:=B;cases d with
  |tup ys =>
   cases hs;unfold RepV at v1;obtain⟨p,us,rfl,t,l⟩:=v1;exact .inr ⟨p,rfl,⟨us,t.sq⟩,c _ _ _ _ _ j i (eQ7 t l) z⟩
  |lst ys =>
   cases hs;unfold RepV at v1;obtain⟨p,us,rfl,t,l⟩:=v1;exact .inl ⟨p,rfl,⟨us,t.sq⟩,c _ _ _ _ _ j i (eQ8 t l) z⟩
  |ref p =>
   rw[rref v1];obtain⟨us,J,l⟩:=i.obj p _ hs;exact .inl ⟨p,rfl,⟨us,SqL.of J⟩,c _ _ _ _ _ j i eQ9 z⟩
  |_=>exact hs.elim⟩
def rngD(lo:Int):Nat->List D
 |0=>[]
 |n+1=>.int lo::rngD (lo+1) n
theorem aZk:∀(n:Nat) (lo:Int),(rngD lo n).length=n
 |0,_=>rfl
 |n+1,lo=>by simp[rngD,aZk n]
theorem aZz:∀(n:Nat) (lo:Int) (i:Nat) (d:D),(rngD lo n)[i]?=some d->i<n/\d=.int (lo+i)
 |0,lo,i,d,h=>by simp[rngD] at h
 |n+1,lo,0,d,h=>by simp[rngD] at h;exact⟨by lia,by rw[<- h];simp⟩
 |n+1,lo,i+1,d,h=>by
  have h':(rngD (lo+1) n)[i]?=some d:=by simpa [rngD] using h
  obtain⟨h1,h2⟩:=aZz n (lo+1) i d h';refine⟨by lia,?_⟩
  rw[h2]
  congr 1
  rw[Int.natCast_add];lia
theorem cXy{F:Am}{S:Sto}{H:Hp}{lo:Int}{n:Nat}{G:Sto->Prop}:ItOk K F S H (Itr lo n) (rngD lo n) G where
 go:=λD f B H2 x j _ i d hd=>by
  obtain⟨h1,rfl⟩:=aZz n lo i d hd;exact⟨h1,λy J ⟨z,v⟩=>by subst z;subst v;exact⟨Ext.refl _ _,j,by unfold RepV;rfl⟩⟩
 stop:=λD f B H2 x j _=>by rw[aZk];exact Nat.le_refl n
def fZr(ta:AD):ID:=fun Γ S Q=>ta Γ S λds S1=>match ds with
 |[.int j]=>(-(2^62)<=j/\j<2^62)/\Q (rngD 0 j.toNat) (λ_=>True) S1
 |_=>False
def fZs(ta:AD):ID:=fun Γ S Q=>ta Γ S λds S1=>match ds with
 |[.int i,.int j]=>(-(2^62)<=i/\i<2^62/\-(2^62)<=j/\j<2^62)/\Q (rngD i (j-i).toNat) (λ_=>True) S1
 |_=>False
theorem aZg{tg:Expr}{p:Pos}{ta:AD}(hg:Gl X "range")(hm:X.mg "range"=none)(ha:PAD K X [a] ta)(hs:az [a] X.env=[(false,eval a X.env)]:=by rfl):PID K X tg (.Call (.Name "range" p) [a] [] pos) (fZr ta):=.of (cZj hg hm ha.o hs) fun σ H Q z=>z.el λF S Γ QD r g q c =>
 ⟨F,S,Γ,_,r,g,q,λL ds H1 N B J v1 i=>by
  match ds,i with
  |[.int j],i =>
   obtain⟨v,rfl,D⟩:=v1.one;rw[rint D];exact⟨j,rfl,i.1.1,i.1.2,c _ _ _ _ _ B J cXy i.2⟩⟩
theorem bX1{tg:Expr}{p:Pos}{ta:AD}(hg:Gl X "range")(hm:X.mg "range"=none)(ha:PAD K X [a,b] ta)(hs:az [a,b] X.env=[(false,eval a X.env),(false,eval b X.env)]:=by rfl)(hs2:az [b] X.env=[(false,eval b X.env)]:=by rfl):PID K X tg (.Call (.Name "range" p) [a,b] [] pos) (fZs ta):=.of (cZk hg hm ha.o hs hs2) fun σ H Q D=>D.el λF S Γ QD r g q c =>
 ⟨F,S,Γ,_,r,g,q,λO ds H1 U J N v1 z=>by
  match ds,z with
  |[.int i,.int j],z =>
   obtain⟨v,w,rfl,L,B⟩:=v1.two;rw[rint L,rint B];exact⟨i,j,rfl,z.1,c _ _ _ _ _ J N cXy z.2⟩⟩
def dQy(x:Str):List D:=x.cps.toList.map λc=>.str ⟨#[c]⟩
def forD(g:GD)(tb:SD)(G:Sto->Prop)(E:EndsD):List D->Gm->Sto->Prop
 |[],Γ,S=>G S/\E.nx Γ S
 |x::xs,Γ,S=>G S/\g x Γ S fun Γ2 S2=>tb {E with nx:=forD g tb G E xs,ct:=forD g tb G E xs,bk:=E.nx} Γ2 S2
def dFor(wi:ID)(g:GD)(tb:SD):SD:=λE Γ S=>wi Γ S λxs G S1=>forD g tb G E xs Γ S1
theorem aZt{α:Type}{xs:List α}{i:Nat}(h:i<xs.length):xs.drop i=xs[i]::xs.drop (i+1):=cS h
theorem aJt{tg iter:Expr}{body:List Stmt}{wi:ID}{g:GD}{tb:SD}(hp:PassesOwn (aE X.prog X.w) X.A X.env X.xe)(hc:X.calm=true)(hi:PID K X tg iter wi)(hg:PGD K X tg g)(hb:PSsD K X body tb)(hs:∀x,b7 iter X.env x=pure x:=by intro _;rfl):PSD K X (.For tg iter body [] pos) (dFor wi g tb):=.of (eX0 hp hc hi.o hg.o hb.o hs) λD' σ H z0=>z0.el λF S Γ E r gm q c =>
 ⟨F,S,Γ,_,r,gm,q,λJ xs G H1 S1 Z r1 it q1=>by
  refine⟨λi m σ' H'=>m=xs.length-i/\i<=xs.length/\∃S' Γ',Ext S1 H1 S' H'/\Rp K F S' H'/\RepG K (mt S' F) H' Γ' σ'/\forD g tb G E (xs.drop i) Γ' S',⟨xs.length,by simp,Nat.zero_le _,S1,Γ,Ext.refl _ _,r1,gm.ext Z,by simpa using q1⟩,?_⟩
  rintro i m σ' H' ⟨rfl,hi.o,S',Γ',Y,r2,g2,f2⟩
  by_cases N:i<xs.length
  ·rw[aZt N] at f2;obtain⟨hG,f2⟩:=f2;obtain⟨hgo,hy⟩:=it.go F (FE.refl F H1) S' H' Y.w r2 hG i xs[i] (ag N);refine .inr ⟨hgo,fun σ'' D=>∃B Γ'',Ext S1 H1 B D/\Rp K F B D/\RepG K (mt B F) D Γ'' σ''/\forD g tb G E (xs.drop (i+1)) Γ'' B,fun σ'' D z=>⟨xs.length-(i+1),by lia,rfl,N,z⟩,λx H3 y3=>?_⟩
   obtain⟨x3,r3,v3⟩:=hy x H3 y3;refine⟨F,S',Γ',xs[i],_,r3,g2.ext x3,v3,f2,fun Γ4 S4 σ4 H4 x4 r4 g4 q4=>⟨F,S4,Γ4,_,r4,g4,q4,?_⟩⟩;have j:=Y.trans (x3.trans x4);exact⟨fun Γ5 O σ5 U L r5 g5 q5=>⟨O,Γ5,j.trans L,r5,g5,q5⟩,λv d U O L=>c.rt v d U O (Z.trans (j.trans L)),fun Γ5 O σ5 U L=>c.nx Γ5 O σ5 U (Z.trans (j.trans L)),fun Γ5 O σ5 U L r5 g5 q5=>⟨O,Γ5,j.trans L,r5,g5,q5⟩⟩
  ·have e:i=xs.length:=by lia
   subst e;rw[eP] at f2;exact .inl ⟨it.stop F (FE.refl F H1) S' H' Y.w r2 f2.1,c.nx Γ' S' σ' H' (Z.trans Y) r2 g2 f2.2⟩⟩
end
end L2
set_option maxHeartbeats 1000000
namespace L2
open PySem PySem.Spec PyProof.Rows
section
variable{X:Cx}{K:Fg}{pos:Pos}{k:Nat}
structure ExtX(D':Addr)(S:Sto)(H:Hp)(S':Sto)(H':Hp):Prop where
 keep:∀a o,a≠D'->S a=none->H a=some o->H' a=some o
 live:∀a,H a≠none->H' a≠none
 new:∀a,S' a≠none->S a≠none\/H a=none
theorem Ext.x{D':Addr}{S S':Sto}{H H':Hp}(x:Ext S H S' H'):ExtX D' S H S' H':=⟨λa o _=>x.keep a o,x.live,x.new⟩
theorem ExtX.trans{D':Addr}{S S1 S2:Sto}{H H1 H2:Hp}(x:ExtX D' S H S1 H1)(y:ExtX D' S1 H1 S2 H2):ExtX D' S H S2 H2 :=
  ⟨λa o n h h' => y.keep a o n (by
      cases e:S1 a with
      |none =>rfl
      | some z => rcases x.new a (by rw [e]; exact λz => by cases z) with z | z
                  · exact absurd h z
                  · rw [h'] at z; cases z) (x.keep a o n h h'),λa h =>y.live a (x.live a h),λa h =>by
    rcases y.new a h with z|z
    · exact x.new a z
    · exact .inr (aY λn =>x.live a n z)⟩
theorem ExtX.kp{D':Addr}{F:Am}{S S':Sto}{H H':Hp}(x:ExtX D' S H S' H')(hF:F D'):Keep (mt S F) H (mt S' F) H':=⟨λa o h e=>x.keep a o (by rintro rfl;exact h (.inr hF)) (aY λn=>h (.inl n)) e,λa h e=>λz=>by
 rcases z with z|z
 ·rcases x.new a z with y|y
  ·exact h (.inl y)
  ·exact e y
 ·exact h (.inr z)⟩
theorem ExtX.w{D':Addr}{F:Am}{S S':Sto}{H H':Hp}(x:ExtX D' S H S' H')(hF:F D'):ExtW F S H S' H':=⟨λa o h e=>x.keep a o (by rintro rfl;exact h (.inr hF)) (aY λn=>h (.inl n)) e,x.new⟩
def Free(L:List Nat)(σ:St):Prop:=∀i∈L,σ[i]?=some none
abbrev BD:=Gm->Sto->List D->(List D->Sto->Prop)->Prop
def bX2(K:Fg)(L:List Nat)(tv:Addr->TB)(td:BD):Prop:=∀D' F S H Γ σ acc zs N QD,Free L σ->F D'->Rp K F S H->RepG K (mt S F) H Γ σ->H D'=some (.lst zs)->RepL K (mt S F) H acc zs->td Γ S acc QD ->
 (∀acc' S' H' zs',ExtX D' S H S' H'->Rp K F S' H'->H' D'=some (.lst zs')->RepL K (mt S' F) H' acc' zs'->QD acc' S'->N H')->tv D' σ H N
def aJ4(te:ED):BD:=fun Γ S acc Q=>te Γ S λy S1=>acc.length<sizeLine/\Q (acc++[y]) S1
theorem aQm{L:List Nat}{te:ED}:bX2 K L (λD'=>eXl D' (upE K te)) (aJ4 te):=by
 intro D' F S H Γ σ acc zs N QD _ i r g Z l q c;refine⟨F,S,Γ,_,r,g,q,λv d H1 j B D v1 ⟨U,O⟩=>?_⟩;have Y:S D'=none:=(r.frm D' i).2;have J:j D'=none:=(D.frm D' i).2;have h1:H1 D'=some (.lst zs):=B.keep _ _ Y Z;have y:ExtX D' j H1 j (upd H1 D' (.lst (zs++[v]))):=⟨λa o n _ e=>by rw[upd_ne n];exact e,λa h=>by
  by_cases e:a=D'
  ·subst e;rw[aQ7];exact λz=>by cases z
  ·rw[upd_ne e];exact h,λa h=>.inl h⟩
 refine⟨zs,h1,by rw[l.length];exact U,c _ j _ (zs++[v]) (B.x.trans y) ?_ aQ7 ?_ O⟩
 ·exact⟨λa o e=>(D.obj a o e).keep (y.kp i) (upd_ne (by rintro rfl;rw[J] at e;cases e)),λa h=>by
   obtain⟨⟨ys,e,ct⟩,h2⟩:=D.frm a h
   by_cases z:a=D'
   ·subst z;exact⟨⟨_,aQ7,trivial⟩,h2⟩
   ·exact⟨⟨ys,by rw[upd_ne z];exact e,ct⟩,h2⟩⟩
 ·exact RepL.app ((l.ext B).keep (y.kp i)) (RepL.cons (v1.keep (y.kp i)) RepL.nil)
def CG(K:Fg)(L L':List Nat)(g:TG)(gd:GD):Prop:=∀F S H Γ σ d v Q QD,Free L σ->Rp K F S H->RepG K (mt S F) H Γ σ->RepV K (mt S F) H d v->gd d Γ S QD->(∀Γ' S' σ' H',Ext S H S' H'->Rp K F S' H'->RepG K (mt S' F) H' Γ' σ'->Wk σ σ'->Free L' σ'->QD Γ' S'->Q σ' H')->g v σ H Q
theorem Free.set{L:List Nat}{σ:St}{i:Nat}{v:V}(h:Free (i::L) σ)(hi:i∉L):Free L (σ.set i (some v)):=λj z=>by
 rw[fi (by rintro rfl;exact hi z)]
 exact h j (ay _ z)
theorem cg_name{L:List Nat}{i:Nat}(hi:i∉L:=by decide):CG K (i::L) L (bXg i) (aQu i):=λF S H Γ σ d v Q QD f r g j q c=>c _ S _ H (Ext.refl _ _) r (g.set j i) (dJ5 (f i aq)) (f.set hi) q
theorem eQa{L:List Nat}{i j:Nat}(hi:i∉j::L:=by decide)(hj:j∉L:=by decide):CG K (i::j::L) L (gTup K 2 (dXr (bXg i) (dXr (bXg j) gNil))) (eQ6 2 (cXw (aQu i) (cXw (aQu j) eJo))):=λF S H Γ σ d v Q QD f r g z q c=>by
 cases d with
 |tup ds =>
  obtain⟨p,us,rfl,sq,l⟩:=tup.st z;obtain⟨hl,q⟩:=q
  match ds,hl,q with
  |[N,J],_,q =>
   obtain⟨v1,v2,rfl,D,B⟩:=l.two;have f1:Free (j::L) (σ.set i (some v1)):=f.set hi;exact⟨p,_,rfl,sq,rfl,v1,_,rfl,v2,_,rfl,rfl,c _ S _ H (Ext.refl _ _) r ((g.set D i).set B j) ((dJ5 (f i aq)).trans (dJ5 (f1 j aq))) (f1.set hj) q.2⟩
 |_=>exact q.elim
def aZ2(g:GD)(tt:TD)(tb:BD)(G:Sto->Prop)(Γ0:Gm):List D->List D->Sto->(List D->Sto->Prop)->Prop
 |[],acc,S,Q=>G S/\Q acc S
 |x::xs,acc,S,Q=>G S/\g x Γ0 S fun Γ2 S2=>tt Γ2 S2 λb S3=>if b=true then tb Γ2 S3 acc λacc' S4=>aZ2 g tt tb G Γ0 xs acc' S4 Q else aZ2 g tt tb G Γ0 xs acc S3 Q
theorem eQb{L L':List Nat}{g:TG}{gd:GD}{tt:TD}{tv:Addr->TB}{tb:BD}(hg:CG K L L' g gd)(hb:bX2 K L' tv tb){D':Addr}{F:Am}{S:Sto}{H:Hp}{Γ:Gm}{σ:St}{acc:List D}{zs:List V}{N:Hp->Prop}{QD:List D->Sto->Prop}{J:It}{xs:List D}{G:Sto->Prop}
  (f:Free L σ) (hF:F D') (r:Rp K F S H) (gm:RepG K (mt S F) H Γ σ) (hH:H D'=some (.lst zs)) (l:RepL K (mt S F) H acc zs) (it:∀S2 H2,ExtX D' S H S2 H2->Rp K F S2 H2->G S2->(∀i d,xs[i]?=some d->J.go i H2/\∀x H3,J.yld i H2 x H3->Ext S2 H2 S2 H3/\Rp K F S2 H3/\RepV K (mt S2 F) H3 d x)/\J.stop xs.length H2)
  (q:aZ2 gd tt tb G Γ xs acc S QD) (c:∀acc' S' H' zs',ExtX D' S H S' H'->Rp K F S' H'->H' D'=some (.lst zs')->RepL K (mt S' F) H' acc' zs'->QD acc' S'->N H'):bXk J σ g (upT K tt) (tv D') N H:=by
 refine⟨λi m H'=>m=xs.length-i/\i<=xs.length/\∃S' acc' zs',ExtX D' S H S' H'/\Rp K F S' H'/\H' D'=some (.lst zs')/\RepL K (mt S' F) H' acc' zs'/\aZ2 gd tt tb G Γ (xs.drop i) acc' S' QD,⟨xs.length,by simp,Nat.zero_le _,S,acc,zs,(Ext.refl _ _).x,r,hH,l,by simpa using q⟩,?_⟩
 rintro i m H' ⟨rfl,hi,S',acc',zs',Z,r2,h2,l2,f2⟩;have g2:=gm.keep (Z.kp hF)
 by_cases Y:i<xs.length
 ·rw[aZt Y] at f2;obtain⟨hG,f2⟩:=f2;obtain⟨hgo,hy⟩:=(it S' H' Z r2 hG).1 i xs[i] (ag Y);refine .inr ⟨hgo,λv=>∃B j O,ExtX D' S H B v/\Rp K F B v/\v D'=some (.lst O)/\RepL K (mt B F) v j O/\aZ2 gd tt tb G Γ (xs.drop (i+1)) j B QD,λv z=>⟨xs.length-(i+1),by omega,rfl,Y,z⟩,λx H3 y3=>?_⟩
  obtain⟨x3,r3,v3⟩:=hy x H3 y3;refine hg F S' H3 Γ σ xs[i] x _ _ f r3 (g2.ext x3) v3 f2 fun Γ4 S4 σ4 H4 x4 r4 g4 wk fr4 q4=>⟨wk,F,S4,Γ4,_,r4,g4,q4,λz H5 S5 x5 r5 q5=>?_⟩;have U:=x3.trans (x4.trans x5);have h5:H5 D'=some (.lst zs'):=U.keep _ _ (r2.frm D' hF).2 h2;have l5:=l2.ext U;have x05:ExtX D' S H S5 H5:=Z.trans U.x;cases z with
  |false=>exact⟨S5,acc',zs',x05,r5,h5,l5,q5⟩
  |true=>exact hb D' F S5 H5 Γ4 σ4 acc' zs' _ _ fr4 hF r5 (g4.ext x5) h5 l5 q5 λacc6 S6 H6 zs6 x6 r6 h6 l6 q6=>⟨S6,acc6,zs6,x05.trans x6,r6,h6,l6,q6⟩
 ·have e:i=xs.length:=by omega
  subst e;rw[eP] at f2;exact .inl ⟨(it S' H' Z r2 f2.1).2,c acc' S' H' zs' Z r2 h2 l2 f2.2⟩
def eJs(wi:ID)(g:GD)(tt:TD)(tb:BD):BD:=fun Γ S acc Q=>wi Γ S λxs G S1=>aZ2 g tt tb G Γ xs acc S1 Q
def cXz(is:List (Option Nat))(Γ:Gm):Gm:=is.map λo=>o.bind λi=>(Γ[i]?).join
theorem RepG.at{M:Am}{H:Hp}:∀{g:Gm}{σ:St}{i:Nat}{d:D},RepG K M H g σ->g[i]?=some (some d)->∃v,σ[i]?=some (some v)/\RepV K M H d v
 |[],_,_,_,_,e=>by simp at e
 |none::g,_,0,_,_,e=>by simp at e
 |some d::g,_,0,e,⟨v,τ,rfl,q,r⟩,h=>by simp at h;subst h;exact⟨v,rfl,q⟩
 |none::g,_,i+1,d,⟨v,τ,rfl,r⟩,h=>by
  obtain⟨u,j,h1⟩:=RepG.at (i:=i) r (by simpa using h)
  exact⟨u,by simpa using j,h1⟩
 |some _::g,_,i+1,d,⟨v,τ,rfl,q,r⟩,h=>by
  obtain⟨u,j,h1⟩:=RepG.at (i:=i) r (by simpa using h)
  exact⟨u,by simpa using j,h1⟩
theorem RepG.capt{M:Am}{H:Hp}{g:Gm}{σ:St}(h:RepG K M H g σ):∀is:List (Option Nat),RepG K M H (cXz is g) (capt is σ)
 |[]=>rfl
 |o::is=>by
  have j:=RepG.capt h is;cases o with
  |none=>exact⟨_,_,rfl,j⟩
  |some i =>
   show RepG K M H ((g[i]?).join::cXz is g) ((σ[i]?).join::L2.capt is σ);cases e:g[i]? with
   |none=>exact⟨_,_,rfl,j⟩
   |some z =>
    cases z with
    |none=>exact⟨_,_,rfl,j⟩
    |some d =>
     obtain⟨v,B,r⟩:=h.at e;rw[B];exact⟨v,_,rfl,r,j⟩
def eQc(b:Bool)(is:List (Option Nat))(wi:ID)(g:GD)(tt:TD)(tb:BD):ED:=fun Γ S Q=>wi Γ S λxs G S1=>aZ2 g tt tb G (cXz is Γ) xs [] S1 λacc S2=>newL b acc S2 Q
theorem cJ0{b:Bool}{L L':List Nat}{is:List (Option Nat)}{wi:ID}{g:TG}{gd:GD}{tt:TD}{tv:Addr->TB}{tb:BD}(hL:∀σ,Free L (capt is σ))(hg:CG K L L' g gd)(hb:bX2 K L' tv tb):∀σ H Q,upE K (eQc b is wi gd tt tb) σ H Q->bJt is (upI K wi) g (upT K tt) tv σ H Q:=fun σ H Q z0=>z0.el λF S Γ QD r gm q c =>
 ⟨F,S,Γ,_,r,gm,q,λJ xs G H1 v x1 r1 it q1 D' j=>by
  have N:v D'=none:=r1.sn j;have fe:FE F H1 (λa=>F a\/a=D'):=λa h=>h.elim .inl λe=>.inr (by rw[e];exact j)
  have nF:¬ F D':=λh=>by
   obtain⟨⟨ys,e,_⟩,_⟩:=r1.frm D' h;rw[j] at e;cases e
  have xe:Ext v H1 v (upd H1 D' (.lst [])):=Ext.same (aQw j);have kp:Keep (mt v F) H1 (mt v λa=>F a\/a=D') (upd H1 D' (.lst [])):=xe.w.kpF fe;have Z:Rp K (λa=>F a\/a=D') v (upd H1 D' (.lst [])):=⟨λa o e=>(r1.obj a o e).keep kp (upd_ne (by rintro rfl;rw[N] at e;cases e)),λa h=>by
   rcases h with h|h
   ·obtain⟨⟨ys,e,ct⟩,h2⟩:=r1.frm a h;exact⟨⟨ys,by rw[upd_ne (by rintro rfl;rw[j] at e;cases e)];exact e,ct⟩,h2⟩
   ·subst h;exact⟨⟨_,aQ7,trivial⟩,N⟩⟩
  have old:∀ {B H2},ExtX D' v (upd H1 D' (.lst [])) B H2->Ext v H1 B H2:=λ{B H2} y=>⟨λa o h e=>y.keep a o (by rintro rfl;rw[j] at e;cases e) h (by rw[upd_ne (by rintro rfl;rw[j] at e;cases e)];exact e),λa h=>y.live a (xe.live a h),λa h=>by
   rcases y.new a h with z|z
   ·exact .inl z
   ·by_cases e:a=D'
    ·subst e;exact .inr j
    ·rw[upd_ne e] at z;exact .inr z⟩
  refine eQb hg hb (hL σ) (F:=λa=>F a\/a=D') (.inr rfl) Z ((gm.ext x1).keep kp |>.capt is) aQ7 RepL.nil (λB H2 y Z hG=>⟨it.go _ fe B H2 (old y).w Z hG,it.stop _ fe B H2 (old y).w Z hG⟩) q1 λi S' H' D y Y h3 l3 q3=>?_
  have less:Keep (mt S' λa=>F a\/a=D') H' (mt S' F) H':=⟨λ_ _ _ e=>e,λa h _=>λz=>h (z.elim .inl λw=>.inr (.inl w))⟩;have U:=old y;have O:S' D'=none:=(Y.frm D' (.inr rfl)).2;have r4:Rp K F S' H':=⟨λa o e=>(Y.obj a o e).keep less rfl,λa h=>Y.frm a (.inl h)⟩;have nm:¬ mt S' F D':=λz=>z.elim (λw=>w O) nF;cases b with
  |false =>
   refine c (.ref D') (.lst i) H' S' (x1.trans U) r4 ?_ q3;unfold RepV;exact⟨D',D,rfl,.inl ⟨nm,.inl h3⟩,l3.keep less⟩
  |true =>
   have x5:Ext v H1 (supd S' D' (.lst i)) H':=⟨U.keep,U.live,λa h=>by
    by_cases e:a=D'
    ·subst e;exact .inr j
    ·rw[aQ8 e] at h;exact U.new a h⟩
   have k6:Keep (mt S' λa=>F a\/a=D') H' (mt (supd S' D' (.lst i)) F) H':=⟨λ_ _ _ e=>e,λa h _=>λz=>by
    rcases z with z|z
    ·by_cases e:a=D'
     ·exact h (.inr (.inr e))
     ·rw[aQ8 e] at z;exact h (.inl z)
    ·exact h (.inr (.inl z))⟩
   refine c (.ref D') (.ref D') H' (supd S' D' (.lst i)) (x1.trans x5) ⟨λa o e=>?_,λa h=>⟨(r4.frm a h).1,?_⟩⟩ (by unfold RepV;rfl) (q3 D' O)
   ·by_cases e1:a=D'
    ·subst e1;rw[aQ5] at e;cases e;exact⟨D,h3,l3.keep k6⟩
    ·rw[aQ8 e1] at e;exact(Y.obj a o e).keep k6 rfl
   ·rw[aQ8 (by rintro rfl;exact nF h)];exact(r4.frm a h).2⟩
def dYes:TD:=λ_ S Q=>Q true S
theorem aQp:PTs X [] (upT K dYes):=λpins s σ H Q I i=>i.el λF S Γ QD r g q c=>dJ3 pins s σ H Q I (c true H S (Ext.refl _ _) r q)
theorem aQj{L:List Nat}{is:List (Option Nat)}(h:(L.all λi=>decide (is[i]?=some none))=true):∀σ,Free L (capt is σ):=fun σ i hi=>by
 have:=of_decide_eq_true (bF.mp h i hi)
 unfold capt;rw[aJ,this]
 rfl
theorem aXq{c:Expr}{t:TD}(h:PTD K X c t):PTs X [c] (upT K t):=dJ4 h.o
end
end L2
set_option maxHeartbeats 4000000
namespace L2
open PySem PySem.Spec PyProof.Rows
section
variable{prog:aF}{w:aS}{s:ak}
def Col(prog:aF)(w:aS)(s:ak)(v:ad)(Pv:List ad->Prop):Prop:=∀(A:a4) (E:ad->ak->Prop) (R:List ad->ak->Prop),A.handled=none ->
 (∀vals h' d tk,Pv vals->(∀b o,s.heap.get? b=some o->h'.get? b=some o)->R vals {s with heap:=h',drawn:=d,toks:=tk})->aG (aE prog w) A (collect v) R E s
theorem cJ1{a:Addr}{T:String}{o:Obj}{its:List ad}{n:Nat}(hT:T="list"\/T="tuple")(ho:s.heap.get? a=some o)(hc:o.cls=.type T)(hd:o.data=.seq its.toArray n)(hz:its.length<=sizeLine):Col prog w s (.ref a) (·=its):=λA E R _ h =>
 wpAny_collect_seq a hT ho hc hd (λh' k=>by
  have:=h its h' s.drawn s.toks rfl k
  simpa using this) (by simpa using hz)
theorem dQz{a:Addr}{vs:List (Key×ad)}(lo:(a==sysModules)=false)(hd:s.heap.DictOf (aJc prog w) a vs)(hz:vs.length<=sizeLine):Col prog w s (.ref a) (λvals=>vals.length=vs.length/\∀(j:Nat) (v:ad),vals[j]?=some v->∃(k:Key) (x:ad),vs[j]?=some (k,x)/\dQ1 k v=true):=λA E R hh h=>by
 obtain⟨ep,z⟩:=hd.dictAt;refine PySem.W.kdu_collect (PySem.W.kdl_dict (knd:=aJc prog w) (kvs:=vs) (ep:=ep) lo) hh z hz λh' B acc D i=>?_;exact h acc.toList h' s.drawn B ⟨by rw[aM];exact i.1,λj v e=>i.2 j v (by rw[<- aL];exact e)⟩ D
theorem aXr{A:a4}{E:ad->ak->Prop}{v:ad}{Pv:List ad->Prop}{Q:ad->ak->Prop}(hh:A.handled=none)(col:Col prog w s v Pv)(hz:∀vals,Pv vals->vals.length<=sizeLine)
  (srt:∀(vals:List ad) (h1:bd) (d:Drawn) (tk:Nat),Pv vals->(∀b o,s.heap.get? b=some o->h1.get? b=some o)->aG (aE prog w) A.in1.in1 (cR.«list.sort» ⟨[.ref h1.objs.size],[]⟩) (λfin s'=>fin=.done (.ret .none)/\Q (.ref h1.objs.size) s') E {s with heap:=h1.push (bY "list" vals.toArray 0),drawn:=d,toks:=tk}) :
  aG (aE prog w) A (call (.builtin "sorted") [v]) Q E s:=by
 refine ig kind_sorted plain_sorted entry_sorted (args_sorted1 _) ?_;unfold cR.«sorted»;refine aa (m:=checkCount "sorted" 1 1 _) (af ?_);refine aa (col A.in1 _ _ (by simp[hh]) λvals h1 d tk pv kp=>?_)
 refine aa (wpAny_newList ?_ (hz vals pv));have i:(h1.push (bY "list" vals.toArray 0)).get? h1.objs.size=some (bY "list" vals.toArray 0):=av _ rfl;refine aa (bn (d0 slot_list_sort ⟨_,i,rfl⟩ entry_list_sort ?body (args_list_sort _)))
 case body =>
  refine cT (srt vals h1 d tk pv kp) (λfin s' ⟨e,q⟩=>?_) λ_ _ e=>e;subst e;exact⟨_,rfl,af ⟨_,rfl,q⟩⟩
theorem aJu{h:bd}{a:Addr}{vs:List ad}{n:Nat}{out:Array ad}(ho:h.get? a=some (bY "list" vs.toArray n)):(∃c,(gy h a vs out).get? a=some (bY "list" out c))/\∀b o,b≠a->h.get? b=some o->(gy h a vs out).get? b=some o:=by
 unfold gy;obtain⟨z,i⟩:∃z,(h.update a (bK λ_=>(#[]:Array ad))).get? a=some (bY "list" #[] z):=⟨_,eg ho λ_=>#[]⟩;have B:=cH h a (bK λ_=>(#[]:Array ad));have j:∀b o,(h.update a (bK λ_=>(#[]:Array ad))).get? b=some o->(((h.update a (bK λ_=>(#[]:Array ad))).push (bY "tuple" vs.toArray 0)).push (bY "list" #[] 0)).get? b=some o:=λb o e=>ae _ (ae _ e);refine⟨⟨_,eg (j _ _ i) λ_=>out⟩,λb o v e=>?_⟩;have s2:=cH (((h.update a (bK λ_=>(#[]:Array ad))).push (bY "tuple" vs.toArray 0)).push (bY "list" #[] 0)) a (bK λ_=>out);exact(s2.2 b v).trans (j b o ((B.2 b v).trans e))
theorem cJ2{A:a4}{E:ad->ak->Prop}{a:Addr}{vs:List ad}{ss:List Str}{n:Nat}{P:iQ->ak->Prop}(ho:s.heap.get? a=some (bY "list" vs.toArray n))(hS:ja vs ss)(h64:vs.length<=sizeLine)
  (h:∀(out:List ad) (ss':List Str) (h':bd) (c:Nat),ja out ss'->ss'.Perm ss->sortedS ss'=true->h'.get? a=some (bY "list" out.toArray c)->(∀b o,b≠a->s.heap.get? b=some o->h'.get? b=some o)->P (.done (.ret .none)) {s with heap:=h'}) :
  aG (aE prog w) A (cR.«list.sort» ⟨[.ref a],[]⟩) P E s:=by
 refine SF.treeK strKind_oneLt ho hS.keysOf (λv j rest e=>keyKind_strs (by rw[<- e];exact hS)) h64 λi B z=>?_
 obtain⟨ss',h1,h2,L⟩:=sorted_out_str hS B z;obtain⟨⟨c,J⟩,D⟩:=aJu (out:=(aO i).map (·.2)) ho;exact h _ ss' _ c h1 h2 L (by rw[J]) D
theorem cJ3{A:a4}{E:ad->ak->Prop}{a:Addr}{vs:List ad}{ns:List Int}{n:Nat}{P:iQ->ak->Prop}(ho:s.heap.get? a=some (bY "list" vs.toArray n))(hI:gL vs ns)(h64:vs.length<=sizeLine)
  (h:∀(out:List ad) (ns':List Int) (h':bd) (c:Nat),gL out ns'->ns'.Perm ns->ns'.Pairwise (·<=·)->h'.get? a=some (bY "list" out.toArray c)->(∀b o,b≠a->s.heap.get? b=some o->h'.get? b=some o)->P (.done (.ret .none)) {s with heap:=h'}) :
  aG (aE prog w) A (cR.«list.sort» ⟨[.ref a],[]⟩) P E s:=by
 refine SF.treeI ho hI h64 λout ns' h1 h2 v=>?_;obtain⟨⟨c,j⟩,i⟩:=aJu (out:=out) ho;exact h _ ns' _ c h1 h2 v (by rw[j]) i
end
section
variable{X:Cx}{K:Fg}
def Src(K:Fg)(H:Hp)(x:V)(us:List V):Prop:=∃a,x=.ref a/\(SqL K H a us\/SqT K H a us\/∃kvs:List (Key×V),H a=some (.dK kvs)/\us=kvs.map λp=>kV p.1)
theorem bX3:∀{kvs:List (Key×V)}{vs:List (Key×ad)}{vals:List ad},KV kvs vs->vals.length=vs.length->(∀(j:Nat) (v:ad),vals[j]?=some v->∃(k:Key) (x:ad),vs[j]?=some (k,x)/\dQ1 k v=true)->Vals (kvs.map λp=>kV p.1) vals
 |[],_,vals,.nil,hl,_=>by cases vals with
  |nil=>exact .nil
  |cons _ _=>simp at hl
 |p::kvs,_,vals,.cons (b:=q) D B,hl,h=>by
  cases vals with
  |nil=>simp at hl
  |cons v vals =>
   refine .cons ?_ (bX3 B (by simpa using hl) λj v e=>by simpa using h (j+1) v (by simpa using e))
   obtain⟨k,x,e,J⟩:=h 0 v rfl;have L:q=(k,x):=by simpa using e
   have z:p.1=k:=by rw[D.1,L]
   show RelV (kV p.1) v;rw[z];rcases aQh J with⟨i,t,rfl,rfl⟩|⟨y,t,rfl,rfl⟩
   ·exact⟨t,rfl⟩
   ·exact⟨t,rfl⟩
theorem Inv.toks{pins:List (Addr×Obj)}{σ:St}{H:Hp}{s:ak}(I:Inv X pins σ H s){h':bd}(k:∀b o,s.heap.get? b=some o->h'.get? b=some o)(d:Drawn)(tk:Nat):Inv X pins σ H {s with heap:=h',drawn:=d,toks:=tk}:=(I.kept (t':=tk) k).drawn d
theorem Inv.src{pins:List (Addr×Obj)}{σ:St}{H:Hp}{s:ak}(I:Inv X pins σ H s)(hK:X.K=K){x:V}{u:ad}{us:List V}(h:Src K H x us)(r:RelV x u):Col X.prog X.w s u (λvals=>Vals us vals)/\us.length<=sizeLine:=by
 subst hK;obtain⟨a,rfl,h⟩:=h;cases r;rcases h with h|h|⟨z,h,rfl⟩
 ·obtain⟨its,j,⟨o,n,B,D,_,hd⟩,v⟩:=I.list h;have hl:=j.length;exact⟨λA E R hh q=>cJ1 (.inl rfl) B D hd (by lia) A E R hh λvals h' d i e k=>q vals h' d i (by rw[e];exact j) k,v⟩
 ·obtain⟨its,j,⟨o,B,D,n,hd⟩,v⟩:=I.tuple h;have hl:=j.length;exact⟨λA E R hh q=>cJ1 (.inr rfl) B D hd (by lia) A E R hh λvals h' d i e k=>q vals h' d i (by rw[e];exact j) k,v⟩
 ·obtain⟨v,lo,vs,J,hd⟩:=I.hok a _ h;have hl:z.length=vs.length:=cw J;exact⟨λA E R hh q=>dQz lo hd (by lia) A E R hh λvals h' d i e k=>q vals h' d i (bX3 J e.1 e.2) k,by rw[am];exact v⟩
def eJt(K:Fg):List V->Hp->VK->Prop:=λxs H Q=>∃(x:V) (ss:List Str),xs=[x]/\Src K H x (ss.map V.str)/\∀(p:Addr) (out:List Str),H p=none->out.Perm ss->out.Pairwise (λa b=>HT.ltS b a=false)->Q (.ref p) (upd H p (.lst (out.map V.str)))
theorem bQi:∀{l:List Str},sortedS l=true->l.Pairwise λa b=>HT.ltS b a=false
 |[],_=>.nil
 |[x],_=>cv _ _
 |x::y::l,h=>by
  have h':(!ltCps y.cps.toList x.cps.toList&&risingS y l)=true:=h;rw[a6] at h';have D:=bQi (l:=y::l) h'.2;have v:HT.ltS y x=false:=by
   have:=h'.1
   rw[dw,ltCps_eq] at this;exact this
  refine bz.mpr ⟨λz B=>?_,D⟩;rcases aK.mp B with rfl|B
  ·exact v
  ·have i:=(bz.mp D).1 z B;cases e:HT.ltS z x with
   |false=>rfl
   |true =>
    by_cases j:y=x
    ·subst j;rw[i] at e;cases e
    ·have:=HT.ltS_tot v j
     have:=HT.ltS_tr e this
     rw[i] at this;cases this
theorem cJ4(hK:X.K=K:=by rfl)(hc:X.calm=true:=by rfl):CallR X (.builtin "sorted") (eJt K):=by
 intro pins s σ H xs us Q I r h;obtain⟨x,ss,rfl,J,q⟩:=h;obtain⟨u,rfl,D⟩:=aZp r;obtain⟨col,j⟩:=I.src hK J D;have len:∀{vals:List ad},Vals (ss.map V.str) vals->vals.length=ss.length:=λv=>by have:=v.length;simpa using this.symm
 refine aXr (I.ok.hd hc) col (λvals v=>by rw[len v];simpa using j) λvals h1 d i pv kp=>?_
 have B:H h1.objs.size=none:=(I.toks kp d i).hok.fresh (Nat.le_refl _);refine cJ2 (s:={ s with heap:=h1.push (bY "list" vals.toArray 0),drawn:=d,toks:=i }) (av _ rfl) (cXl (H:=H) (ds:=ss) (xs:=ss.map V.str) (by
  clear j q J col D pv len
  induction ss with
  |nil=>exact .nil
  |cons a ss L=>exact .cons rfl L) pv) (by rw[len pv];simpa using j) λout z h' c a1 a2 U O N=>⟨rfl,?_⟩
 have Y:=I.toks kp d i;obtain⟨v1,v2⟩:=bQy (H:=H) a1;refine⟨.ref h1.objs.size,_,Y.laid (a:=h1.objs.size) (o:=.lst (z.map V.str)) (t':=i) (λb o e=>N b o (Nat.ne_of_lt (aD e)) (ae _ e)) (Nat.le_refl _) ⟨?_,out,c,v1,O⟩,rfl,q _ _ B a2 (bQi U)⟩
 have:=a2.length_eq
 rw[am,this];simpa using j
def eJu(K:Fg):List V->Hp->VK->Prop:=λxs H Q=>∃(x:V) (ns:List Int),xs=[x]/\Src K H x (ns.map V.int)/\∀(p:Addr) (out:List Int),H p=none->out.Perm ns->out.Pairwise (·<=·)->Q (.ref p) (upd H p (.lst (out.map V.int)))
theorem cJ5(hK:X.K=K:=by rfl)(hc:X.calm=true:=by rfl):CallR X (.builtin "sorted") (eJu K):=by
 intro pins s σ H xs us Q I r h;obtain⟨x,ss,rfl,J,q⟩:=h;obtain⟨u,rfl,D⟩:=aZp r;obtain⟨col,z⟩:=I.src hK J D;have len:∀{vals:List ad},Vals (ss.map V.int) vals->vals.length=ss.length:=λv=>by have:=v.length;simpa using this.symm
 refine aXr (I.ok.hd hc) col (λvals v=>by rw[len v];simpa using z) λvals h1 d i pv kp=>?_
 have B:H h1.objs.size=none:=(I.toks kp d i).hok.fresh (Nat.le_refl _);refine cJ3 (s:={s with heap:=h1.push (bY "list" vals.toArray 0),drawn:=d,toks:=i}) (av _ rfl) (cQv pv) (by rw[len pv];simpa using z) λout j h' c a1 a2 O N L=>⟨rfl,?_⟩
 have U:=I.toks kp d i;refine⟨.ref h1.objs.size,_,U.laid (a:=h1.objs.size) (o:=.lst (j.map V.int)) (t':=i) (λb o e=>L b o (Nat.ne_of_lt (aD e)) (ae _ e)) (Nat.le_refl _) ⟨?_,out,c,aJg a1,N⟩,rfl,q _ _ B a2 O⟩
 have:=a2.length_eq
 rw[am,this];simpa using z
def eJv(K:Fg):List V->Hp->VK->Prop:=λxs H Q=>∃(x:V) (us:List V) (ds:List (List Str)),xs=[x]/\Src K H x us/\br (dT K dS H) us ds/\∀(p:Addr) (idx:List Nat),H p=none->idx.Perm (a7 us.length)->(idx.map λi=>ds.getD i []).Pairwise (λa b=>HT.lexS b a=false)->(idx.map λi=>ds.getD i []).Perm ds->Q (.ref p) (upd H p (.lst (idx.map λi=>us.getD i V.non)))
theorem tsOf{pins:List (Addr×Obj)}{σ:St}{H:Hp}{s:ak}(I:Inv X pins σ H s)(hK:X.K=K){h':bd}(k:∀b o,s.heap.get? b=some o->h'.get? b=some o):∀{us:List V}{vs:List ad}{ds:List (List Str)},Vals us vs->br (dT K dS H) us ds->br (KS.TS h') vs ds
 |_,_,_,.nil,.nil=>.nil
 |_,_,_,.cons r q,.cons d p=>by
  refine .cons ?_ (tsOf I hK k q p);obtain⟨b,xs,e,i,pp⟩:=d;rw[e] at r;cases r;rw[<- hK] at i;obtain⟨its,j,⟨o,v,z⟩,_⟩:=I.tuple i;exact⟨b,its.toArray,rfl,⟨o,k b o v,z⟩,bQw pp j⟩
theorem cQb{us:List V}{vs:List ad}(p:Vals us vs):∀(idx:List Nat),(∀i∈idx,i<us.length)->Vals (idx.map λi=>us.getD i V.non) (idx.map λi=>vs.getD i cK)
 |[],_=>.nil
 |i::idx,h=>by
  refine .cons ?_ (cQb p idx λj v=>h j (ay _ v));have hi:=h i aq;obtain⟨u,e,r⟩:=p.get (ag hi);show RelV (us.getD i V.non) (vs.getD i cK);rw[ah,ah,e,ag hi];exact r
theorem cJ6(hu:X.A.units+8<cB)(hK:X.K=K:=by rfl)(hc:X.calm=true:=by rfl):CallR X (.builtin "sorted") (eJv K):=by
 intro pins s σ H xs us Q I r h;obtain⟨x,ys,ds,rfl,hs,N,q⟩:=h;obtain⟨u,rfl,O⟩:=aZp r;obtain⟨col,hz⟩:=I.src hK hs O;have hl:ys.length=ds.length:=cw N;refine aXr (I.ok.hd hc) col (λvals v=>by rw[<- v.length];exact hz) λvals h1 d j pv kp=>?_
 have B:=pv.length;have L:=I.toks kp d j;have J:H h1.objs.size=none:=L.hok.fresh (Nat.le_refl _);refine KS.sort_tupsL (s:={s with heap:=h1.push (bY "list" vals.toArray 0),drawn:=d,toks:=j}) (ds:=ds) (by show X.A.units+1+1<_;lia) (av _ rfl) (tsOf L hK (λb o e=>ae _ e) pv N) (by lia) λidx h' c z Z Y g U=>⟨rfl,?_⟩
 have D:∀i∈idx,i<ys.length:=λi hi=>by have:=aZ.mp (z.mem_iff.mp hi);lia
 have il:idx.length=vals.length:=by have:=z.length_eq;simpa using this
 refine⟨.ref h1.objs.size,_,L.laid (a:=h1.objs.size) (o:=.lst (idx.map λi=>ys.getD i V.non)) (t':=j) (λb o e=>U b o (Nat.ne_of_lt (aD e)) (ae _ e)) (Nat.le_refl _) ⟨?_,_,c,cQb pv idx D,g⟩,rfl,q _ idx J (by rw[B];exact z) Z Y⟩
 rw[am];lia
end
section
variable{X:Cx}{K:Fg}{pos:Pos}{k:Nat}
section
variable{elt target iter:Expr}{ifs:List Expr}{gs:List eE}{scope:Scope}{N':List Str}{is:List (Option Nat)}{wi:ID}{g:TG}{gd:GD}{tt:TD}{tv:Addr->TB}{tb:BD}{oc:Option Str}{m:ad->Env->Sem Unit}{b:Bool}
theorem aQv(L L':List Nat)(hcalm:X.calm=true)(hN:X.N.Nodup)
  (hturn:∀it acc env,eK (.ListComp elt (⟨target,iter,ifs,0⟩::gs) scope pos) 0 it acc env=aQx target ifs iter.pos (m acc env) (.compLoop (.ListComp elt (⟨target,iter,ifs,0⟩::gs) scope pos) 0 it acc env) it env)
  (cp:Cap X.N scope N' is) (hL:∀σ,Free L (capt is σ)) (hi:PID K X target iter wi) (hgd:CG K L L' g gd)
  (hg:∀cl C fp s H,PG (aQ9 X N' scope cl C fp s H oc) target g) (ht:∀cl C fp s H,PTs (aQ9 X N' scope cl C fp s H oc) ifs (upT K tt)) (hbd:bX2 K L' tv tb) (hb:∀cl C fp s H D,PB (aQ9 X N' scope cl C fp s H oc) (m (.ref D) (gE scope cl C X.env)) (tv D))
  (hcf:∀n acc,eJ n scope.names acc=ocl oc n acc:=by intro _ _;rfl) (hpc:∀h,fT h scope.names=ohp oc h:=by intro _;rfl)
  (hkind:scope.kind=.function:=by rfl) (hcell:∀y∈scope.names,y.2=.cell->oc=some y.1:=by decide +kernel)
  (hu:∀y∈scope.names,scope.names.lookup y.1=some y.2:=by decide +kernel) (hoc:∀x,oc=some x->scope.names.lookup x=some .cell:=by intro x h;cases h <;> rfl)
  (hVb:okV scope.names X.env.scope.names=true:=by first|rfl|kernel_rfl)
  (hs:∀x,b7 iter X.env x=pure x:=by intro _;rfl) :
  PD K X (.ListComp elt (⟨target,iter,ifs,0⟩::gs) scope pos) (eQc b is wi gd tt tb):=.of (dQg hcalm hN hturn cp hi.o hg ht hb hcf hpc hkind hcell hu hoc hVb hs) (cJ0 hL hgd hbd)
theorem eQd{x:Str}{i:Nat}{pos' spos:Pos}(hix:X.N[i]?=some x)(hx:Loc X.env.scope x)(L L':List Nat)(hcalm:X.calm=true)(hN:X.N.Nodup)
  (hturn:∀it acc env,eK (.ListComp elt (⟨target,iter,ifs,0⟩::gs) scope pos) 0 it acc env=aQx target ifs iter.pos (m acc env) (.compLoop (.ListComp elt (⟨target,iter,ifs,0⟩::gs) scope pos) 0 it acc env) it env)
  (cp:Cap X.N scope N' is) (hL:∀σ,Free L (capt is σ)) (hi:PID K X target iter wi) (hgd:CG K L L' g gd)
  (hg:∀cl C fp s H,PG (aQ9 X N' scope cl C fp s H oc) target g) (ht:∀cl C fp s H,PTs (aQ9 X N' scope cl C fp s H oc) ifs (upT K tt)) (hbd:bX2 K L' tv tb) (hb:∀cl C fp s H D,PB (aQ9 X N' scope cl C fp s H oc) (m (.ref D) (gE scope cl C X.env)) (tv D))
  (hcf:∀n acc,eJ n scope.names acc=ocl oc n acc:=by intro _ _;rfl) (hpc:∀h,fT h scope.names=ohp oc h:=by intro _;rfl)
  (hkind:scope.kind=.function:=by rfl) (hcell:∀y∈scope.names,y.2=.cell->oc=some y.1:=by decide +kernel)
  (hu:∀y∈scope.names,scope.names.lookup y.1=some y.2:=by decide +kernel) (hoc:∀x,oc=some x->scope.names.lookup x=some .cell:=by intro x h;cases h <;> rfl)
  (hVb:okV scope.names X.env.scope.names=true:=by first|rfl|kernel_rfl)
  (hs:∀x,b7 iter X.env x=pure x:=by intro _;rfl)
  (hsw:iB (.ListComp elt (⟨target,iter,ifs,0⟩::gs) scope pos) (some (.Name x pos')) spos.line X.env=pure true:=by first|rfl|kernel_rfl) (hf:X.fn x=true\/X.env.scope.names.lookup x=some .local:=by first|exact .inl rfl|exact .inr rfl|assumption) :
  PSD K X (.Assign [.Name x pos'] (.ListComp elt (⟨target,iter,ifs,0⟩::gs) scope pos) spos) (dAsg (eQc b is wi gd tt tb) (aQu i)):=.of (dJ7 hix hx hcalm hN hturn cp hi.o hg ht hb hcf hpc hkind hcell hu hoc hVb hs hsw hf) λY σ H B=>B.el λF S Γ E r z q c=>by
 refine cJ0 (tt:=tt) (b:=b) hL hgd hbd σ H _ ⟨F,S,Γ,_,r,z,q,λv d H1 U j J v1 O=>?_⟩;exact c.nx _ U _ H1 j J ((z.ext j).set v1 i) O
end
def dCut(t u:SD):SD:=λE Γ S=>∃M:Gm->Sto->Prop,t {E with nx:=M} Γ S/\∀Γ' S',M Γ' S'->u E Γ' S'
theorem eQe{st:Stmt}{rest:List Stmt}{t u:SD}(h1:PSD K X st t)(h2:PSsD K X rest u):PSsD K X (st::rest) (dCut t u):=.of (bJq h1.o h2.o) λD σ H ⟨F,S,Γ,E,r,g,⟨M,q,B⟩,c⟩ =>
 ⟨F,S,Γ,{E with nx:=M},r,g,q,fun Γ1 i σ1 H1 j v g1 z=>⟨F,i,Γ1,E,v,g1,B Γ1 i z,c.ext j⟩,c.rt,c.bk,c.ct⟩
abbrev SpD:=List D->Sto->DK->Prop
def spU(K:Fg)(sp:SpD):Sp:=λvs H Q _=>∃F S ds QD,Rp K F S H/\RepL K (mt S F) H ds vs/\sp ds S QD/\Cn K F S H QD Q
theorem aQa{x:Str}{ps:List Str}{sp:SpD}{p:Pos}{e:Expr}{es:List Expr}{t:AD}(Df':Df X.prog X.w X.K X.mg X.base k x ps (spU K sp))(hr:Room k X.A)(hg:Gl X x)(ha:PAD K X (e::es) t)
  (hdb:(x==("__debug__":Str))=false:=by decide) (he:az (e::es) X.env=(false,eval e X.env)::az es X.env:=by rfl) (hpl:(cx pos (az es X.env)).any (·.1)=false:=by rfl) :
  PD K X (.Call (.Name x p) (e::es) [] pos) (dCB sp t):=.of (dQe Df' hr hg ha.o hdb he hpl) fun σ H Q i=>i.el λF S Γ QD r g q c =>
 ⟨F,S,Γ,_,r,g,q,λv ds H1 D j z v1 B=>by
  show spU K sp (v++[]) H1 Q E0;rw[bB];exact⟨F,D,ds,QD,z,v1,B,Cn.shift c j⟩⟩
inductive Frz(S S':Sto):D->D->Prop where
 |same (d:D):Frz S S' d d
 |ref {a:Addr}{xs ys:List D}(h:S a=some (.lst xs)) (h':S' a=none) (l:Frz S S' (.tup xs) (.tup ys)):Frz S S' (.ref a) (.lst ys)
 |nil:Frz S S' (.tup []) (.tup [])
 |cons {d e:D}{ds es:List D}(h:Frz S S' d e) (l:Frz S S' (.tup ds) (.tup es)):Frz S S' (.tup (d::ds)) (.tup (e::es))
theorem cJ7{F:Am}{S S':Sto}{H:Hp}(r:Rp K F S H)(hs:∀a o,S' a=some o->S a=some o):∀{d e:D},Frz S S' d e->(∀v,RepV K (mt S F) H d v->RepV K (mt S' F) H e v)/\(∀ds es,d=.tup ds->e=.tup es->∀vs,RepL K (mt S F) H ds vs->RepL K (mt S' F) H es vs):=by
 intro d e h;have kp:Keep (mt S F) H (mt S' F) H:=(Ext.less (H:=H) hs).kp
 induction h with
 |same d=>exact⟨λv h=>h.keep kp,λds es e1 e2 vs l=>by cases e1;cases e2;exact l.keep kp⟩
 |@ref a xs ys h h' l O =>
  refine⟨λv i=>?_,λds es e1=>by cases e1⟩
  rw[rref i];obtain⟨us,U,L⟩:=r.obj a _ h;unfold RepV;refine⟨a,us,rfl,.inl ⟨λz=>?_,.inl U⟩,O.2 xs ys rfl rfl us L⟩;rcases z with z|z
  ·exact z h'
  ·rw[(r.frm a z).2] at h;cases h
 |nil=>exact⟨λv h=>h.keep kp,λds es e1 e2 vs l=>by cases e1;cases e2;exact l.keep kp⟩
 |@cons d e ds es h l B j =>
  have ls:∀vs,RepL K (mt S F) H (d::ds) vs->RepL K (mt S' F) H (e::es) vs:=λvs l=>by
   unfold RepL at l ⊢;obtain⟨v,vs,rfl,J,N⟩:=l;exact⟨v,vs,rfl,B.1 v J,j.2 ds es rfl rfl vs N⟩
  refine⟨λv i=>?_,λZ Y e1 e2 vs l=>by cases e1;cases e2;exact ls vs l⟩
  unfold RepV at i ⊢;obtain⟨a,us,rfl,t,l⟩:=i;exact⟨a,us,rfl,t.keep kp,ls us l⟩
def rtD(Q:DK):DK:=λd S=>∃d' S',(∀a o,S' a=some o->S a=some o)/\Frz S S' d d'/\Q d' S'
theorem aQi{Q:DK}{d:D}{S:Sto}(h:Q d S):rtD Q d S:=⟨d,S,λ_ _ e=>e,.same d,h⟩
theorem aXs{Q:DK}{d:D}{S S':Sto}(hs:∀a o,S' a=some o->S a=some o)(h:Q d S'):rtD Q d S:=⟨d,S',hs,.same d,h⟩
def cZ6(Q:DK):EndsD:={nx:=λ_ S=>rtD Q .non S,rt:=rtD Q}
def aXw(N:List Str)(ds:List D):Gm:=ds.map some++gX (N.length-ds.length) none
theorem bZ2{M:Am}{H:Hp}{N:List Str}{ds:List D}{vs:List V}(l:RepL K M H ds vs):RepG K M H (aXw N ds) (start N vs):=by
 have i:∀n,RepG K M H (gX n none) (gX n none):=λn=>by
  induction n with
  |zero=>exact rfl
  |succ n j=>exact⟨none,_,rfl,j⟩
 have gen:∀{ds:List D}{vs:List V}{g:Gm}{σ:St},RepL K M H ds vs->RepG K M H g σ->RepG K M H (ds.map some++g) (vs.map some++σ):=by
  intro ds
  induction ds with
  |nil=>intro vs g σ l h;unfold RepL at l;subst l;exact h
  |cons d ds j =>
   intro vs g σ l h;unfold RepL at l;obtain⟨v,vs,rfl,r,l⟩:=l;exact⟨v,_,rfl,r,j l h⟩
 unfold aXw start;rw[l.length];exact gen l (i _)
theorem aZu{P:aF}{w:aS}{mg:Str->Option ad}{base:bd}{x:Str}{st:Stmt}{N ps:List Str}{sp:SpD}(T:Tx K mg x st)(S:FnScope N ps (aQ3 st))
  (b:∀{f:Addr}{fd:c8},Fun K x x st f fd->Binds K fd ps []) (len:∀ds S Q,sp ds S Q->ds.length=ps.length)
  (h:∀ (f:Addr) (cdv:ad) (A:a4) (outer:List Env) (s:ak) (H:Hp) (E:XK),Room k (A.deeper (gY x (aQ3 st) s.heap.objs.size f cdv)) ->
   ∃t,PSsD K (cxOf CX0 P w K mg base N x (aQ3 st) f cdv A outer s H E).nox (aQy st) t/\∀ds S Q,sp ds S Q->t (cZ6 Q) (aXw N ds) S):Df P w K mg base (k+1) x ps (spU K sp):=by
 refine T.df b λ{f fd} Fn=>Fn.ok S (λL H Q E z=>by obtain⟨F,S,ds,QD,r,l,i,c⟩:=z;rw[l.length];exact len ds S QD i) (λcdv A outer s H L Q E' O z=>?_)
 obtain⟨F,S,ds,QD,r,l,i,c⟩:=z;obtain⟨t,h1,h2⟩:=h f cdv A outer s H E' O;have fin:∀v d H' S',Ext S H S' H'->Rp K F S' H'->RepV K (mt S' F) H' d v->rtD QD d S'->Q v H':=λv d H' S' B j v1 J=>by
  obtain⟨Y,Z,D,U,q⟩:=J;exact c v Y H' Z (B.trans (Ext.less D)) (j.less D) ((cJ7 j D U).1 v v1) q
 exact⟨_,h1.o,F,S,aXw N ds,cZ6 QD,r,bZ2 l,h2 ds S QD i,fun Γ' S' σ' H' B j g1 q=>fin .non .non H' S' B j (by unfold RepV;rfl) q,fin,λ_ _ _ _ _ _ _ q=>q.elim,λ_ _ _ _ _ _ _ q=>q.elim⟩
theorem eJw{M:Am}{H:Hp}:∀{as:List Int},RepL K M H (as.map D.int) (as.map V.int)
 |[]=>RepL.nil
 |a::as=>RepL.cons (by unfold RepV;rfl) eJw
def dMt(rd:D->List D->Sto->DK->Prop)(ck:D->Sto->Prop)(to:ED)(t:AD):ED:=fun Γ S Q=>to Γ S λo S1=>ck o S1/\t Γ S1 λds S2=>rd o ds S2 Q
def MtD(K:Fg)(T:String)(r:V->List V->Hp->VK->Prop)(rd:D->List D->Sto->DK->Prop)(ck:D->Sto->Prop):Prop :=
 (∀F S H d x,Rp K F S H->RepV K (mt S F) H d x->ck d S->tyV K T x H)/\∀F S H d ds x vs Q QD,Rp K F S H->RepV K (mt S F) H d x->RepL K (mt S F) H ds vs->rd d ds S QD->Cn K F S H QD Q->r x vs H Q
theorem e_bm{T id:String}{name:Str}{r:V->List V->Hp->VK->Prop}{rd:D->List D->Sto->DK->Prop}{ck:D->Sto->Prop}{o e:Expr}{es:List Expr}{to:ED}{t:AD}{apos cpos:Pos}(M:MtD K T r rd ck)
  (pa:PlainAttrs T) (slot:Slot T name id) (hty:typeOf (.builtin id)=pure (.type "method_descriptor")) (hm:MtR X id r) (ho:PD K X o to) (ha:PAD K X (e::es) t) (hK:X.K=K:=by rfl)
  (hbase:gz o name X.env (eval o X.env)=eval o X.env:=by rfl)
  (hfew:((cx cpos (az (e::es) X.env)).all (λx=>!x.1) && (iE cpos (fR [] X.env)).all (λx=>x.1.isSome)
   && decide ((e::es).length+([]:List gM).length+(if ([]:List gM).isEmpty then 0 else 1)<30))=true:=by rfl)
  (hline:(apos.endLine==cpos.line)=true:=by rfl) (hs:az (e::es) X.env=(false,eval e X.env)::az es X.env:=by rfl) (hplain:(cx cpos (az es X.env)).any (·.1)=false:=by rfl) :
  PD K X (.Call (.Attribute o name apos) (e::es) [] cpos) (dMt rd ck to t):=by
 subst hK;exact .of (fZ2 pa slot hty hm ho.o ha.o hbase hfew hline hs hplain) fun σ H Q J=>J.el λF S Γ QD r g q c =>
  ⟨F,S,Γ,_,r,g,q,λv d H1 B j z v1 ⟨Y,U⟩=>⟨M.1 F B H1 d v z v1 Y,F,B,Γ,_,z,g.ext j,U,λL ds H2 Z i N v2 O=>M.2 F Z H2 d ds v L Q QD N (v1.ext i) v2 O (Cn.shift c (j.trans i))⟩⟩
def ckL(d:D)(S:Sto):Prop:=match d with
 |.ref a=>∃xs,S a=some (.lst xs)
 |_=>False
theorem ty_L{F:Am}{S:Sto}{H:Hp}{d:D}{x:V}(r:Rp K F S H)(h:RepV K (mt S F) H d x)(c:ckL d S):tyV K "list" x H:=by
 cases d with
 |ref a =>
  obtain⟨xs,i⟩:=c;rw[rref h];obtain⟨us,j,_⟩:=r.obj a _ i;exact .inl ⟨rfl,us,SqL.of j⟩
 |_=>exact c.elim
theorem Cn.write{F:Am}{S:Sto}{H:Hp}{QD:DK}{Q:VK}(c:Cn K F S H QD Q)(r:Rp K F S H){a:Addr}{xs ys:List D}{us ws:List V}(hS:S a=some (.lst xs))(l:RepL K (mt S F) H ys ws){d:D}{v:V}(hv:RepV K (mt S F) H d v)(q:QD d (supd S a (.lst ys))):Q v (upd H a (.lst ws)):=by
 have i:S a≠none:=by rw[hS];exact λz=>by cases z
 have x:Ext S H (supd S a (.lst ys)) (upd H a (.lst ws)):=Ext.write i;exact c v d _ _ x (r.write i ⟨ws,aQ7,l.ext x⟩) (hv.ext x) q
def appD:D->List D->Sto->DK->Prop:=λo ds S Q=>match o,ds with
 |.ref a,[y]=>∃xs,S a=some (.lst xs)/\xs.length<sizeLine/\Q .non (supd S a (.lst (xs++[y])))
 |_,_=>False
theorem eJx:MtD K "list" cZr appD ckL:=⟨λF S H d x r h c=>ty_L r h c,λF S H d ds x J Q QD r h l q c=>by
 match d,ds,q with
 |.ref a,[y],⟨xs,j,B,q⟩ =>
  obtain⟨v,rfl,z⟩:=l.one;obtain⟨us,D,i⟩:=r.obj a _ j;rw[rref h];exact⟨a,us,v,rfl,rfl,D,by rw[i.length];exact B,c.write r (us:=us) j (i.app (RepL.cons z RepL.nil)) (by unfold RepV;rfl) q⟩⟩
def cJ8:D->List D->Sto->DK->Prop:=λo ds S Q=>match o,ds with
 |.ref a,[.int i]=>∃xs j y,S a=some (.lst xs)/\i=(j:Nat)/\(j:Nat)<2^63/\xs[(j:Nat)]?=some y/\Q y (supd S a (.lst (xs.eraseIdx j)))
 |_,_=>False
theorem dZ0:MtD K "list" dZo cJ8 ckL:=⟨λF S H d x r h c=>ty_L r h c,λF S H d ds x vs Q QD r h l q c=>by
 match d,ds,q with
 |.ref a,[.int i],⟨xs,j,y,D,hi,Y,N,q⟩ =>
  obtain⟨v,rfl,L⟩:=l.one;obtain⟨us,O,B⟩:=r.obj a _ D;obtain⟨z,e1,J⟩:=B.get N;rw[rref h,rint L];have U:j<us.length:=by
   rcases Nat.lt_or_ge j us.length with z|z
   ·exact z
   ·rw[bV z] at e1;cases e1
  have Z:seqIndex? i us.length=some j:=by
   subst hi
   have:ixN us.length (j:Int)=some j:=by unfold ixN;rw[if_pos (by lia),if_pos (by lia),b8]
   exact(bXh this).1
  exact⟨a,us,i,j,z,rfl,rfl,O,by lia,by subst hi;exact_mod_cast Y,Z,e1,c.write r (us:=us) D (B.erase j) J q⟩⟩
theorem bZ3{o e:Expr}{to:ED}{t:AD}{apos cpos:Pos}(ho:PD K X o to)(ha:PAD K X [e] t)(hK:X.K=K:=by rfl)
  (hbase:gz o "append" X.env (eval o X.env)=eval o X.env:=by rfl)
  (hfew:((cx cpos (az [e] X.env)).all (λx=>!x.1) && (iE cpos (fR [] X.env)).all (λx=>x.1.isSome)
   && decide (([e]:List Expr).length+([]:List gM).length+(if ([]:List gM).isEmpty then 0 else 1)<30))=true:=by rfl)
  (hline:(apos.endLine==cpos.line)=true:=by rfl) (hs:az [e] X.env=(false,eval e X.env)::az [] X.env:=by rfl) (hplain:(cx cpos (az [] X.env)).any (·.1)=false:=by rfl) :
  PD K X (.Call (.Attribute o "append" apos) [e] [] cpos) (dMt appD ckL to t):=e_bm eJx fU PySem.F.slot_list_append PySem.F.type_list_append bZn ho ha hK hbase hfew hline hs hplain
theorem eQf{o e:Expr}{to:ED}{t:AD}{apos cpos:Pos}(ho:PD K X o to)(ha:PAD K X [e] t)(hK:X.K=K:=by rfl)
  (hbase:gz o "pop" X.env (eval o X.env)=eval o X.env:=by rfl)
  (hfew:((cx cpos (az [e] X.env)).all (λx=>!x.1) && (iE cpos (fR [] X.env)).all (λx=>x.1.isSome)
   && decide (([e]:List Expr).length+([]:List gM).length+(if ([]:List gM).isEmpty then 0 else 1)<30))=true:=by rfl)
  (hline:(apos.endLine==cpos.line)=true:=by rfl) (hs:az [e] X.env=(false,eval e X.env)::az [] X.env:=by rfl) (hplain:(cx cpos (az [] X.env)).any (·.1)=false:=by rfl) :
  PD K X (.Call (.Attribute o "pop" apos) [e] [] cpos) (dMt cJ8 ckL to t):=e_bm dZ0 fU PySem.F.slot_list_pop PySem.F.type_list_pop dQc ho ha hK hbase hfew hline hs hplain
end
end L2
set_option maxHeartbeats 1000000
namespace L2
open PySem PySem.Spec PyProof.Rows
def leS(a b:Str):Bool:=!HT.ltS b a
def leT(a b:List Str):Bool:=!HT.lexS b a
theorem bZ4:∀a:List Str,HT.lexS a a=false
 |[]=>rfl
 |x::xs=>by rw[HT.lexS_cons,if_pos rfl,bZ4 xs]
theorem eJy(a b c:Str)(h:leS a b=true)(h':leS b c=true):leS a c=true:=by
 unfold leS at *
 rw[dw] at *
 cases e:HT.ltS c a with
 |false=>rfl
 |true =>
  by_cases i:b=a
  ·subst i;rw[h'] at e;cases e
  ·have:=HT.ltS_tr e (HT.ltS_tot h i)
   rw[h'] at this;cases this
theorem eQg(a b:Str):(leS a b||leS b a)=true:=by
 unfold leS;cases e:HT.ltS b a with
 |false=>rfl
 |true=>rw[HT.ltS_as e];rfl
theorem dZ1{a b:Str}(h:leS a b=true)(h':leS b a=true):a=b:=by
 unfold leS at *
 rw[dw] at *
 exact aY λn=>by
  have:=HT.ltS_tot h (λz=>n z.symm)
  rw[h'] at this;cases this
theorem eJz(a b c:List Str)(h:leT a b=true)(h':leT b c=true):leT a c=true:=by
 unfold leT at *
 rw[dw] at *
 cases e:HT.lexS c a with
 |false=>rfl
 |true =>
  by_cases i:b=a
  ·subst i;rw[h'] at e;cases e
  ·have:=HT.lexS_tr e (HT.lexS_tot h i)
   rw[h'] at this;cases this
theorem eQh(a b:List Str):(leT a b||leT b a)=true:=by
 unfold leT;cases e:HT.lexS b a with
 |false=>rfl
 |true=>rw[HT.lexS_as e];rfl
theorem dZ2{a b:List Str}(h:leT a b=true)(h':leT b a=true):a=b:=by
 unfold leT at *
 rw[dw] at *
 exact aY λn=>by
  have:=HT.lexS_tot h (λz=>n z.symm)
  rw[h'] at this;cases this
def srS(l:List Str):List Str:=l.mergeSort leS
def srT(l:List (List Str)):List (List Str):=l.mergeSort leT
def srI(l:List Int):List Int:=l.mergeSort λa b=>decide (a<=b)
theorem aXa(l:List Str):(srS l).Perm l:=gK _ _
theorem aZl(l:List (List Str)):(srT l).Perm l:=gK _ _
theorem dZ3(l:List Int):(srI l).Perm l:=gK _ _
theorem cQc(l:List Str):(srS l).Pairwise λa b=>leS a b=true:=fV eJy eQg l
theorem dXd(l:List (List Str)):(srT l).Pairwise λa b=>leT a b=true:=fV eJz eQh l
theorem fQ0(l:List Int):(srI l).Pairwise λa b=>decide (a<=b)=true:=fV (le:=λa b=>decide (a<=b)) (λa b c h h'=>decide_eq_true (Int.le_trans (of_decide_eq_true h) (of_decide_eq_true h'))) (λa b=>by
 rcases Int.le_total a b with h|h
 ·rw[decide_eq_true h];rfl
 ·rw[decide_eq_true h,Bool.or_true]) l
theorem fQ1{l out:List Str}(p:out.Perm l)(h:out.Pairwise λa b=>HT.ltS b a=false):out=srS l :=
 (p.trans (aXa l).symm).eq_of_pairwise (λ_ _ _ _ h h'=>dZ1 h h') (h.imp λh=>by unfold leS;rw[h];rfl) (cQc l)
theorem eQi{l out:List (List Str)}(p:out.Perm l)(h:out.Pairwise λa b=>HT.lexS b a=false):out=srT l :=
 (p.trans (aZl l).symm).eq_of_pairwise (λ_ _ _ _ h h'=>dZ2 h h') (h.imp λh=>by unfold leT;rw[h];rfl) (dXd l)
theorem fQ2{l out:List Int}(p:out.Perm l)(h:out.Pairwise (·<=·)):out=srI l :=
 (p.trans (dZ3 l).symm).eq_of_pairwise (λ_ _ _ _ h h'=>Int.le_antisymm (of_decide_eq_true h) (of_decide_eq_true h')) (h.imp λh=>decide_eq_true h) (fQ0 l)
section
variable{X:Cx}{K:Fg}{pos:Pos}{k:Nat}{e:Expr}{t:AD}{p:Pos}
theorem cJ9{M:Am}{H:Hp}:∀{as:List Int}{xs:List V},RepL K M H (as.map D.int) xs->xs=as.map V.int
 |[],xs,h=>by rw[fw] at h;unfold RepL at h;exact h
 |a::as,xs,h=>by
  rw[bC] at h;unfold RepL at h;obtain⟨v,i,rfl,r,l⟩:=h;unfold RepV at r;rw[r,cJ9 l];rfl
theorem cJa{M:Am}{H:Hp}:∀{as:List Int},RepL K M H (as.map D.int) (as.map V.int)
 |[]=>RepL.nil
 |a::as=>RepL.cons (by unfold RepV;rfl) cJa
theorem cJb{M:Am}{H:Hp}:∀{as:List Str}{xs:List V},RepL K M H (as.map D.str) xs->xs=as.map V.str
 |[],xs,h=>by rw[fw] at h;unfold RepL at h;exact h
 |a::as,xs,h=>by
  rw[bC] at h;unfold RepL at h;obtain⟨v,i,rfl,r,l⟩:=h;unfold RepV at r;rw[r,cJb l];rfl
theorem cJc{M:Am}{H:Hp}:∀{as:List Str},RepL K M H (as.map D.str) (as.map V.str)
 |[]=>RepL.nil
 |a::as=>RepL.cons (by unfold RepV;rfl) cJc
def keyD:Key->D
 |.inl i=>.int i
 |.inr x=>.str x
def srcIs(S:Sto)(d:D)(xs:List D):Prop:=match d with
 |.tup ys=>xs=ys
 |.lst ys=>xs=ys
 |.ref a=>S a=some (.lst xs)\/∃kvs,S a=some (.dk kvs)/\xs=kvs.map λp=>keyD p.1
 |_=>False
theorem cJd{M:Am}{H:Hp}:∀{ks:List (Key×V)}{kvs:List (Key×D)},br (λ(p:Key×V) (q:Key×D)=>p.1=q.1/\RepV K M H q.2 p.2) ks kvs->RepL K M H (kvs.map λp=>keyD p.1) (ks.map λp=>kV p.1)
 |_,_,.nil=>RepL.nil
 |_,_,.cons (a:=a) (b:=b) h l=>by
  refine RepL.cons ?_ (cJd l);show RepV K M H (keyD b.1) (kV a.1);rw[h.1];cases b.1 <;> (unfold keyD kV RepV;rfl)
theorem srcIs.src{F:Am}{S:Sto}{H:Hp}(r:Rp K F S H){d:D}{v:V}{xs:List D}(h:RepV K (mt S F) H d v)(l:srcIs S d xs):∃us,Src K H v us/\RepL K (mt S F) H xs us:=by
 cases d with
 |tup ys=>cases l;obtain⟨a,us,rfl,sq,l⟩:=tup.st h;exact⟨us,⟨a,rfl,.inr (.inl sq)⟩,l⟩
 |lst ys=>cases l;obtain⟨a,us,rfl,sq,l⟩:=lsIs.sl r h (show lsIs S (.lst xs) xs from rfl);exact⟨us,⟨a,rfl,.inl sq⟩,l⟩
 |ref a =>
  rw[rref h];rcases l with l|⟨z,l,rfl⟩
  ·obtain⟨us,j,i⟩:=r.obj a _ l;exact⟨us,⟨a,rfl,.inl (SqL.of j)⟩,i⟩
  ·obtain⟨B,j,i⟩:=r.obj a _ l;exact⟨_,⟨a,rfl,.inr (.inr ⟨B,j,rfl⟩)⟩,cJd i⟩
 |_=>exact l.elim
def tupS(t:List Str):D:=.tup (t.map D.str)
def srtD(b:Bool):RCD:=λds S Q=>match ds with
 |[d]=>(∃ss:List Str,srcIs S d (ss.map D.str)/\newL b ((srS ss).map D.str) S Q)\/(∃ns:List Int,srcIs S d (ns.map D.int)/\newL b ((srI ns).map D.int) S Q) \/
  ∃ts:List (List Str),srcIs S d (ts.map tupS)/\newL b ((srT ts).map tupS) S Q
 |_=>False
def fZt(K:Fg):List V->Hp->VK->Prop:=λxs H Q=>eJt K xs H Q\/eJu K xs H Q\/eJv K xs H Q
theorem bJ5{S:Sto}{F:Am}{H:Hp}:∀{ts:List (List Str)}{us:List V},RepL K (mt S F) H (ts.map tupS) us->br (dT K dS H) us ts
 |[],us,h=>by rw[fw] at h;unfold RepL at h;subst h;exact .nil
 |a::as,xs,h=>by
  rw[bC] at h;unfold RepL at h;obtain⟨v,i,rfl,r,l⟩:=h;exact .cons (bJ2 r) (bJ5 l)
theorem dXe{M:Am}{H:Hp}{ds:List D}{us:List V}(l:RepL K M H ds us):∀(idx:List Nat),(∀i∈idx,i<us.length)->RepL K M H (idx.map λi=>ds.getD i .non) (idx.map λi=>us.getD i .non)
 |[],_=>RepL.nil
 |i::idx,h=>by
  have hi:=h i aq;refine RepL.cons ?_ (dXe l idx λj v=>h j (ay _ v));obtain⟨d,z,rd⟩:=l.get' (ag hi);show RepV K M H (ds.getD i .non) (us.getD i .non);rw[ah,ah,z,ag hi];exact rd
theorem fQ3{b:Bool}:aJr K (fZt K) (srtD b):=by
 intro F S H ds vs Q QD r l h c
 match ds,h with
 |[d],h =>
  obtain⟨v,rfl,J⟩:=l.one;rcases h with⟨ss,h1,q⟩|⟨ss,h1,q⟩|⟨ts,h1,q⟩
  ·obtain⟨us,z,j⟩:=h1.src r J;rw[cJb j] at z;exact .inl ⟨v,ss,rfl,z,λp out B N L=>by
    rw[fQ1 N L];exact c.new r B cJc q⟩
  ·obtain⟨us,z,j⟩:=h1.src r J;rw[cJ9 j] at z;exact .inr (.inl ⟨v,ss,rfl,z,λp out B N L=>by
    rw[fQ2 N L];exact c.new r B cJa q⟩)
  ·obtain⟨us,z,j⟩:=h1.src r J;refine .inr (.inr ⟨v,us,ts,rfl,z,bJ5 j,λp idx B Z Y U=>c.new r B ?_ q⟩);have hl:=j.length;rw[am] at hl;have D:∀i∈idx,i<us.length:=λi hi=>aZ.mp (Z.mem_iff.mp hi)
   have:=dXe j idx D
   rw[<- eQi U Y,bW];have e:(idx.map λi=>(ts.map tupS).getD i .non)=idx.map (tupS∘λi=>ts.getD i []):=eH λi hi=>by
    have O:i<ts.length:=by have:=D i hi;omega
    show(ts.map tupS).getD i .non=tupS (ts.getD i []);rw[ah,ah,aJ,ag O]
    rfl
   rw[<- e];exact this
theorem aZ9{b:Bool}(hr:Room k X.A)(hg:Gl X "sorted")(hm:X.mg "sorted"=none)(ha:PAD K X [e] t)(hK:X.K=K:=by rfl)(hc:X.calm=true:=by rfl)(he:az [e] X.env=(false,eval e X.env)::az [] X.env:=by rfl)(hpl:(cx pos (az [] X.env)).any (·.1)=false:=by rfl):PD K X (.Call (.Name "sorted" p) [e] [] pos) (dCB (srtD b) t):=aZs ((cJ4 hK hc).or ((cJ5 hK hc).or (cJ6 (lt10 hr) hK hc))) fQ3 hg hm bZo ha (by decide) (by decide) he hpl
end
end L2
set_option maxHeartbeats 4000000
namespace L2
open PySem PySem.Spec PyProof.Rows
theorem md{a b:Int}(h:0<b):0<=a%b/\a%b<b:=⟨Int.emod_nonneg _ (by lia),Int.emod_lt_of_pos _ h⟩
theorem aXb{g:GD}{tt:TD}{tb:BD}{G:Sto->Prop}{Γ0:Gm}{xs acc:List D}{S:Sto}{Q:List D->Sto->Prop}(I:Nat->List D->Sto->Prop)(h0:I 0 acc S)
  (hs:∀i x acc S (N:List D->Sto->Prop),xs[i]?=some x->I i acc S->(∀acc' S',I (i+1) acc' S'->N acc' S')->G S/\g x Γ0 S fun Γ2 S2=>tt Γ2 S2 λb S3=>if b=true then tb Γ2 S3 acc N else N acc S3)
  (hd:∀acc S,I xs.length acc S->G S/\Q acc S):aZ2 g tt tb G Γ0 xs acc S Q:=by
 have gen:∀n i acc S,i+n=xs.length->I i acc S->aZ2 g tt tb G Γ0 (xs.drop i) acc S Q:=by
  intro n
  induction n with
  |zero =>
   intro i acc S hi h;have e:i=xs.length:=by lia
   subst e;rw[eP];exact hd acc S h
  |succ n v =>
   intro i acc S hi h;have j:i<xs.length:=by lia
   rw[aZt j];exact hs i xs[i] acc S (λacc' z=>aZ2 g tt tb G Γ0 (xs.drop (i+1)) acc' z Q) (ag j) h λacc' S' h'=>v (i+1) acc' S' (by lia) h'
 simpa using gen xs.length 0 acc S (by lia) h0
theorem aX4{g:GD}{tb:SD}{G:Sto->Prop}{E:EndsD}{xs:List D}{Γ:Gm}{S:Sto}(I:Nat->Gm->Sto->Prop)(h0:I 0 Γ S)
  (hs:∀i x Γ S (N:Gm->Sto->Prop),xs[i]?=some x->I i Γ S->(∀Γ' S',I (i+1) Γ' S'->N Γ' S')->G S/\g x Γ S fun Γ2 S2=>tb {E with nx:=N,ct:=N,bk:=E.nx} Γ2 S2)
  (hd:∀Γ S,I xs.length Γ S->G S/\E.nx Γ S):forD g tb G E xs Γ S:=by
 have gen:∀n i Γ S,i+n=xs.length->I i Γ S->forD g tb G E (xs.drop i) Γ S:=by
  intro n
  induction n with
  |zero =>
   intro i Γ S hi h;have e:i=xs.length:=by lia
   subst e;rw[eP];exact hd Γ S h
  |succ n v =>
   intro i Γ S hi h;have j:i<xs.length:=by lia
   rw[aZt j];exact hs i xs[i] Γ S (forD g tb G E (xs.drop (i+1))) (ag j) h fun Γ' S' h'=>v (i+1) Γ' S' (by lia) h'
 simpa using gen xs.length 0 Γ S (by lia) h0
theorem aZ3{α:Type}{i:Nat}{te:ED}{Γ0:Gm}{S:Sto}{Q:List D->Sto->Prop}{enc:α->D}{f:α->D}{xs:List α}{acc:List D}(h:∀x∈xs,∀Q:DK,Q (f x) S->te (Γ0.set i (some (enc x))) S Q)(hn:acc.length+xs.length<=sizeLine)
  (q:Q (acc++xs.map f) S):aZ2 (aQu i) dYes (aJ4 te) (λ_=>True) Γ0 (xs.map enc) acc S Q:=by
 induction xs generalizing acc with
 |nil=>exact⟨trivial,by simpa using q⟩
 |cons x xs v =>
  refine⟨trivial,?_⟩;show aJ4 te (Γ0.set i (some (enc x))) S acc (λj B=>aZ2 (aQu i) dYes (aJ4 te) (λ_=>True) Γ0 (xs.map enc) j B Q);refine h x aq _ ⟨by simp at hn;lia,v (λy z=>h y (ay _ z)) (by simp at hn ⊢;lia) (by simpa using q)⟩
theorem aZh{α:Type}{i:Nat}{tt:TD}{te:ED}{Γ0:Gm}{S:Sto}{Q:List D->Sto->Prop}{enc:α->D}{p:α->Bool}{f:α->D}{xs:List α}{acc:List D}(ht:∀x∈xs,∀Q:Bool->Sto->Prop,Q (p x) S->tt (Γ0.set i (some (enc x))) S Q)(h:∀x∈xs,p x=true->∀Q:DK,Q (f x) S->te (Γ0.set i (some (enc x))) S Q)(hn:acc.length+xs.length<=sizeLine)
  (q:Q (acc++(xs.filter p).map f) S):aZ2 (aQu i) tt (aJ4 te) (λ_=>True) Γ0 (xs.map enc) acc S Q:=by
 induction xs generalizing acc with
 |nil=>exact⟨trivial,by simpa using q⟩
 |cons x xs v =>
  refine⟨trivial,?_⟩;show tt (Γ0.set i (some (enc x))) S _;refine ht x aq _ ?_;cases hp:p x with
  |true =>
   rw[if_pos rfl];refine h x aq hp _ ⟨by simp at hn;lia,v (λy j=>ht y (ay _ j)) (λy j=>h y (ay _ j)) (by simp at hn ⊢;lia) ?_⟩
   rw[List.filter_cons,hp] at q;simpa using q
  |false =>
   rw[if_neg (by simp)]
   refine v (λy j=>ht y (ay _ j)) (λy j=>h y (ay _ j)) (by simp at hn ⊢;lia) ?_
   rw[List.filter_cons,hp] at q;simpa using q
def sg(c:Nat):Str:=⟨#[c]⟩
theorem dZ4{α:Type}(f:α->D)(xs:List α)(lo hi:Option Int):cutD (xs.map f) lo hi=((xs.drop (HT.sIx xs.length 0 lo)).take (HT.sIx xs.length xs.length hi-HT.sIx xs.length 0 lo)).map f:=by
 unfold cutD;rw[am,List.map_take,List.map_drop]
theorem eQj(n:Nat):rngD 0 n=(a7 n).map λi=>.int (i:Nat):=by
 apply ff;intro i
 by_cases h:i<n
 ·have h1:i<(rngD 0 n).length:=by rw[aZk];exact h
  obtain⟨_,e⟩:=aZz n 0 i _ (ag h1);rw[ag h1,e,aJ,gJ h];simp
 ·rw[bV (by rw[aZk];lia),bV (by simp;lia)]
theorem bX4{n i:Nat}{x:D}(h:(rngD 0 n)[i]?=some x):i<n/\x=.int (i:Nat):=by
 obtain⟨h1,h2⟩:=aZz n 0 i x h;exact⟨h1,by rw[h2,Int.zero_add]⟩
def Off(a:Addr)(S S':Sto):Prop:=∀b,b≠a->S' b=S b
theorem Off.trans{a:Addr}{S S1 S2:Sto}(h:Off a S S1)(h':Off a S1 S2):Off a S S2:=λb i=>(h' b i).trans (h b i)
end L2
set_option maxHeartbeats 1000000
namespace L2
open PySem PySem.Spec PyProof.Rows
section
variable{X:Cx}{K:Fg}{pos:Pos}{k:Nat}{e:Expr}{te:ED}
def fZu(d:D)(S:Sto)(Q:DK):Prop:=(∃ts:List (List Str),d=.tup (ts.map tupS)/\ts.length+1<=300/\∀n:Nat,SzOk ts n->Q (.int n) S)\/∃ss:List Str,d=.lst (ss.map D.str)/\ss.length+1<=300/\∀n:Nat,SzOk ss n->Q (.int n) S
def fZv(te:ED):ED:=fun Γ S Q=>te Γ S λd S1=>fZu d S1 Q
theorem fQ4{p p' pos':Pos}(hr:Room k X.A)(hg:Gl X "len")(hm:X.mg "len"=none)(hg':Gl X "set")(hm':X.mg "set"=none)(he:PD K X e te)(hK:X.K=K:=by rfl)(hc:X.calm=true:=by rfl)
  (h1:az [e] X.env=(false,eval e X.env)::az [] X.env:=by rfl) (h2:az [Expr.Call (.Name "set" p') [e] [] pos'] X.env=(false,eval (Expr.Call (.Name "set" p') [e] [] pos') X.env)::az [] X.env:=by rfl) (h3:(cx pos (az [] X.env)).any (·.1)=false:=by rfl) (h4:(cx pos' (az [] X.env)).any (·.1)=false:=by rfl) :
  PD K X (.Call (.Name "len" p) [.Call (.Name "set" p') [e] [] pos'] [] pos) (fZv te) :=
 .of (bQl cXb hg hm dZr (aXh (aX6 ((bXt (lt64 hr) hK hc).or (bXu (lt64 hr) hK hc)) hg' hm' eXk (aXh he.o bQ6 h1) (by decide) (by decide) h1 h4) bQ6 h2) (by decide) (by decide) h2 h3) fun σ H Q J=>J.el λF S Γ QD r g q c =>
 ⟨F,S,Γ,_,r,g,q,λv d H1 D L N v1 O=>by
  have go:∀(n p:Nat) (z:n<300),H1 p=none->QD (.int n) D->∃p' B,[V.ref p]=[V.ref p']/\upd H1 p (szO p n) p'=some (szO p' B)/\B<1000000/\Q (.int B) (upd H1 p (szO p n)):=λn p z i U =>
   ⟨p,n,rfl,aQ7,by omega,c (.int n) (.int n) _ D (L.trans (Ext.same (aQw i))) (N.same (aQw i)) (by unfold RepV;rfl) U⟩
  rcases O with⟨ts,rfl,z,q⟩|⟨ss,rfl,z,q⟩
  ·unfold RepV at v1;obtain⟨a,us,rfl,t,l⟩:=v1;exact .inl ⟨_,ts,rfl,⟨a,us,rfl,t.sq,bJ5 l⟩,z,λp n i j=>go n p (by have:=j.1;omega) i (q n j)⟩
  ·unfold RepV at v1;obtain⟨a,us,rfl,t,l⟩:=v1;exact .inr ⟨_,ss,rfl,⟨a,us,rfl,t.sq,bJ1 l⟩,z,λp n i j=>go n p (by have:=j.1;omega) i (q n j)⟩⟩
end
section
variable{X:Cx}{K:Fg}{pos:Pos}{k:Nat}
def exrD:D->List D->Sto->DK->Prop:=λo ds S Q=>match o,ds with
 |.ref a,[.ref b]=>∃xs ys,S a=some (.lst xs)/\S b=some (.lst ys)/\xs.length+ys.length<=sizeLine/\Q .non (supd S a (.lst (xs++ys)))
 |_,_=>False
theorem fQ5:MtD K "list" cZs exrD ckL:=⟨λF S H d x r h c=>ty_L r h c,λF S H d ds x L Q QD r h l q c=>by
 match d,ds,q with
 |.ref a,[.ref b],⟨xs,ys,z,i,D,q⟩ =>
  obtain⟨v,rfl,B⟩:=l.one;obtain⟨us,J,j⟩:=r.obj a _ z;obtain⟨ws,hw,lw⟩:=r.obj b _ i;rw[rref h,rref B];exact⟨a,b,us,ws,rfl,rfl,J,hw,by rw[j.length,lw.length];exact D,c.write r (us:=us) z (j.app lw) (by unfold RepV;rfl) q⟩⟩
theorem dZ5{o e:Expr}{to:ED}{t:AD}{apos cpos:Pos}(ho:PD K X o to)(ha:PAD K X [e] t)(hK:X.K=K:=by rfl)
  (hbase:gz o "extend" X.env (eval o X.env)=eval o X.env:=by rfl)
  (hfew:((cx cpos (az [e] X.env)).all (λx=>!x.1) && (iE cpos (fR [] X.env)).all (λx=>x.1.isSome)
   && decide (([e]:List Expr).length+([]:List gM).length+(if ([]:List gM).isEmpty then 0 else 1)<30))=true:=by rfl)
  (hline:(apos.endLine==cpos.line)=true:=by rfl) (hs:az [e] X.env=(false,eval e X.env)::az [] X.env:=by rfl) (hplain:(cx cpos (az [] X.env)).any (·.1)=false:=by rfl) :
  PD K X (.Call (.Attribute o "extend" apos) [e] [] cpos) (dMt exrD ckL to t):=e_bm fQ5 fU PySem.F.slot_list_extend PySem.F.type_list_extend cZt ho ha hK hbase hfew hline hs hplain
end
end L2
set_option maxHeartbeats 4000000
namespace L2
open PySem PySem.Spec PyProof.Rows
section
variable{X:Cx}{K:Fg}{pos:Pos}{k:Nat}
theorem cJe{pins:List (Addr×Obj)}{σ:St}{H:Hp}{s:ak}{Q:VK}{xs:List V}{acc:Array ad}{h':bd}{c tk:Nat}(I:Inv X pins σ H s)(hz:xs.length<=sizeLine)(r:Vals xs acc.toList)(hk:∀b o,s.heap.get? b=some o->h'.get? b=some o)
  (hp:h'.get? s.heap.objs.size=some {cls:=.type "list",dict:=none,data:=.seq acc c,slots:=#[]}) (q:∀l,H l=none->Q (.ref l) (upd H l (.lst xs))):EP X pins σ Q (.ref s.heap.objs.size) {s with heap:=h',toks:=tk}:=by
 refine⟨.ref s.heap.objs.size,_,I.laid (t':=tk) (o:=.lst xs) hk (Nat.le_refl _) ?_,rfl,q _ (I.hok.fresh (Nat.le_refl _))⟩;exact⟨hz,acc.toList,c,r,by rw[Array.toArray_toList];exact hp⟩
theorem bJ6:∀{xs:List V}{us:List ad},xs.length=us.length->(∀(i:Nat) (x:V) (u:ad),xs[i]?=some x->us[i]?=some u->RelV x u)->Vals xs us
 |[],[],_,_=>.nil
 |[],_::_,h,_=>by simp at h
 |_::_,[],h,_=>by simp at h
 |x::xs,u::us,h,j=>.cons (j 0 x u rfl rfl) (bJ6 (by simpa using h) λi y v h1 h2=>j (i+1) y v (by simpa using h1) (by simpa using h2))
theorem cZ7(hc:X.calm=true:=by rfl):CallR X (.type "list") (λxs H Q=>∃x:Str,xs=[.str x]/\x.length<=1000/\∀l,H l=none->Q (.ref l) (upd H l (.lst (x.cps.toList.map λc=>.str ⟨#[c]⟩)))):=by
 intro pins s σ H xs us Q I r h;obtain⟨x,rfl,B,q⟩:=h;obtain⟨u,rfl,z⟩:=aZp r;obtain⟨t,rfl⟩:=z;have hl:x.cps.size<=1000:=B;refine call_list_str (I.ok.hd hc) x t (λh' L acc c J D it=>cJe I (by rw[am,aM,bf];lia) ?_ J D q) (by rw[bf];lia)
 refine bJ6 (by rw[am,aM,aM,it.1]) λi y u h1 h2=>?_
 obtain⟨N,v,j,rfl⟩:=it.2 i u (by rw[<- aL];exact h2)
 rw[aJ,aL,j] at h1;cases h1;exact⟨v,rfl⟩
def lsSD(b:Bool):RCD:=λds S Q=>match ds with
 |[.str x]=>x.length<=1000/\newL b (x.cps.toList.map λc=>.str ⟨#[c]⟩) S Q
 |_=>False
theorem cQd{M:Am}{H:Hp}:∀cs:List Nat,RepL K M H (cs.map λc=>D.str ⟨#[c]⟩) (cs.map λc=>V.str ⟨#[c]⟩)
 |[]=>RepL.nil
 |c::cs=>RepL.cons (by unfold RepV;rfl) (cQd cs)
theorem eQk{b:Bool}{e:Expr}{t:AD}{p:Pos}(hg:Gl X "list")(hm:X.mg "list"=none)(ha:PAD K X [e] t)(hc:X.calm=true:=by rfl)(he:az [e] X.env=(false,eval e X.env)::az [] X.env:=by rfl)(hpl:(cx pos (az [] X.env)).any (·.1)=false:=by rfl):PD K X (.Call (.Name "list" p) [e] [] pos) (dCB (lsSD b) t):=bQz (cZ7 hc) (by
 intro F S H ds B Q QD r l h c
 match ds,h with
 |[.str x],⟨j,q⟩ =>
  obtain⟨v,rfl,i⟩:=l.one;rw[rstr i];exact⟨x,rfl,j,λp z=>c.new r z (cQd _) q⟩) hg hm bXj ha (by decide) (by decide) he hpl
def rgO(a:Addr)(n:Nat):HO:=.ext λh=>∃t u v,IsRange h a 0 n 1 t u v
theorem eQl:CallR X (.type "range") (λxs H Q=>∃n:Nat,xs=[.int n]/\∀p,H p=none->Q (.ref p) (upd H p (rgO p n))):=by
 intro pins s σ H xs us Q I r h;obtain⟨n,rfl,q⟩:=h;obtain⟨u,rfl,j⟩:=aZp r;obtain⟨t,rfl⟩:=j;refine call_range_1 ⟨.ref s.heap.objs.size,_,I.laid (t':=s.toks+1+1) (o:=rgO s.heap.objs.size n) (λb o e=>ae _ e) (Nat.le_refl _) ?_,rfl,q _ (I.hok.fresh (Nat.le_refl _))⟩;refine⟨⟨_,_,_,av _ rfl⟩,⟨_,av _ rfl⟩,?_⟩;rintro h1 h2 ⟨t1,i,t3,g⟩ k;exact⟨t1,i,t3,k _ g⟩
theorem bJ7(hc:X.calm=true:=by rfl):CallR X (.type "list") (λxs H Q=>∃p n,xs=[.ref p]/\H p=some (rgO p n)/\n<=1000/\∀l,H l=none->Q (.ref l) (upd H l (.lst ((a7 n).map λi=>.int (i:Nat))))):=by
 intro pins s σ H xs us Q I r h;obtain⟨p,n,rfl,B,O,q⟩:=h;obtain⟨u,rfl,rx⟩:=aZp r;cases rx;obtain⟨⟨t1,N,t3,g⟩,_⟩:=I.hok p _ B;refine call_list_range (n:=n) (I.ok.hd hc) g (small_one (by lia) (by lia) (by lia) (by lia)) (by rw[rangeSize_one];split <;> lia) (by lia) λh' L acc c D v it=>cJe I (by rw[am,b9,bf];lia) ?_ D v q
 refine bJ6 (by rw[am,b9,aM,it.1]) λi y u h1 h2=>?_
 obtain⟨t,rfl⟩:=it.2 i u (by rw[<- aL];exact h2)
 rw[aJ,bR] at h1;obtain⟨j,J,rfl⟩:=h1;obtain⟨_,z⟩:=aC.mp J;rw[List.getElem_range] at z;subst z;exact⟨t,by rw[Int.zero_add,Int.mul_one]⟩
theorem cJf{M:Am}{H:Hp}:∀cs:List Nat,RepL K M H (cs.map λc=>D.int (c:Nat)) (cs.map λc=>V.int (c:Nat))
 |[]=>RepL.nil
 |c::cs=>RepL.cons (by unfold RepV;rfl) (cJf cs)
def dLRg(b:Bool)(te:ED):ED:=fun Γ S Q=>te Γ S λd S1=>∃n:Nat,d=.int n/\n<=1000/\newL b ((a7 n).map λi=>.int (i:Nat)) S1 Q
theorem eQm{b:Bool}{e:Expr}{te:ED}{p p' pos':Pos}(hg:Gl X "list")(hm:X.mg "list"=none)(hg':Gl X "range")(hm':X.mg "range"=none)(he:PD K X e te)(hc:X.calm=true:=by rfl)
  (h1:az [e] X.env=(false,eval e X.env)::az [] X.env:=by rfl) (h2:az [Expr.Call (.Name "range" p') [e] [] pos'] X.env=(false,eval (Expr.Call (.Name "range" p') [e] [] pos') X.env)::az [] X.env:=by rfl) (h3:(cx pos (az [] X.env)).any (·.1)=false:=by rfl) (h4:(cx pos' (az [] X.env)).any (·.1)=false:=by rfl) :
  PD K X (.Call (.Name "list" p) [.Call (.Name "range" p') [e] [] pos'] [] pos) (dLRg b te) :=
 .of (aX6 (bJ7 hc) hg hm bXj (aXh (aX6 eQl hg' hm' boot_range (aXh he.o bQ6 h1) (by decide) (by decide) h1 h4) bQ6 h2) (by decide) (by decide) h2 h3) fun σ H Q B=>B.el λF S Γ QD r g q c =>
 ⟨F,S,Γ,_,r,g,q,λv d H1 j J L v1 z=>by
  obtain⟨n,Y,O,N⟩:=z;subst Y;rw[rint v1];refine⟨n,rfl,λp i=>⟨p,n,rfl,aQ7,O,λl hl=>?_⟩⟩;have D:Ext j H1 j (upd H1 p (rgO p n)):=Ext.same (aQw i);have U:H1 l=none:=by
   by_cases e:l=p
   ·subst e;exact i
   ·rwa [upd_ne e] at hl
  exact Cn.new (Cn.shift c (J.trans D)) (L.same (aQw i)) hl (cJf _) N⟩
end
end L2
set_option maxHeartbeats 1000000
namespace L2
open PySem PySem.Spec PyProof.Rows
def Its(x:Str):It:=⟨λi _=>i<x.cps.size,λi H v H'=>H'=H/\∃c,x.cps[i]?=some c/\v=.str ⟨#[c]⟩,λi _=>i=x.cps.size⟩
theorem cQe{P:aF}{w:aS}{K:Fg}{tg:Expr}(x:Str)(t:Tok)(ty:String)(it:Addr)(hty:["enumerate", "zip", "dict_itemiterator", "dict_reverseitemiterator", "odict_iterator", "itertools.zip_longest", "itertools.pairwise"].contains ty=false)
  (W:∀A:a4,A.handled=none->Walks P w A it [it] [it] x.cps.size (SignAt x) (λi h=>h.IsStrIter it ty x t i)) (hs:∀(A:a4) (i:Nat) (s:ak) (Q:ad->ak->Prop) (E:ad->ak->Prop),s.heap.IsStrIter it ty x t i->Q (.ref it) s->aG (aE P w) A (ir (.ref it)) Q E s) :
  Turn P w K tg (Its x) [it] it (λi h=>h.IsStrIter it ty x t i) where
 mem:=by simp
 obj:=λi h st b j=>by
  have e:b=it:=by simpa using j
  subst e;obtain⟨o,g,c,d⟩:=st;exact⟨o,g,λv z=>by rw[d] at z;cases z⟩
 keep:=λi h h' st k=>by
  obtain⟨o,g,r⟩:=st;exact⟨o,k it (by simp) o g,r⟩
 item:=by
  intro X U hw Y O i pins s σ H E I hf st L;subst U hw Y;obtain⟨f0,f1,f2,Z,f4,f5⟩:=hf it (by simp)
  refine(W X.A (I.ok.hd O)).item i s _ E L st λv h' B hv D J=>?_;obtain⟨c,u,N,rfl⟩:=hv;have I1:Inv X pins σ H {s with heap:=h',toks:=B}:=I.turned (t':=B) (λb o j e=>J b o (by simpa using j) e) f0 f1 Z f4 f5
  obtain⟨o,e,cl,d⟩:=id D;exact⟨_,rfl,dQ4 (s:={s with heap:=h',toks:=B}) e cl d hty ⟨.str ⟨#[c]⟩,H,I1,⟨u,rfl⟩,⟨rfl,c,N,rfl⟩,D,λb j=>(hf b j).1⟩⟩
 done:=by
  intro X U hw Y O i pins s σ H E I hf st L;subst U hw Y;obtain⟨f0,f1,f2,Z,f4,f5⟩:=hf it (by simp)
  have e:i=x.cps.size:=L;subst e;exact(W X.A (I.ok.hd O)).done s _ E st λh' B J=>⟨rfl,I.turned (t':=B) (λb o j e=>J b o (by simpa using j) e) f0 f1 Z f4 f5⟩
 self:=λA i s Q E st h=>hs A i s Q E st h
section
variable{X:Cx}{tg:Expr}
def iStr(tl:TE):TI:=fun σ H R=>tl σ H λv H1=>∃x,v=.str x/\R (Its x) H1
theorem fQ6{l:Expr}{tl:TE}(hl:PE X l tl):PI X tg l (iStr tl):=by
 intro pins s σ H R I h;refine thn (hl pins s σ H _ I h) λv s1 ⟨y,H1,j,z,x,e,q⟩=>?_;subst e;obtain⟨t,rfl⟩:=z;refine wpAny_pyIter_strU ?_;have D:∀b∈[s1.heap.objs.size],FpOk X pins H1 b:=λb B=>by
  have e:b=s1.heap.objs.size:=by simpa using B
  subst e;exact j.fpOk (Nat.le_refl _) (j.hok.fresh (Nat.le_refl _))
 refine⟨s1.heap.objs.size,[s1.heap.objs.size],(λi h=>h.IsStrIter s1.heap.objs.size (strIterType x) x t i),_,H1,rfl,j.kept (t':=s1.toks) λb o e=>ae _ e,?_,⟨_,av _ rfl,rfl,rfl⟩,D,q⟩;unfold strIterType
 split
 ·exact cQe x t _ _ (by decide) (λA hh=>Walks.strAscii hh _ x t) λA i s Q E st h=>wpAny_pyIter_striter_ascii st h
 ·exact cQe x t _ _ (by decide) (λA hh=>Walks.strWide hh _ x t) λA i s Q E st h=>wpAny_pyIter_striter_wide st h
end
section
variable{X:Cx}{K:Fg}{pos:Pos}
theorem eQn{F:Am}{S:Sto}{H:Hp}{x:Str}{G:Sto->Prop}:ItOk K F S H (Its x) (dQy x) G where
 go:=λJ f D H2 y j _ i d hd=>by
  unfold dQy at hd;rw[aJ,bR] at hd;obtain⟨c,hc,rfl⟩:=hd;rw[aL] at hc;have hi:i<x.cps.size:=by
   rcases Nat.lt_or_ge i x.cps.size with z|z
   ·exact z
   ·rw[Array.getElem?_eq_none z] at hc;cases hc
  refine⟨hi,λz N ⟨B,L,hc',v⟩=>?_⟩;subst v;subst B;rw[hc] at hc';cases hc';exact⟨Ext.refl _ _,j,by unfold RepV;rfl⟩
 stop:=λJ f D H2 y j _=>by unfold dQy;rw[am];exact aM
def fZw(te:ED):ID:=fun Γ S Q=>te Γ S λd S1=>match d with
 |.str x=>Q (dQy x) (λ_=>True) S1
 |_=>False
theorem dXf{tg l:Expr}{tl:ED}(hl:PD K X l tl):PID K X tg l (fZw tl):=.of (fQ6 hl.o) fun σ H Q j=>j.el λF S Γ QD r g q c =>
 ⟨F,S,Γ,_,r,g,q,λv d H1 D z B v1 i=>by
  match d,i with
  |.str x,i=>exact⟨x,rstr v1,c _ _ _ _ _ z B eQn i⟩⟩
end
end L2
set_option maxHeartbeats 4000000
namespace L2
open PySem PySem.Spec PyProof.Rows
section
variable{X:Cx}{K:Fg}{pos:Pos}{k:Nat}{F:Am}{S:Sto}{H:Hp}
theorem Rp.ntup(r:Rp K F S H){a:Addr}{xs:List V}(h:Rd H a (.tup xs)):¬ mt S F a:=λz=>by
 have no:∀u,H a=some u->(∀ys,u≠.tup ys)->(∀o ys,u≠.frz o (.tup ys))->False:=λu e D B=>by
  rcases h with h|⟨o,h⟩
  ·rw[e] at h;exact D _ (aQ h)
  ·rw[e] at h;exact B _ _ (aQ h)
 rcases z with z|z
 ·cases e:S a with
  |none=>exact z e
  |some o =>
   have q:=r.obj a o e;cases o with
   |lst ds=>obtain⟨us,i,_⟩:=q;exact no _ i (λ_ z=>by cases z) λ_ _ z=>by cases z
   |dk j=>obtain⟨us,i,_⟩:=q;exact no _ i (λ_ z=>by cases z) λ_ _ z=>by cases z
   |dt j=>obtain⟨us,i,_⟩:=q;exact no _ i (λ_ z=>by cases z) λ_ _ z=>by cases z
   |tb ps J=>obtain⟨us,i,_⟩:=q;exact no _ i (λ_ z=>by cases z) λ_ _ z=>by cases z
   |ex f L hl=>obtain⟨us,i,v⟩:=hl _ _ _ q;exact no _ i (λ_ z=>by subst z;exact v) λ_ _ z=>by subst z;exact v
 ·obtain⟨⟨zs,e,ct⟩,_⟩:=r.frm a z;exact no _ e (λ_ z=>by subst z;exact ct) λ_ _ z=>by subst z;exact ct
end
end L2
set_option maxHeartbeats 1000000
namespace L2
open PySem PySem.Spec PyProof.Rows
section
variable{X:Cx}
def dSs(w:aS):Dn (List Str):=λH v ms=>∃p es ep t,v=.ref p/\H p=some (stO p es ep t)/\t.fits es.size=true/\t.led=ST.ledOf w/\(t.plain=true->es.size<=1)/\ja (es.toList.map (·.2)) ms
theorem bX5{l l':List ad}(p:l'.Perm l):∀{m:List Str},ja l m->∃m',m'.Perm m/\ja l' m':=by
 induction p with
 |nil=>intro m h;exact⟨m,.refl _,h⟩
 |cons x p L =>
  intro m h;cases h with
  |cons y t r =>
   obtain⟨m',D,h'⟩:=L r;exact⟨_::m',D.cons _,.cons _ _ h'⟩
 |swap x y l =>
  intro m h;cases h with
  |cons y t r =>
   cases r with
   |cons z u r=>exact⟨_,.swap _ _ _,.cons _ _ (.cons _ _ r)⟩
 |trans p q j i =>
  intro m h;obtain⟨N,B,h1⟩:=i h;obtain⟨J,v,h2⟩:=j h1;exact⟨J,v.trans B,h2⟩
def cJg(w:aS):List V->Hp->VK->Prop:=λxs H Q=>∃x ms,xs=[x]/\dSs w H x ms/\ms.Nodup/\ms.length<300/\∀(l:Addr) (out:List Str),H l=none->out.Perm ms->out.Pairwise (λa b=>HT.ltS a b=true)->Q (.ref l) (upd H l (.lst (out.map V.str)))
theorem bZ5{w:aS}(hw:X.w=w:=by rfl)(hc:X.calm=true:=by rfl):CallR X (.builtin "sorted") (cJg w):=by
 subst hw;intro pins s σ H xs us Q I r h;obtain⟨x,ms,rfl,⟨p,es,ep,t,rfl,hH,hf,D,L,pp⟩,nd,h64,q⟩:=h;obtain⟨u,rfl,rx⟩:=aZp r;cases rx;obtain⟨hg,_⟩:=I.hok p _ hH;have hl:es.size=ms.length:=by have:=pp.length;simpa using this
 have hh:=I.ok.hd hc;refine ig kind_sorted plain_sorted entry_sorted (args_sorted1 _) ?_;unfold cR.«sorted»;refine aa (m:=checkCount "sorted" 1 1 _) (af ?_);refine aa (ST.collectT (by simp[hh]) hg hf D L (by omega) λvals h1 d B kp=>?_)
 obtain⟨ms',i,j⟩:=bX5 B pp;have hvl:vals.length=ms'.length:=j.length;have hml:ms'.length=ms.length:=i.length_eq;have Y:Inv X pins σ H {s with heap:=h1,drawn:=d}:=(I.kept (t':=s.toks) kp).drawn d
 refine aa (wpAny_newList ?_ (by rw[bf];omega))
 have v:(h1.push (bY "list" vals.toArray 0)).get? h1.objs.size=some (bY "list" vals.toArray 0):=av _ rfl;refine aa (bn (d0 slot_list_sort ⟨_,v,rfl⟩ entry_list_sort (SF.treeK strKind_oneLt (s:={s with heap:=h1.push (bY "list" vals.toArray 0),drawn:=d}) v j.keysOf (λU O rest e=>keyKind_strs (by rw[<- e];exact j)) (by rw[bf];omega) λz a1 a2=>⟨_,rfl,?_⟩) (args_list_sort _)))
 refine af ⟨_,rfl,?_⟩;obtain⟨out,o1,J,Z⟩:=sorted_out_str j a1 a2;obtain⟨v1,_⟩:=bQy (H:=H) o1;have N:H h1.objs.size=none:=Y.hok.fresh (Nat.le_refl _);obtain⟨e,he⟩:=sortedHeap_at (out:=(aO z).map (·.2)) v;have hol:=J.length_eq;have I2:Inv X pins σ (upd H h1.objs.size (.lst (out.map V.str))) {s with heap:=gy (h1.push (bY "list" vals.toArray 0)) h1.objs.size vals ((aO z).map (·.2)),drawn:=d}:=Y.laid (t':=s.toks) (λb o g=>(sortedHeap_old (Nat.ne_of_lt (aD g)) (Nat.lt_trans (aD g) (aD v))).trans (ae _ g)) (Nat.le_refl _)
  ⟨by rw[am,bf];omega,((aO z).map (·.2)).toList,e,v1,by rw[Array.toArray_toList];exact he⟩
 exact⟨.ref h1.objs.size,_,I2,rfl,q _ _ N (J.trans i) (dX3 Z ((J.trans i).nodup_iff.mpr nd))⟩
end
section
variable{X:Cx}{K:Fg}{pos:Pos}{k:Nat}
theorem fQ7{M:Am}{H:Hp}:∀ss:List Str,RepL K M H (ss.map D.str) (ss.map V.str)
 |[]=>RepL.nil
 |s::ss=>RepL.cons (by unfold RepV;rfl) (fQ7 ss)
end
end L2
set_option maxHeartbeats 4000000
namespace L2
open PySem PySem.Spec PyProof.Rows
end L2
set_option maxHeartbeats 1000000
namespace L2
open PySem PySem.Spec PyProof.Rows
section
variable{X:Cx}{K:Fg}{pos:Pos}
theorem fQ8:cj "abs"=some (.builtin "abs"):=by decide +kernel
def absD:RCD:=λds S Q=>match ds with
 |[.int i]=>Q (.int (if i<0 then -i else i)) S
 |_=>False
theorem eQo{e:Expr}{t:AD}{p:Pos}(hg:Gl X "abs")(hm:X.mg "abs"=none)(ha:PAD K X [e] t)(he:az [e] X.env=(false,eval e X.env)::az [] X.env:=by rfl)(hpl:(cx pos (az [] X.env)).any (·.1)=false:=by rfl):PD K X (.Call (.Name "abs" p) [e] [] pos) (dCB absD t):=aZs dQ6 (by
 intro F S H ds z Q QD r l h c
 match ds,h with
 |[.int i],q =>
  obtain⟨v,rfl,j⟩:=l.one;rw[rint j];exact⟨i,rfl,c _ _ _ S (Ext.refl _ _) r (by unfold RepV;rfl) q⟩) hg hm fQ8 ha (by decide) (by decide) he hpl
end
def emitOfS(elt:Expr)(acc:ad)(env:Env):Sem Unit:=eval elt env>>=λx=>fF elt.pos>>=λ_=>call (.builtin "set.add") [acc,x]>>=λ_=>pure ()
theorem cZ8(elt target iter t2 i2:Expr)(ifs ifs2:List Expr)(scope:Scope)(pos:Pos)(it acc:ad)(env:Env) :
  eK (.SetComp elt [⟨target,iter,ifs,0⟩,⟨t2,i2,ifs2,0⟩] scope pos) 0 it acc env=aQx target ifs iter.pos (innerOf (.SetComp elt [⟨target,iter,ifs,0⟩,⟨t2,i2,ifs2,0⟩] scope pos) i2 acc env) (.compLoop (.SetComp elt [⟨target,iter,ifs,0⟩,⟨t2,i2,ifs2,0⟩] scope pos) 0 it acc env) it env:=by
 unfold aQx bQo innerOf;show(fF iter.pos>>=λ_=>eV it>>=λr=>_)=_;refine bind_congr λ_=>bind_congr λr=>?_;cases r with
 |none=>rfl
 |some v =>
  show(eY target it v>>=λ_=>iV target env v>>=λ_=>(forIn ifs true _>>=λok=>_))=_;refine bind_congr λ_=>bind_congr λ_=>bind_congr λok=>?_;cases ok with
  |false=>rfl
  |true =>
   simp only[bind_assoc,iF]
   rfl
theorem cZ9(elt target iter t2 i2:Expr)(ifs ifs2:List Expr)(scope:Scope)(pos:Pos)(it acc:ad)(env:Env) :
  eK (.SetComp elt [⟨target,iter,ifs,0⟩,⟨t2,i2,ifs2,0⟩] scope pos) 1 it acc env=aQx t2 ifs2 i2.pos (emitOfS elt acc env) (.compLoop (.SetComp elt [⟨target,iter,ifs,0⟩,⟨t2,i2,ifs2,0⟩] scope pos) 1 it acc env) it env:=by
 unfold aQx bQo emitOfS;show(fF i2.pos>>=λ_=>eV it>>=λr=>_)=_;refine bind_congr λ_=>bind_congr λr=>?_;cases r with
 |none=>rfl
 |some v =>
  show(eY t2 it v>>=λ_=>iV t2 env v>>=λ_=>(forIn ifs2 true _>>=λok=>_))=_;refine bind_congr λ_=>bind_congr λ_=>bind_congr λok=>?_;cases ok <;> rfl
def TKp(H H':Hp):Prop:=∀a xs,Rd H a (.tup xs)->Rd H' a (.tup xs)
abbrev PVk{κ:Type}(rp:Hp->V->κ->Prop)(H:Hp):ad->V×κ->Prop:=λv p=>RelV p.1 v/\rp H p.1 p.2
structure SKn(P:aF)(w:aS)(K:Fg)(κ:Type) where
 kd:Hp->ST.SetKd P w κ
 rp:Hp->V->κ->Prop
 pI:Array (Int×ad)->aT->List κ->Prop
 toI:∀{X:Cx}{pins σ H s p es ep t} {ps:List (V×κ)},X.prog=P->X.w=w->X.K=K->Inv X pins σ H s->s.heap.get? p=some (ST.setOb es ep t)->pI es t (ps.map (·.2))->br (PVk rp H) (es.toList.map (·.2)) ps ->
  (kd H).I s.heap p es ep t/\br (λ(e:Int×ad) k=>(kd H).is s.heap k e.2) es.toList (ps.map (·.2))
 toIs:∀{X:Cx}{pins σ H s} {x:V}{v:ad}{k:κ},X.prog=P->X.w=w->X.K=K->Inv X pins σ H s->RelV x v->rp H x k->(kd H).is s.heap k v
 ofI:∀{H:Hp}{h:bd}{p es ep t} {ks:List κ},(kd H).I h p es ep t->ks.Nodup->br (λ(e:Int×ad) k=>(kd H).is h k e.2) es.toList ks->∃ps:List (V×κ),br (PVk rp H) (es.toList.map (·.2)) ps/\ps.map (·.2)=ks/\pI es t ks
 fr:∀led,pI #[] (.fresh 0 0 led) []
 mo:∀{H H':Hp}{v:V}{k:κ},TKp H H'->rp H v k->rp H' v k
def StV{P:aF}{w:aS}{K:Fg}{κ:Type}(kn:SKn P w K κ)(H:Hp)(p:Addr)(acc:List κ):Prop:=∃es ep t,∃ps:List (V×κ),H p=some (stO p es ep t)/\t.led=ST.ledOf w/\kn.pI es t (ps.map (·.2))/\br (PVk kn.rp H) (es.toList.map (·.2)) ps/\(ps.map (·.2)).Nodup/\∀k,k∈ps.map (·.2)↔k∈acc
theorem StV.keep{P:aF}{w:aS}{K:Fg}{κ:Type}{kn:SKn P w K κ}{H H':Hp}{p:Addr}{acc:List κ}(h:StV kn H p acc)(e:H' p=H p)(t:TKp H H'):StV kn H' p acc:=by
 obtain⟨es,D,tb,ps,h1,h2,B,v,j,i⟩:=h;exact⟨es,D,tb,ps,e.trans h1,h2,B,Paired.imp (λ_ _ z=>⟨z.1,kn.mo t z.2⟩) v,j,i⟩
theorem StV.at{P:aF}{w:aS}{K:Fg}{κ:Type}{kn:SKn P w K κ}{H:Hp}{p:Addr}{acc:List κ}(h:StV kn H p acc):∃φ,H p=some (.ext φ):=by
 obtain⟨es,i,tb,ps,h1,_⟩:=h;exact⟨_,h1⟩
theorem eQp{H:Hp}{p:Addr}{φ:bd->Prop}{o:HO}(h:H p=some (.ext φ)):TKp H (upd H p o):=λa xs r=>by
 have:a≠p:=by
  rintro rfl;rcases r with r|⟨o,r⟩ <;> rw[h] at r <;> cases r
 rcases r with r|⟨o',r⟩
 ·exact .inl (by rw[upd_ne this];exact r)
 ·exact .inr ⟨o',by rw[upd_ne this];exact r⟩
section
variable{X:Cx}{K:Fg}{κ:Type}[DecidableEq κ]
def cJh{P:aF}{w:aS}(kn:SKn P w K κ)(p:Addr)(te:TE):TB:=fun σ H N=>te σ H λy H4=>∃acc k,StV kn H4 p acc/\kn.rp H4 y k/\acc.length+1<=300/\∀φ,StV kn (upd H4 p (.ext φ)) p (acc++[k])->N (upd H4 p (.ext φ))
theorem dZ6{P:aF}{w:aS}{kn:SKn P w K κ}{elt:Expr}{te:TE}{p:Addr}(hxe:X.xe=λ_ _=>False)(hu:X.A.units+1<cB)(hP:X.prog=P)(hw:X.w=w)(hK:X.K=K)(he:PE X elt te):PB X (emitOfS elt (.ref p) X.env) (cJh kn p te):=by
 intro pins s σ H N I h;unfold emitOfS;have h1:=he pins s σ H _ I h;rw[hxe] at h1;refine aa (thn h1 λy s1 ⟨v,H1,I1,r1,acc,k,st,rk,hn,n⟩=>aa (e7 (aa ?_)));obtain⟨es,ep,t,ps,hp,Z,hpi,hpp,hnd,Y⟩:=id st;subst hP hw;obtain⟨ho,_⟩:=I1.hok p _ hp;obtain⟨i1,i2⟩:=kn.toI rfl rfl hK I1 ho hpi hpp;have isk:=kn.toIs rfl rfl hK I1 r1 rk;have M:ST.Mem (kn.kd H1) s1.heap p acc (ST.ledOf X.w) (ps.map (·.2)):=⟨⟨es,ep,t,i1,Z,i2⟩,hnd,Y⟩;refine d0 F.slot_set_add ⟨_,ho,rfl⟩ F.entry_set_add ?_ (F.args_set_add_2 _ _);unfold cR.«set.add» cR.Frozenset.oneOther;simp only[iM,bind_assoc];unfold iw;refine aa (af ?_)
 try dsimp only
 refine aa (af ?_)
 try dsimp only
 refine aa ?_;refine ST.addM (kn.kd H1) (show X.A.units+1<cB by omega) M isk (by have:=M.size;omega) λh' tk ks' M' sb kp tk'=>?_
 show aG _ _ (ret cK) _ _ _;refine af ⟨_,rfl,af ?_⟩;obtain⟨D,J,t',L,j,i2'⟩:=M'.ex;obtain⟨ps',O,B,U⟩:=kn.ofI L M'.nd i2';have i:=(kn.kd H1).obj L;have I2:Inv X pins σ (upd H1 p (stO p D J t')) {s1 with heap:=h',toks:=tk}:=I1.write (x:=p) (e:=p) (by rw[hp];exact trivial) (.inl rfl) (λb u hb hu=>(sb.2 b hb).trans hu) ⟨_,i⟩ ⟨i,⟨_,i⟩,λg1 g2 g k=>k _ g⟩
 have tk1:TKp H1 (upd H1 p (stO p D J t')):=eQp hp;refine⟨σ,_,I2,Wk.refl σ,n _ ⟨D,J,t',ps',aQ7,j,by rw[B];exact U,Paired.imp (λ_ _ z=>⟨z.1,kn.mo tk1 z.2⟩) O,by rw[B];exact M'.nd,by rw[B];exact M'.mem⟩⟩
end
end L2
namespace ST
open PySem PySem.SetTable PySem.Spec PyProof.Rows
end ST
namespace L2
open PySem PySem.Spec PyProof.Rows
def cZa(P:aF)(w:aS)(K:Fg):SKn P w K Str where
 kd:=λ_=>ST.strKd P w
 rp:=λ_ v k=>v=.str k
 pI:=λes t _=>t.fits es.size=true/\ElemsOf (dM P w) es.toList/\(t.plain=true->es=#[])
 toI:=λ{X pins σ H s p es ep t ps} _ _ _ _ ho hpi hp=>⟨⟨ho,hpi⟩,by
  generalize es.toList=l at hp
  induction l generalizing ps with
  |nil=>cases hp;exact .nil
  |cons e l ih =>
   cases hp with
   |cons h1 h2 =>
    refine .cons ?_ (ih h2);obtain⟨r,e1⟩:=h1;rw[e1] at r;obtain⟨t',e2⟩:=r;have e2:e.2=_:=e2;show dY _ e.2=true;rw[e2];simp[dY]⟩
 toIs:=λ{X pins σ H s x v k} _ _ _ _ r e=>by
  rw[e] at r;obtain⟨t',e2⟩:=r;rw[e2];have z:dY k (iz k t')=true:=by simp[dY]
  exact z
 ofI:=λ{H h p es ep t ks} hI nd hp=>by
  clear nd;refine(λ⟨ps,a,b⟩=>⟨ps,a,b,hI.2⟩) (?_:∃ps:List (V×Str),br (PVk (λ_ v k=>v=.str k) H) (es.toList.map (·.2)) ps/\ps.map (·.2)=ks);generalize es.toList=l at hp
  induction l generalizing ks with
  |nil=>cases hp;exact⟨[],.nil,rfl⟩
  |cons e l ih =>
   cases hp with
   |cons h1 h2 =>
    obtain⟨ps,a,b⟩:=ih h2;obtain⟨tk,e1⟩:=eG (show dY _ e.2=true from h1)
    exact⟨(.str _,_)::ps,.cons ⟨⟨tk,e1⟩,rfl⟩ a,by rw[bC,b]⟩
 fr:=λled=>⟨rfl,ST.empty_el,λ_=>rfl⟩
 mo:=λ_ h=>h
theorem bZ6{prog:aF}{w:aS}{A:a4}{R:Result->ak->Prop}{s:ak}{elt target iter:Expr}{ifs:List Expr}{rest:List eE}{scope:Scope}{pos:Pos}{it acc:ad}{env:Env}
  (h0:ew (aE prog w) A (.compLoop (.SetComp elt (⟨target,iter,ifs,0⟩::rest) scope pos) 0 it acc env) R s)
  (h:aG (aE prog w) A (ir it) (λit' s'=>ew (aE prog w) A (.compLoop (.SetComp elt (⟨target,iter,ifs,0⟩::rest) scope pos) 0 it' acc env) R s')
   (notedBy (aE prog w) A env λx s'=>R (.error x) s') s) :
  ew (aE prog w) A (.compStart (.SetComp elt (⟨target,iter,ifs,0⟩::rest) scope pos) 0 it acc env) R s:=by
 refine fH ?_;show aG _ _ ((compStart (.SetComp elt (⟨target,iter,ifs,0⟩::rest) scope pos) 0 it acc env).onRaise (λx=>do noteFrame x env;fF theWindowsPlace)) _ _ s
 refine wpAny_notedAt ?_;unfold compStart;show aG _ _ (ask>>=_) _ _ s;refine aa (c9 (wpAny_ite ?_))
 split
 ·first
   |exact aa (af (af (iG rfl h0)))
   |exact af (iG rfl h0)
 ·refine aa (c7 ?_);show aG _ _ (fF iter.pos>>=_) _ _ s;exact aa (e7 (aa (cT h (λit' s' h'=>af (iG rfl h')) λ_ _ x=>x)))
section
variable{X:Cx}{K:Fg}{κ:Type}{pins:List (Addr×Obj)}{σ:St}{H:Hp}{s:ak}
def bZ7{P:aF}{w:aS}(kn:SKn P w K κ)(is:List (Option Nat))(wi:TI)(g:TG)(tt:TT)(tb:Addr->TB):TE:=fun σ H Q=>wi σ H λJ H1=>∀p,H1 p=none->∀φ,StV kn (upd H1 p (.ext φ)) p []->bXk J (capt is σ) g tt (tb p) (Q (.ref p)) (upd H1 p (.ext φ))
theorem comp_genS{P:aF}{w:aS}{kn:SKn P w K κ}(hw:X.w=w){elt target iter:Expr}{ifs:List Expr}{gs:List eE}{scope:Scope}{pos:Pos}{N':List Str}{is:List (Option Nat)}{wi:TI}{g:TG}{tt:TT}{tb:Addr->TB}{oc:Option Str}{m:ad->Env->Sem Unit}(hcalm:X.calm=true)(hN:X.N.Nodup)
  (hturn:∀it acc env,eK (.SetComp elt (⟨target,iter,ifs,0⟩::gs) scope pos) 0 it acc env=aQx target ifs iter.pos (m acc env) (.compLoop (.SetComp elt (⟨target,iter,ifs,0⟩::gs) scope pos) 0 it acc env) it env)
  (cp:Cap X.N scope N' is) (hi:PI X target iter wi)
  (hg:∀cl C fp s H,PG (aQ9 X N' scope cl C fp s H oc) target g) (ht:∀cl C fp s H,PTs (aQ9 X N' scope cl C fp s H oc) ifs tt) (hb:∀cl C fp s H D,PB (aQ9 X N' scope cl C fp s H oc) (m (.ref D) (gE scope cl C X.env)) (tb D))
  (hcf:∀n acc,eJ n scope.names acc=ocl oc n acc) (hpc:∀h,fT h scope.names=ohp oc h)
  (hkind:scope.kind=.function) (hcell:∀y∈scope.names,y.2=.cell->oc=some y.1)
  (hu:∀y∈scope.names,scope.names.lookup y.1=some y.2) (hoc:∀x,oc=some x->scope.names.lookup x=some .cell)
  (hVb:okV scope.names X.env.scope.names=true)
  (hs:∀x,b7 iter X.env x=pure x)
  {use:Option (ad->Sem Unit)}{Q:VK}{Qv:ad->ak->Prop}(I:Inv X pins σ H s) (h:bZ7 kn is wi g tt tb σ H Q)
  (fin:∀D C H5 s6,Inv X pins σ H5 s6->(∃m,s6.heap.Ns C m)->FrC X pins C H5->Q (.ref D) H5->compPost (aE X.prog X.w) X.A X.xe use Qv (.ref D) C (.ok .next) s6) :
  aG (aE X.prog X.w) X.A (comprehension (.SetComp elt (⟨target,iter,ifs,0⟩::gs) scope pos) scope X.env (firstIterPos (⟨target,iter,ifs,0⟩::gs) pos) (newSet (.type "set")) (firstAsync (⟨target,iter,ifs,0⟩::gs)) (firstIter (⟨target,iter,ifs,0⟩::gs) X.env) use) Qv X.xe s:=by
 have hV:=dZq hVb;have hV':∀x,(x,aW)∈scope.names->Vis X.env.scope x/\X.env.scope.names.lookup x≠some .local:=λx i=>hV (x,.free) i rfl;have hu':∀x,(x,aW)∈scope.names->scope.names.lookup x=some .free:=λx i=>hu (x,.free) i;have j:∀x∈scope.names,x.2=.local->scope.names.lookup x.1=some .local:=λx i hl=>by rw[hu x i,hl]
 obtain⟨cl,L,c1,c2,c3⟩:=aX1 (env:=X.env) (scope:=scope) λx i=>I.ok.has x (by
  obtain⟨v,n⟩:=hV' x i;rcases v with v|v|v
  ·exact absurd v n
  ·exact .inl v
  ·exact .inr v)
 have hun:∀x,oc=some x->cl.lookup x=none:=λx i=>by
  cases e:cl.lookup x with
  |none=>rfl
  |some c =>
   have:=hu' x (c3 x c e)
   rw[hoc x i] at this;cases this
 refine wpAny_comprehension_free (use:=use) rfl hs L hkind j (thn (hi pins s σ H _ I h) λv s1 h1=>thn h1 λitv s2 h2=>?_);obtain⟨it,fp,tn,J,H2,rfl,I2,T,st2,f2,q2⟩:=h2;unfold newSet i9;refine aa (aa (c9 (af ?_)));dsimp only;refine bu ?_;have hD:H2 s2.heap.objs.size=none:=I2.hok.fresh (Nat.le_refl _);have fpl:∀b∈fp,b<s2.heap.objs.size:=λb hb=>by obtain⟨o,e,_⟩:=T.obj _ _ st2 b hb;exact aD e
 have led:(!(X.w.params.followText "set-order"))=ST.ledOf X.w:=rfl;have O:Inv X pins σ (upd H2 s2.heap.objs.size (stO s2.heap.objs.size #[] 0 (.fresh 0 0 (ST.ledOf X.w)))) {s2 with heap:=s2.heap.push (ST.setOb #[] 0 (.fresh 0 0 (ST.ledOf X.w)))} :=
  I2.laid (t':=s2.toks) (λb u e=>ae _ e) (Nat.le_refl _) ⟨av _ rfl,⟨_,av _ rfl⟩,λg1 g2 g k=>k _ g⟩
 have st3:tn 0 (s2.heap.push (ST.setOb #[] 0 (.fresh 0 0 (ST.ledOf X.w)))):=T.keep _ _ _ st2 λb hb o e=>ae _ e;have U:∀b∈fp,FpOk X pins (upd H2 s2.heap.objs.size (stO s2.heap.objs.size #[] 0 (.fresh 0 0 (ST.ledOf X.w)))) b:=λb hb=>⟨by rw[upd_ne (Nat.ne_of_lt (fpl b hb))];exact(f2 b hb).1,(f2 b hb).2⟩
 have B:∀b∈fp,b<(s2.heap.push (ST.setOb #[] 0 (.fresh 0 0 (ST.ledOf X.w)))).objs.size:=λb hb=>by rw[cC];exact Nat.lt_succ_of_lt (fpl b hb)
 have q3:=q2 _ hD _ (⟨#[],0,_,[],aQ7,by rw[<- hw];rfl,kn.fr _,.nil,eM,λ_=>Iff.rfl⟩:StV kn (upd H2 s2.heap.objs.size (stO s2.heap.objs.size #[] 0 (.fresh 0 0 (ST.ledOf X.w)))) _ [])
 show aG (aE X.prog X.w) X.A _ _ X.xe {s2 with heap:=s2.heap.push (ST.setOb #[] 0 (.fresh 0 0 (ST.ledOf X.w)))}
 change bXk _ _ _ _ _ _ (upd H2 s2.heap.objs.size (stO s2.heap.objs.size #[] 0 (.fresh 0 0 (ST.ledOf X.w)))) at q3;generalize hob:ST.setOb #[] 0 (.fresh 0 0 (ST.ledOf X.w))=ob at *
 generalize hso:stO s2.heap.objs.size #[] 0 (.fresh 0 0 (ST.ledOf X.w))=so at *
 generalize hDe:s2.heap.objs.size=D at *
 generalize hs3:({s2 with heap:=s2.heap.push ob}:ak)=s3 at *
 have hsh:s3.heap=s2.heap.push ob:=by rw[<- hs3]
 rw[<- hsh] at st3 B;have ok:=bQ8 (N':=N') (cl:=cl) (oc:=oc) O U B hkind c1 c2 hcell hun;have I4:=aJj O ok hN c1 c2 hu' cp hV' hun;refine cZx ?_;rw[hcf,hpc];have kp:∀b o,s3.heap.get? b=some o->(ohp oc (s3.heap.push {cls:=.type "dict",data:=.dict #[]})).get? b=some o:=λb o e=>aJ9 (ae _ e);have Z:tn 0 (ohp oc (s3.heap.push {cls:=.type "dict",data:=.dict #[]})):=T.keep _ _ _ st3 λb _ o e=>kp b o e;have f4:∀b∈fp,FpOk (aQ9 X N' scope (ocl oc (s3.heap.objs.size+1) cl) s3.heap.objs.size fp s3 (upd H2 D so) oc) [] (upd H2 D so) b:=λb hb =>
  ⟨(U b hb).1,(ok.exf b hb).1,ok.exfs b hb,.inl hb,(ok.exf b hb).2,λp hp=>absurd (show p∈([]:List (Addr×Obj)) from hp) (by simp)⟩
 have loop:=bQp (X:=aQ9 X N' scope (ocl oc (s3.heap.objs.size+1) cl) s3.heap.objs.size fp s3 (upd H2 D so) oc) (e:=.SetComp elt (⟨target,iter,ifs,0⟩::gs) scope pos) (d:=0) (acc:=.ref D)
  (R:=compPost (aE X.prog X.w) X.A X.xe use Qv (.ref D) s3.heap.objs.size) hcalm rfl (hturn _ _ _) rfl rfl T (hg _ _ _ _ _) (ht _ _ _ _ _) (hb _ _ _ _ _ D) I4 Z f4 q3 (by
   intro H5 s6 Y _ qn;obtain⟨m6,n6,_⟩:=id Y.loc;have un:Un (frs X.stack) fp (upd H2 D so) H5 s3.heap s6.heap:=Y.base;have hok':HOk X.prog X.w H5 s6.heap:=Y.hok;refine fin D s3.heap.objs.size H5 s6 (O.call' (s':=s6) (ch:=fp) Y.os un hok' Y.bare λb hb=>⟨(U b hb).2.2.2.1,(U b hb).2.1,(U b hb).2.2.2.2.1,(U b hb).2.2.2.2.2⟩) ⟨m6,n6⟩ ⟨Y.free,Nat.ne_of_gt O.lt,O.sz,λx c e z=>?_,λp hp z=>?_⟩ qn
   ·obtain⟨v,q⟩:=O.cell x c e;exact absurd q.lt (by rw[z];exact Nat.lt_irrefl _)
   ·exact absurd (aD (O.pin p hp).1) (by rw[z];exact Nat.lt_irrefl _))
 exact bZ6 loop (T.self _ 0 _ _ _ Z loop)
theorem cJi{P:aF}{w:aS}{kn:SKn P w K κ}{elt target iter:Expr}{ifs:List Expr}{gs:List eE}{scope:Scope}{pos:Pos}{N':List Str}{is:List (Option Nat)}{wi:TI}{g:TG}{tt:TT}{tb:Addr->TB}{oc:Option Str}{m:ad->Env->Sem Unit}(hw:X.w=w)(hcalm:X.calm=true)(hN:X.N.Nodup)
  (hturn:∀it acc env,eK (.SetComp elt (⟨target,iter,ifs,0⟩::gs) scope pos) 0 it acc env=aQx target ifs iter.pos (m acc env) (.compLoop (.SetComp elt (⟨target,iter,ifs,0⟩::gs) scope pos) 0 it acc env) it env)
  (cp:Cap X.N scope N' is) (hi:PI X target iter wi)
  (hg:∀cl C fp s H,PG (aQ9 X N' scope cl C fp s H oc) target g) (ht:∀cl C fp s H,PTs (aQ9 X N' scope cl C fp s H oc) ifs tt) (hb:∀cl C fp s H D,PB (aQ9 X N' scope cl C fp s H oc) (m (.ref D) (gE scope cl C X.env)) (tb D))
  (hcf:∀n acc,eJ n scope.names acc=ocl oc n acc:=by intro _ _;rfl) (hpc:∀h,fT h scope.names=ohp oc h:=by intro _;rfl)
  (hkind:scope.kind=.function:=by rfl) (hcell:∀y∈scope.names,y.2=.cell->oc=some y.1:=by decide +kernel)
  (hu:∀y∈scope.names,scope.names.lookup y.1=some y.2:=by decide +kernel) (hoc:∀x,oc=some x->scope.names.lookup x=some .cell:=by intro x h;cases h <;> rfl)
  (hVb:okV scope.names X.env.scope.names=true:=by first|rfl|kernel_rfl)
  (hs:∀x,b7 iter X.env x=pure x:=by intro _;rfl) :
  PE X (.SetComp elt (⟨target,iter,ifs,0⟩::gs) scope pos) (bZ7 kn is wi g tt tb):=by
 intro pins s σ H Q I h;rw[arm_eval_SetComp];refine comp_genS hw hcalm hN hturn cp hi hg ht hb hcf hpc hkind hcell hu hoc hVb hs I h λD C B J z ⟨m,n⟩ v j=>?_;exact⟨m,n,λh' i=>⟨.ref D,B,v.gone z i,rfl,j⟩⟩
end
section
variable{X:Cx}{K:Fg}{pos:Pos}{k:Nat}{κ:Type}
theorem eQq{F:Am}{S S':Sto}{H H':Hp}(r:Rp K F S H)(x:Ext S H S' H'):TKp H H':=λa xs h=>by
 have i:S a=none:=aY λn=>r.ntup h (.inl n);rcases h with h|⟨o,h⟩
 ·exact .inl (x.keep _ _ i h)
 ·exact .inr ⟨o,x.keep _ _ i h⟩
def aX5{P:aF}{w:aS}(kn:SKn P w K κ)(enc:κ->D)(L:List Nat)(tv:Addr->TB)(td:BD):Prop:=∀D' F S H Γ σ acc N QD,Free L σ->F D'->Rp K F S H->RepG K (mt S F) H Γ σ->StV kn H D' acc->td Γ S (acc.map enc) QD ->
 (∀acc' S' H',ExtX D' S H S' H'->Rp K F S' H'->StV kn H' D' acc'->QD (acc'.map enc) S'->N H')->tv D' σ H N
def fQ9(enc:κ->D)(te:ED):BD:=fun Γ S acc Q=>te Γ S λy S1=>∃k,y=enc k/\acc.length+1<=300/\Q (acc++[y]) S1
theorem extx_upd{D':Addr}{S:Sto}{H:Hp}{o:HO}:ExtX D' S H S (upd H D' o):=⟨λa o n _ e=>by rw[upd_ne n];exact e,λa h=>by
  by_cases e:a=D'
  ·subst e;rw[aQ7];exact λz=>by cases z
  ·rw[upd_ne e];exact h,λa h=>.inl h⟩
theorem eQr{D':Addr}{F:Am}{S:Sto}{H:Hp}{o:HO}(r:Rp K F S H)(hF:F D')(ho:Clt o):Rp K F S (upd H D' o) :=
 ⟨λa u e=>(r.obj a u e).keep (extx_upd.kp hF) (upd_ne (by rintro rfl;rw[(r.frm a hF).2] at e;cases e)),λa h=>by
   obtain⟨⟨ys,e,ct⟩,h2⟩:=r.frm a h
   by_cases z:a=D'
   ·subst z;exact⟨⟨_,aQ7,ho⟩,h2⟩
   ·exact⟨⟨ys,by rw[upd_ne z];exact e,ct⟩,h2⟩⟩
theorem dZ7{P:aF}{w:aS}{kn:SKn P w K κ}{enc:κ->D}(hrep:∀M H k v,RepV K M H (enc k) v->kn.rp H v k){L:List Nat}{te:ED}:aX5 kn enc L (λD'=>cJh kn D' (upE K te)) (fQ9 enc te):=by
 intro D' F S H Γ σ acc N QD _ B r g st q c;refine⟨F,S,Γ,_,r,g,q,λv d H1 S1 i J v1 ⟨k,e,U,O⟩=>?_⟩;have Y:S D'=none:=(r.frm D' B).2;obtain⟨φ0,h0⟩:=st.at
 have Z:H1 D'=H D':=by rw[h0];exact i.keep _ _ Y h0
 have z:StV kn H1 D' acc:=st.keep Z (eQq r i);subst e;refine⟨acc,k,z,hrep _ _ _ _ v1,by simpa using U,fun φ j=>c (acc++[k]) S1 _ (i.x.trans extx_upd) (eQr J B trivial) j (by rw[cu];exact O)⟩
theorem cQf{P:aF}{w:aS}{kn:SKn P w K κ}{enc:κ->D}{L L':List Nat}{g:TG}{gd:GD}{tt:TD}{tv:Addr->TB}{tb:BD}(hg:CG K L L' g gd)(hb:aX5 kn enc L' tv tb){D':Addr}{F:Am}{S:Sto}{H:Hp}{Γ:Gm}{σ:St}{acc:List κ}{N:Hp->Prop}{QD:List D->Sto->Prop}{J:It}{xs:List D}{G:Sto->Prop}
  (f:Free L σ) (hF:F D') (r:Rp K F S H) (gm:RepG K (mt S F) H Γ σ) (st:StV kn H D' acc) (it:∀S2 H2,ExtX D' S H S2 H2->Rp K F S2 H2->G S2->(∀i d,xs[i]?=some d->J.go i H2/\∀x H3,J.yld i H2 x H3->Ext S2 H2 S2 H3/\Rp K F S2 H3/\RepV K (mt S2 F) H3 d x)/\J.stop xs.length H2)
  (q:aZ2 gd tt tb G Γ xs (acc.map enc) S QD) (c:∀acc' S' H',ExtX D' S H S' H'->Rp K F S' H'->StV kn H' D' acc'->QD (acc'.map enc) S'->N H'):bXk J σ g (upT K tt) (tv D') N H:=by
 refine⟨λi m H'=>m=xs.length-i/\i<=xs.length/\∃S' acc',ExtX D' S H S' H'/\Rp K F S' H'/\StV kn H' D' acc'/\aZ2 gd tt tb G Γ (xs.drop i) (acc'.map enc) S' QD,⟨xs.length,by simp,Nat.zero_le _,S,acc,(Ext.refl _ _).x,r,st,by simpa using q⟩,?_⟩
 rintro i m H' ⟨rfl,hi,S',acc',Z,r2,O,f2⟩;have g2:=gm.keep (Z.kp hF)
 by_cases U:i<xs.length
 ·rw[aZt U] at f2;obtain⟨hG,f2⟩:=f2;obtain⟨hgo,hy⟩:=(it S' H' Z r2 hG).1 i xs[i] (ag U);refine .inr ⟨hgo,λv=>∃Y j,ExtX D' S H Y v/\Rp K F Y v/\StV kn v D' j/\aZ2 gd tt tb G Γ (xs.drop (i+1)) (j.map enc) Y QD,λv z=>⟨xs.length-(i+1),by omega,rfl,U,z⟩,λx H3 y3=>?_⟩
  obtain⟨x3,r3,v3⟩:=hy x H3 y3;refine hg F S' H3 Γ σ xs[i] x _ _ f r3 (g2.ext x3) v3 f2 fun Γ4 S4 σ4 H4 x4 r4 g4 wk fr4 q4=>⟨wk,F,S4,Γ4,_,r4,g4,q4,λz H5 S5 x5 r5 q5=>?_⟩;have B:=x3.trans (x4.trans x5);obtain⟨φ0,h0⟩:=O.at
  have h5:H5 D'=H' D':=by rw[h0];exact B.keep _ _ (r2.frm D' hF).2 h0
  have st5:StV kn H5 D' acc':=O.keep h5 (eQq r2 B);have x05:ExtX D' S H S5 H5:=Z.trans B.x;cases z with
  |false=>exact⟨S5,acc',x05,r5,st5,q5⟩
  |true=>exact hb D' F S5 H5 Γ4 σ4 acc' _ _ fr4 hF r5 (g4.ext x5) st5 q5 λacc6 S6 H6 x6 r6 st6 q6=>⟨S6,acc6,x05.trans x6,r6,st6,q6⟩
 ·have e:i=xs.length:=by omega
  subst e;rw[eP] at f2;exact .inl ⟨(it S' H' Z r2 f2.1).2,c acc' S' H' Z r2 O f2.2⟩
theorem cJj{P:aF}{w:aS}{kn:SKn P w K κ}{enc:κ->D}{L L':List Nat}{wi:ID}{g:TG}{gd:GD}{tt:TD}{tv:Addr->TB}{tb:BD}(hg:CG K L L' g gd)(hb:aX5 kn enc L' tv tb):aX5 kn enc L (λD'=>dZu (upI K wi) g (upT K tt) (tv D')) (eJs wi gd tt tb):=by
 intro D' F S H Γ σ acc N QD fr z r U st q c;refine⟨F,S,Γ,_,r,U,q,λJ xs G H1 S1 v Z it q1=>?_⟩;obtain⟨φ0,h0⟩:=st.at
 have h1:H1 D'=H D':=by rw[h0];exact v.keep _ _ (r.frm D' z).2 h0
 exact cQf hg hb fr z Z (U.ext v) (st.keep h1 (eQq r v)) (λY H2 j B O=>⟨it.go F (FE.refl _ _) Y H2 (j.w z) B O,it.stop F (FE.refl _ _) Y H2 (j.w z) B O⟩) q1 λi S' H' j=>c i S' H' (v.x.trans j)
theorem dZ8{P:aF}{w:aS}{kn:SKn P w K κ}{enc:κ->D}{L L':List Nat}{is:List (Option Nat)}{wi:ID}{g:TG}{gd:GD}{tt:TD}{tv:Addr->TB}{tb:BD}(hL:∀σ,Free L (capt is σ))(hg:CG K L L' g gd)(hb:aX5 kn enc L' tv tb)
  {σ:St}{H:Hp}{Q:VK}{F:Am}{S:Sto}{Γ:Gm}{QD:List D->Sto->Prop}(r:Rp K F S H) (gm:RepG K (mt S F) H Γ σ) (q:wi Γ S λxs G S1=>aZ2 gd tt tb G (cXz is Γ) xs [] S1 QD)
  (c:∀p ks H' S',Ext S H S' H'->Rp K F S' H'->StV kn H' p ks->QD (ks.map enc) S'->Q (.ref p) H'):bZ7 kn is (upI K wi) g (upT K tt) tv σ H Q :=
 ⟨F,S,Γ,_,r,gm,q,λJ xs G H1 S1 Z O it q1 D' i φ st=>by
  have v:S1 D'=none:=O.sn i;have Y:FE F H1 (λa=>F a\/a=D'):=λa h=>h.elim .inl λe=>.inr (by rw[e];exact i)
  have nF:¬ F D':=λh=>by
   obtain⟨⟨ys,e,_⟩,_⟩:=O.frm D' h;rw[i] at e;cases e
  have xe:Ext S1 H1 S1 (upd H1 D' (.ext φ)):=Ext.same (aQw i);have kp:Keep (mt S1 F) H1 (mt S1 λa=>F a\/a=D') (upd H1 D' (.ext φ)):=xe.w.kpF Y;have N:Rp K (λa=>F a\/a=D') S1 (upd H1 D' (.ext φ)):=⟨λa o e=>(O.obj a o e).keep kp (upd_ne (by rintro rfl;rw[v] at e;cases e)),λa h=>by
   rcases h with h|h
   ·obtain⟨⟨ys,e,ct⟩,h2⟩:=O.frm a h;exact⟨⟨ys,by rw[upd_ne (by rintro rfl;rw[i] at e;cases e)];exact e,ct⟩,h2⟩
   ·subst h;exact⟨⟨_,aQ7,trivial⟩,v⟩⟩
  have old:∀ {j H2},ExtX D' S1 (upd H1 D' (.ext φ)) j H2->Ext S1 H1 j H2:=λ{j H2} y=>⟨λa o h e=>y.keep a o (by rintro rfl;rw[i] at e;cases e) h (by rw[upd_ne (by rintro rfl;rw[i] at e;cases e)];exact e),λa h=>y.live a (xe.live a h),λa h=>by
   rcases y.new a h with z|z
   ·exact .inl z
   ·by_cases e:a=D'
    ·subst e;exact .inr i
    ·rw[upd_ne e] at z;exact .inr z⟩
  refine cQf hg hb (hL σ) (F:=λa=>F a\/a=D') (.inr rfl) N ((gm.ext Z).keep kp |>.capt is) st (λj H2 y N hG=>⟨it.go _ Y j H2 (old y).w N hG,it.stop _ Y j H2 (old y).w N hG⟩) q1 λB S' H' y r3 U q3=>?_
  have less:Keep (mt S' λa=>F a\/a=D') H' (mt S' F) H':=⟨λ_ _ _ e=>e,λa h _=>λz=>h (z.elim .inl λw=>.inr (.inl w))⟩;have r4:Rp K F S' H':=⟨λa o e=>(r3.obj a o e).keep less rfl,λa h=>r3.frm a (.inl h)⟩;exact c D' B H' S' (Z.trans (old y)) r4 U q3⟩
def srtC(enc:κ->D)(lt:κ->κ->Bool)(b:Bool)(is:List (Option Nat))(wi:ID)(g:GD)(tt:TD)(tb:BD):ED:=fun Γ S Q=>wi Γ S λxs G S1=>aZ2 g tt tb G (cXz is Γ) xs [] S1 λacc S2=>∃ks:List κ,acc=ks.map enc/\∀out:List κ,out.Nodup->(∀t,t∈out↔t∈ks)->out.length<300/\(out.Pairwise (λa b=>lt a b=true)->newL b (out.map enc) S2 Q)
theorem eQs(M:Am)(H:Hp)(k:Str)(v:V)(h:RepV K M H (.str k) v):v=.str k:=by unfold RepV at h;exact h
theorem bJ8{α β:Type}{f:α->β}(hf:∀x y,f x=f y->x=y):∀{l m:List α},l.map f=m.map f->l=m
 |[],[],_=>rfl
 |[],_::_,h=>by cases h
 |_::_,[],h=>by cases h
 |x::l,y::m,h=>by
  rw[bC,bC] at h;injection h with h1 h2
  rw[hf _ _ h1,bJ8 hf h2]
section
variable{elt target iter:Expr}{ifs:List Expr}{gs:List eE}{scope:Scope}{N':List Str}{is:List (Option Nat)}{wi:ID}{g:TG}{gd:GD}{tt:TD}{tv:Addr->TB}{tb:BD}{oc:Option Str}{m:ad->Env->Sem Unit}{b:Bool}{p pos':Pos}
theorem eQt(L L':List Nat)(hr:Room k X.A)(hgl:Gl X "sorted")(hm:X.mg "sorted"=none)(hcalm:X.calm=true)(hN:X.N.Nodup)
  (hturn:∀it acc env,eK (.SetComp elt (⟨target,iter,ifs,0⟩::gs) scope pos') 0 it acc env=aQx target ifs iter.pos (m acc env) (.compLoop (.SetComp elt (⟨target,iter,ifs,0⟩::gs) scope pos') 0 it acc env) it env)
  (cp:Cap X.N scope N' is) (hL:∀σ,Free L (capt is σ)) (hi:PID K X target iter wi) (hgd:CG K L L' g gd)
  (hg:∀cl C fp s H,PG (aQ9 X N' scope cl C fp s H oc) target g) (ht:∀cl C fp s H,PTs (aQ9 X N' scope cl C fp s H oc) ifs (upT K tt)) (hbd:aX5 (cZa X.prog X.w K) D.str L' tv tb) (hb:∀cl C fp s H D,PB (aQ9 X N' scope cl C fp s H oc) (m (.ref D) (gE scope cl C X.env)) (tv D))
  (hcf:∀n acc,eJ n scope.names acc=ocl oc n acc:=by intro _ _;rfl) (hpc:∀h,fT h scope.names=ohp oc h:=by intro _;rfl)
  (hkind:scope.kind=.function:=by rfl) (hcell:∀y∈scope.names,y.2=.cell->oc=some y.1:=by decide +kernel)
  (hu:∀y∈scope.names,scope.names.lookup y.1=some y.2:=by decide +kernel) (hoc:∀x,oc=some x->scope.names.lookup x=some .cell:=by intro x h;cases h <;> rfl)
  (hVb:okV scope.names X.env.scope.names=true:=by first|rfl|kernel_rfl)
  (hs:∀x,b7 iter X.env x=pure x:=by intro _;rfl)
  (h1:az [Expr.SetComp elt (⟨target,iter,ifs,0⟩::gs) scope pos'] X.env=(false,eval (Expr.SetComp elt (⟨target,iter,ifs,0⟩::gs) scope pos') X.env)::az [] X.env:=by rfl) (h3:(cx pos (az [] X.env)).any (·.1)=false:=by rfl) :
  PD K X (.Call (.Name "sorted" p) [.SetComp elt (⟨target,iter,ifs,0⟩::gs) scope pos'] [] pos) (srtC D.str HT.ltS b is wi gd tt tb) :=
 .of (bQl (bZ5 rfl hcalm) hgl hm bZo (aXh (cJi (kn:=cZa X.prog X.w K) rfl hcalm hN hturn cp hi.o hg ht hb hcf hpc hkind hcell hu hoc hVb hs) bQ6 h1) (by decide) (by decide) h1 h3) fun σ H Q Z=>Z.el λF S Γ QD r gm q c =>
  show bZ7 (cZa X.prog X.w K) is (upI K wi) g (upT K tt) tv σ H (λv H1=>cJg X.w [v] H1 Q) from dZ8 hL hgd hbd r gm q λp' ks H' S' x1 r1 st Y=>by
   obtain⟨ks',hk,j⟩:=Y;have B:ks=ks':=bJ8 (λa b e=>by injection e) hk
   subst B;obtain⟨es,ep,t,ps,s1,s2,s3,s4,s5,i⟩:=st;obtain⟨U,q3⟩:=j (ps.map (·.2)) s5 i;have sa:ja (es.toList.map (·.2)) (ps.map (·.2)):=by
    clear U q3 s5 i s3 j s1;generalize es.toList.map (·.2)=l at s4
    induction s4 with
    |nil=>exact .nil
    |@cons v q l2 ps h1 h2 ih =>
     obtain⟨h1,O⟩:=h1;rw[O] at h1;obtain⟨tk,e⟩:=h1;subst e;exact .cons _ _ ih
   refine⟨_,ps.map (·.2),rfl,⟨p',es,ep,t,rfl,s1,s3.1,s2,λz=>by rw[s3.2.2 z];exact Nat.zero_le _,sa⟩,s5,U,λl out J pm pw=>?_⟩
   exact Cn.new (Cn.shift c x1) r1 J (fQ7 out) ((j out (pm.nodup_iff.mpr s5) λt=>(pm.mem_iff).trans (i t)).2 pw)
end
end
end L2
set_option maxHeartbeats 4000000
namespace HT
open PySem PyProof.Rows
end HT
namespace L2
open PySem PySem.Spec PyProof.Rows
def lexN(lt:D->D->Bool):List D->List D->Bool
 |[],[]=>false
 |[],_::_=>true
 |_::_,[]=>false
 |x::xs,y::ys=>if x=y then lexN lt xs ys else lt x y
def ltN:Nat->D->D->Bool
 |_,.int i,.int j=>decide (i<j)
 |_,.str x,.str y=>HT.ltS x y
 |n+1,.tup xs,.tup ys=>lexN (ltN n) xs ys
 |n+1,.lst xs,.lst ys=>lexN (ltN n) xs ys
 |_,_,_=>false
def okLs(ok:D->D->Bool)(n:Nat):List D->List D->Bool
 |x::xs,y::ys=>okE n x y&&(if x=y then okLs ok n xs ys else ok x y)
 |_,_=>true
def okL:Nat->D->D->Bool
 |_,.int _,.int _=>true
 |_,.str _,.str _=>true
 |n+1,.tup xs,.tup ys=>okLs (okL n) n xs ys
 |n+1,.lst xs,.lst ys=>okLs (okL n) n xs ys
 |_,_,_=>false
end L2
set_option maxHeartbeats 1000000
namespace L2
open PySem PySem.Spec PyProof.Rows
def Kp(h h':bd):Prop:=∀b o,h.get? b=some o->h'.get? b=some o
end L2
set_option maxHeartbeats 4000000
namespace L2
open PySem PySem.Spec PyProof.Rows
end L2
set_option maxHeartbeats 1000000
namespace L2
open PySem PySem.Spec PyProof.Rows
section
variable{X:Cx}{K:Fg}{pos:Pos}{k:Nat}
theorem fQa{P:aF}{w:aS}{L:List Nat}{te:ED}:aX5 (cZa P w K) D.str L (λD'=>cJh (cZa P w K) D' (upE K te)) (fQ9 D.str te):=dZ7 eQs
end
end L2
namespace L2
open PySem PyProof.Rows
section
variable{K:au}{k:Nat}
theorem e_fn{P:aF}{w:aS}{mg:Str->Option ad}{base:bd}{x:Str}{st:Stmt}{N ps:List Str}{sp:SpD}{f:Addr}{fd:c8}(Fn:Fun K x x st f fd)(S:FnScope N ps (aQ3 st))
  (len:∀ds S Q,sp ds S Q->ds.length=ps.length)
  (h:∀ (cdv:ad) (A:a4) (outer:List Env) (s:ak) (H:Hp) (E:XK),Room k (A.deeper (gY x (aQ3 st) s.heap.objs.size f cdv)) ->
   ∃t,PSsD K (cxOf CX0 P w K mg base N x (aQ3 st) f cdv A outer s H E).nox (aQy st) t/\∀ds S Q,sp ds S Q->t (cZ6 Q) (aXw N ds) S):FnOk P w K mg base CX0 (k+1) f fd ps (spU K sp):=by
 refine Fn.ok S (λL H Q E z=>by obtain⟨F,S,ds,QD,r,l,i,c⟩:=z;rw[l.length];exact len ds S QD i) (λcdv A outer s H L Q E' O z=>?_)
 obtain⟨F,S,ds,QD,r,l,i,c⟩:=z;obtain⟨t,h1,h2⟩:=h cdv A outer s H E' O;have fin:∀v d H' S',Ext S H S' H'->Rp K F S' H'->RepV K (mt S' F) H' d v->rtD QD d S'->Q v H':=λv d H' S' B j v1 J=>by
  obtain⟨Y,Z,D,U,q⟩:=J;exact c v Y H' Z (B.trans (Ext.less D)) (j.less D) ((cJ7 j D U).1 v v1) q
 exact⟨_,h1.o,F,S,aXw N ds,cZ6 QD,r,bZ2 l,h2 ds S QD i,fun Γ' S' σ' H' B j g1 q=>fin .non .non H' S' B j (by unfold RepV;rfl) q,fin,λ_ _ _ _ _ _ _ q=>q.elim,λ_ _ _ _ _ _ _ q=>q.elim⟩
end
theorem us1{p:List ad->Prop}(h:∀a,p [a])(us:List ad)(ee:us.length=1):p us:=by
 cases us with
 |nil=>cases ee
 |cons a us =>
  cases us with
  |nil=>exact h a
  |cons z us=>exact absurd (Nat.succ.inj ee) (Nat.succ_ne_zero _)
theorem us2{p:List ad->Prop}(h:∀a b,p [a,b])(us:List ad)(ee:us.length=2):p us:=by
 cases us with
 |nil=>cases ee
 |cons a us =>
  cases us with
  |nil=>cases ee
  |cons b us =>
   cases us with
   |nil=>exact h a b
   |cons z us=>exact absurd (Nat.succ.inj (Nat.succ.inj ee)) (Nat.succ_ne_zero _)
theorem us3{p:List ad->Prop}(h:∀a b c,p [a,b,c])(us:List ad)(ee:us.length=3):p us:=by
 cases us with
 |nil=>cases ee
 |cons a us =>
  cases us with
  |nil=>cases ee
  |cons b us =>
   cases us with
   |nil=>cases ee
   |cons c us =>
    cases us with
    |nil=>exact h a b c
    |cons z us=>exact absurd (Nat.succ.inj (Nat.succ.inj (Nat.succ.inj ee))) (Nat.succ_ne_zero _)
theorem fsc{N ps:List Str}{sc:Scope}(a:sc.kind=.function:=by rfl)(b:sc.isCoroutine=false:=by rfl)(c:sc.isGenerator=false:=by rfl)(d:N.Nodup:=by decide +kernel)(e:N.take ps.length=ps:=by rfl)(f:∀x∈ps,sc.names.lookup x=some .local\/sc.names.lookup x=some .cell:=by decide +kernel)(g:∀y∈sc.names,y.2≠.free:=by decide +kernel):FnScope N ps sc:=⟨a,b,c,d,e,f,g⟩
end L2
namespace Toy
open PySem L2
def top(i:Nat):Stmt:=PySem.Challenge.pw_corepetals_k11_whole_enough_and_found.main.body.getD i (.Pass ⟨0,0,0,0⟩)
end Toy
set_option maxHeartbeats 4000000
namespace L2
open PySem PySem.Spec PyProof.Rows
theorem bX6{α:Type}(l:List α)(i:Nat):∀m,(a7 m).filterMap (λk=>l[i+k]?)=(l.drop i).take m
 |0=>rfl
 |m+1=>by
  rw[List.range_succ,gk,bX6 l i m,bT]
  congr 1
  rw[g7];simp only[cq,List.filterMap_nil];cases l[i+m]? <;> rfl
theorem fQb(lo hi:Option Int)(n:Nat):bQ lo hi 1 n=(a7 (HT.sIx n n hi-HT.sIx n 0 lo)).map λk=>HT.sIx n 0 lo+k:=by
 have e:bQ lo hi 1 n=sliceRange (eQ lo hi none n).1 (eQ lo hi none n).2.1 1:=rfl;obtain⟨h1,h2,_⟩:=aXt lo hi n;rw[e,h1,h2];unfold sliceRange;have i:(if (1:Int)>0 then (if ((HT.sIx n 0 lo:Nat):Int)<((HT.sIx n n hi:Nat):Int) then (((HT.sIx n n hi:Nat):Int)-((HT.sIx n 0 lo:Nat):Int)+1-1)/1 else 0) else (if ((HT.sIx n 0 lo:Nat):Int)>((HT.sIx n n hi:Nat):Int) then (((HT.sIx n 0 lo:Nat):Int)-((HT.sIx n n hi:Nat):Int)-1-1)/(-1) else 0)).toNat=HT.sIx n n hi-HT.sIx n 0 lo:=by
  rw[if_pos (by decide),Int.ediv_one]
  split <;> lia
 show(a7 _).map _=_;rw[i];apply eH;intro k _;lia
theorem cutS_eq(z:Str)(lo hi:Option Int):cutS z lo hi=⟨((z.cps.toList.drop (HT.sIx z.length 0 lo)).take (HT.sIx z.length z.length hi-HT.sIx z.length 0 lo)).toArray⟩:=by
 unfold cutS;rw[fQb,am,b9];have v:HT.sIx z.length z.length hi<=z.length:=HT.sIx_le _ _ (Nat.le_refl _) hi;have j:z.cps.toList.length=z.length:=aM
 by_cases h:(HT.sIx z.length z.length hi-HT.sIx z.length 0 lo==z.length)=true
 ·rw[if_pos h];have h':=fQ h
  by_cases h0:z.length=0
  ·have:z.cps=#[]:=Array.eq_empty_of_size_eq_zero h0
   cases z;simp only at this;subst this;simp
  ·have i:HT.sIx z.length 0 lo=0:=by lia
   rw[h',i,f7,bi (by lia)]
 ·rw[if_neg h,List.filterMap_map]
  congr 1
  have:=bX6 z.cps.toList (HT.sIx z.length 0 lo) (HT.sIx z.length z.length hi-HT.sIx z.length 0 lo)
  rw[<- this]
  congr 2
  funext k;show z.cps[HT.sIx z.length 0 lo+k]?=_;rw[aL]
end L2
set_option maxHeartbeats 1000000
namespace L2
open PySem
def lettersZ:Str:=Str.ofString "abcdefghijklmnopqrstuvwxyz"
theorem cJk{i:Nat}(h:i<26):atI lettersZ.cps.toList (i:Int)=some (97+i):=by
 have:∀j:Fin 26,lettersZ.cps.toList[j.val]?=some (97+j.val):=by decide +kernel
 exact aZi (this ⟨i,h⟩)
end L2
set_option maxHeartbeats 4000000
namespace L2
open PySem
theorem aQc{n:Nat}(h:n<=9999):n<=sizeLine:=by rw[bf];lia
theorem aJv{α:Type}:∀(l:List α) (j:Nat) (h:j<l.length),(l[j]::l.eraseIdx j).Perm l
 |a::l,0,_=>.refl _
 |a::l,j+1,h=>by
  have i:=aJv l j (by simpa using h)
  show(l[j]'(by simpa using h)::a::l.eraseIdx j).Perm (a::l)
  exact(jv.swap _ _ _).trans (i.cons a)
theorem cJl{α β:Type}{f:α->β}(g:β->α)(hg:∀x,g (f x)=x){vs us:List β}{xs:List α}(h:(vs++us).Perm (xs.map f)):∃as bs:List α,vs=as.map f/\us=bs.map f/\(as++bs).Perm xs:=by
 have mem:∀y∈vs++us,f (g y)=y:=λy j=>by
  obtain⟨x,_,rfl⟩:=bI.mp (h.mem_iff.mp j);rw[hg]
 have lift:∀l:List β,(∀y∈l,f (g y)=y)->l=(l.map g).map f:=λl hl=>by
  rw[bW];apply iR (by simp)
  intro i h1 h2;rw[iS];exact(hl _ (db h1)).symm
 refine⟨vs.map g,us.map g,lift vs λy j=>mem y (cy _ j),lift us λy j=>mem y (a8 _ j),?_⟩;have p:=h.map g;rw[cu,bW] at p;have e:xs.map (g∘f)=xs:=by
  apply iR (by simp)
  intro i h1 h2;rw[iS];exact hg _
 rwa [e] at p
def dStr':D->Str
 |.str s=>s
 |_=>⟨#[]⟩
theorem dZ9(a b:List Str):okE 8 (tupS a) (tupS b)=true:=by
 show((a.map D.str).zip (b.map D.str)).all (λp=>okE 7 p.1 p.2)=true;rw[List.zip_map,gP,bF];rintro⟨a,b⟩ _
 rfl
end L2
namespace Toy
open PySem L2
def Pile(S:Sto)(a:Addr):Prop:=∃(cs:List Int) (i r s c:Int),S a=some (.lst [.lst (cs.map D.int),.int i,.int r,.int s,.int c])/\cs.length<=63/\0<=i/\i<=cs.length/\0<=r/\0<=s/\s<2147483629/\0<=c
theorem Pile.ne{S:Sto}{a p:Addr}(h:Pile S a)(hp:S p=none):p≠a:=by
 obtain⟨cs,i,r,s,c,hS,_⟩:=h;rintro rfl;rw[hp] at hS;cases hS
theorem Pile.eq{S S':Sto}{a:Addr}(h:Pile S a)(e:S' a=S a):Pile S' a:=by
 obtain⟨cs,i,r,s,c,j,k⟩:=h;exact⟨cs,i,r,s,c,e.trans j,k⟩
theorem Pile.supd{S:Sto}{a p:Addr}{o:DO}(h:Pile S a)(hp:p≠a):Pile (supd S p o) a:=h.eq (aQ8 (cz hp))
def aJw:SpD:=λds S Q=>∃ns:List Int,ds=[.lst (ns.map D.int)]/\ns.length<=63/\∀p S',S p=none->Off p S S'->Pile S' p->Q (.ref p) S'
def aZ7:SpD:=λds S Q=>∃(a:Addr) (m:Int),ds=[.ref a,.int m]/\Pile S a/\1<=m/\m<1000000/\∀(r:Int) S',0<=r->r<m->Off a S S'->Pile S' a->Q (.int r) S'
theorem dZa{a lp:Addr}(hla:lp≠a){S:Sto}{xs:List D}{m:Nat}(hS:S lp=some (.lst xs))(hm:m<=xs.length)(hx:xs.length<=9999)(dk:Pile S a){Q:List D->Sto->Prop}
  (q:∀vs us S',(vs++us).Perm xs->vs.length=m->S' lp=some (.lst us)->Pile S' a->(∀b,b≠a->b≠lp->S' b=S b)->Q vs S') :
  aZ2 (aQu 0) dYes (aJ4 (dMt cJ8 ckL (dVar 1) (bXz (dCB aZ7 (bXz (dVar 2) (bXz (dCB lenD (bXz (dVar 1) dNil)) dNil))) dNil))) (λ_=>True) [none,some (.ref lp),some (.ref a)] (rngD 0 m) [] S Q:=by
 refine aXb (λi acc S'=>∃us:List D,acc.length=i/\S' lp=some (.lst us)/\(acc++us).Perm xs/\Pile S' a/\∀b,b≠a->b≠lp->S' b=S b) ⟨xs,rfl,hS,.refl _,dk,λ_ _ _=>rfl⟩ ?_ ?_
 ·rintro i x vs S' N L ⟨us,z,hl,pm,J,v⟩ hN;obtain⟨hi,rfl⟩:=bX4 L;have hul:us.length+i=xs.length:=by have:=pm.length_eq;rw[aA] at this;lia
  refine⟨trivial,⟨_,hl⟩,_,hl,a,us.length,rfl,J,by lia,by lia,λY S2 r20 r21 B U=>?_⟩
  have O:S2 lp=some (.lst us):=(B lp hla).trans hl;obtain⟨j,rfl⟩:∃j:Nat,Y=j:=⟨Y.toNat,by lia⟩
  have Z:j<us.length:=by lia
  refine⟨_,j,us[j],O,rfl,by lia,ag Z,by rw[bf];lia,hN _ _ ⟨us.eraseIdx j,?_,aQ5,?_,U.supd hla,λb h1 h2=>(aQ8 h2).trans ((B b h1).trans (v b h1 h2))⟩⟩
  ·rw[aA,z];rfl
  ·refine jv.trans ?_ pm;rw[aV];exact(List.perm_append_left_iff vs).mpr (aJv us j Z)
 ·rintro vs S' ⟨us,z,hl,pm,J,v⟩;rw[aZk] at z;exact⟨trivial,q vs us S' pm z hl J v⟩
theorem cZb{α:Type}(l:List α)(nd:l.Nodup)(i m:Nat)(hi:i<=l.length)(hm:m<=l.length):(((l++l).drop i).take m).Nodup:=by
 have e:(l++l).drop i=l.drop i++l:=by rw[eU hi]
 rw[e];have j:(l.drop i++l.take i).Nodup:=by
  have:(l.drop i++l.take i).Perm l:=cY.trans (by rw[bb])
  exact this.nodup_iff.mpr nd
 have sub:((l.drop i++l).take m).Sublist (l.drop i++l.take i):=by
  have h1:(l.drop i++l).take m=((l.drop i++l.take i)++l.drop i).take m:=by rw[aV,bb]
  rw[h1,cW (by rw[aA,bo,aR];lia)]
  exact dj _ _
 exact sub.nodup j
theorem eQu{p s:Str}{c d:Nat}(h:p++(⟨#[c]⟩:Str)++s=p++(⟨#[d]⟩:Str)++s):c=d:=by
 have e:(p.cps++#[c]++s.cps).toList=(p.cps++#[d]++s.cps).toList:=congrArg (λz:Str=>z.cps.toList) h;simpa using e
def sh2(x y:Nat):List Str:=([x,y].map λc=>sg c++sg x)++([x,y].map λc=>sg c++sg y)
theorem bX7{z:Str}(h:z.length<=7)(lo hi:Option Int):(cutS z lo hi).length<=7:=by
 rw[cutS_eq];show(List.toArray _).size<=7;rw[ar,aR,bo]
 have:z.cps.toList.length=z.length:=aM
 lia
theorem aJx{x y:Nat}:∀w∈sh2 x y,w.length=2:=λw h=>by
 have two:∀c d:Nat,(sg c++sg d).length=2:=λc d=>by
  show((#[c]:Array Nat)++#[d]).size=2;rw[dP];rfl
 unfold sh2 at h;rcases aP.mp h with h|h <;> (obtain⟨c,_,rfl⟩:=bI.mp h;exact two _ _)
def w14(x y:Nat):List Str:=[x,y].map sg++sh2 x y++(sh2 x y).map (λw=>w++sg x)++(sh2 x y).map (λw=>w++sg y)
theorem bZ8(a b:Str):(a++b).length=a.length+b.length:=by
 show(a.cps++b.cps).size=_;rw[dP];rfl
theorem eQv{x y:Nat}:∀w∈w14 x y,1<=w.length:=λw h=>by
 unfold w14 at h;rcases aP.mp h with h|h
 ·rcases aP.mp h with h|h
  ·rcases aP.mp h with h|h
   ·obtain⟨c,_,rfl⟩:=bI.mp h;exact Nat.le_refl 1
   ·rw[aJx w h];decide
  ·obtain⟨v,i,rfl⟩:=bI.mp h;rw[bZ8,aJx v i];lia
 ·obtain⟨v,i,rfl⟩:=bI.mp h;rw[bZ8,aJx v i];lia
def aXx:SpD:=λds S Q=>∃(a:Addr) (many:Nat),ds=[.ref a,.int many]/\Pile S a/\many<=24/\∀(names:List Str) S',names.Nodup->names.Pairwise (λx y=>leS x y=true)->names.length=many->(∀n∈names,1<=n.length)->Off a S S'->Pile S' a->Q (tupS names) S'
end Toy
set_option maxHeartbeats 1000000
namespace Toy
open PySem L2
abbrev s_law_pile:Stmt:=top 15
theorem bJ9:FnScope ["script"] ["script"] (aQ3 s_law_pile):=fsc
section
variable{P:aF}{w:aS}{K:au}{mg:Str->Option ad}{base:bd}{pt cc:Addr}
theorem bJa(T:Tx K mg "_law_pile" s_law_pile)(B:Bs mg):Df P w K mg base 1 "_law_pile" ["script"] (spU K aJw):=by
 refine aZu T bJ9 (λF=>F.binds λ_ _ _ _ _ _=>us1 λ_=>rfl) ?_ λf z A outer s H E D=>⟨_,(aQ6 (aQg (bQ4 (b:=true) (aQ0 (dv 0) (aQ0 aQ4 (aQ0 aQ4 (aQ0 aQ4 (aQ0 aQ4 aQ1)))))))),?_⟩
 ·rintro ds S Q ⟨ns,rfl,_⟩;rfl
 ·rintro ds S Q ⟨ns,rfl,j,q⟩;refine⟨by show 5<=sizeLine;rw[bf];decide,λp i=>aQi (q p _ i (λb v=>aQ8 v) ⟨ns,0,0,44021,0,aQ5,j,by decide,by omega,by decide,by decide,by decide,by decide⟩)⟩
end
abbrev s_law_next:Stmt:=top 16
theorem sc_law_next:FnScope ["pile", "most", "found", "cell"] ["pile", "most"] (aQ3 s_law_next):=fsc
section
variable{P:aF}{w:aS}{K:au}{mg:Str->Option ad}{base:bd}{pt cc:Addr}
theorem bJb(T:Tx K mg "_law_next" s_law_next)(B:Bs mg)(AB:mg "abs"=none):Df P w K mg base 1 "_law_next" ["pile", "most"] (spU K aZ7):=by
 refine aZu T sc_law_next (λF=>F.binds λ_ _ _ _ _ _=>us2 λ_ _=>rfl) ?_ λf cdv A outer s H E hr=>⟨_,(aQ2 (aJs (eJf hr (e_ix (dv 0) aQ4) aQ4) (aQ2 (aQe (i:=2) sc_law_next.nd rfl (bA rfl) (bZz (e_ix (dv 0) aQ4) (dv 1)))
  (aQ2 (aXv (cXn (e_ix (dv 0) aQ4) (dv 1)) (bQh (dv 0) aQ4))
  (aQ6 (aQg (dv 2))))) aZ6)
  (aQ2 (aJs (cXq hr (e_ix (dv 0) aQ4) (aX0 rfl B.len (aQ0 (e_ix (dv 0) aQ4) aQ1))) (aQ2 (aQe (i:=3) sc_law_next.nd rfl (bA rfl) (e_ix (e_ix (dv 0) aQ4) (e_ix (dv 0) aQ4)))
  (aQ2 (aXv (aQs (k:=false) (e_ix (dv 0) aQ4) aQ4) (bQh (dv 0) aQ4))
  (aQ2 (aXv (bZz (aQs (k:=false) (bXy (e_ix (dv 0) aQ4) aQ4) (dv 3)) aQ4) (bQh (dv 0) aQ4))
  (aQ2 (aJs (fZd hr (eQo rfl AB (aQ0 (dv 3) aQ1)) (fZ9 aQ4 aQ4)) (aQ2 (aXv (cXn (eQo rfl AB (aQ0 (dv 3) aQ1)) (dv 1)) (bQh (dv 0) aQ4))
  (aQ6 (aQg (bZz (eQo rfl AB (aQ0 (dv 3) aQ1)) (dv 1))))) aZ6)
  (aQ6 (aQg (bZz (dv 3) (dv 1)))))))) aZ6)
  (aQ2 (aXv (aQs (k:=false) (e_ix (dv 0) aQ4) aQ4) (bQh (dv 0) aQ4))
  (aQ2 (aXv (bZz (aQs (k:=false) (aQs (k:=false) (bXy (e_ix (dv 0) aQ4) (e_ix (dv 0) aQ4)) (bXy aQ4 (e_ix (dv 0) aQ4))) aQ4) aQ4) (bQh (dv 0) aQ4))
  (aQ6 (aQg (bZz (cXn (e_ix (dv 0) aQ4) aQ4) (dv 1)))))))),?_⟩
 ·rintro ds S Q ⟨a,m,rfl,_⟩;rfl
 ·rintro ds S Q ⟨a,m,rfl,⟨cs,i,r,sd,c,J,hc,i0,i1,r0,s0,s1,c0⟩,N,m2,q⟩;have off:∀o,Off a S (supd S a o):=λo b O=>aQ8 O;have L:∀o o',Off a S (supd (supd S a o) a o'):=λo o' b O=>by rw[aQ8 O,aQ8 O]
  have Y:∀o o' Z,Off a S (supd (supd (supd S a o) a o') a Z):=λo o' Z b O=>by rw[aQ8 O,aQ8 O,aQ8 O]
  refine⟨_,_,J,rfl,_,rfl,ite2 (λk0=>?_) λk0=>?_⟩
  ·refine⟨_,_,J,rfl,(by first|exact .inl ⟨by decide,by decide⟩|exact .inr ⟨by decide,by decide⟩|exact .inl ⟨by omega,by omega⟩|exact .inr ⟨by omega,by omega⟩|exact⟨by decide,by decide⟩|exact⟨by omega,by omega⟩|(show(0:Int)<_;first|decide|omega)|(show _<=sizeLine;rw[bf];first|decide|omega)|decide|omega),_,_,J,rfl,⟨(by first|exact .inl ⟨by decide,by decide⟩|exact .inr ⟨by decide,by decide⟩|exact .inl ⟨by omega,by omega⟩|exact .inr ⟨by omega,by omega⟩|exact⟨by decide,by decide⟩|exact⟨by omega,by omega⟩|(show(0:Int)<_;first|decide|omega)|(show _<=sizeLine;rw[bf];first|decide|omega)|decide|omega),(by first|exact .inl ⟨by decide,by decide⟩|exact .inr ⟨by decide,by decide⟩|exact .inl ⟨by omega,by omega⟩|exact .inr ⟨by omega,by omega⟩|exact⟨by decide,by decide⟩|exact⟨by omega,by omega⟩|(show(0:Int)<_;first|decide|omega)|(show _<=sizeLine;rw[bf];first|decide|omega)|decide|omega)⟩,_,_,J,rfl,?_⟩
   show rtD Q (.int (r%m)) (supd S a (.lst [.lst (cs.map D.int),.int i,.int (r/m),.int sd,.int c]));exact aQi (q _ _ (md N).1 (md N).2 (off _) ⟨cs,i,r/m,sd,c,aQ5,hc,i0,i1,Int.ediv_nonneg r0 (by omega),s0,s1,c0⟩)
  refine⟨_,_,J,rfl,_,_,J,rfl,_,rfl,_,rfl,ite2 (λk1=>?_) λk1=>?_⟩
  ·have hi:i.toNat<cs.length:=by have:=of_decide_eq_true k1;rw[am] at this;omega
   obtain⟨cell,ei⟩:∃cell:Int,atI (cs.map D.int) i=some (.int cell):=by
    refine⟨cs[i.toNat],?_⟩
    have:=aZi (xs:=cs.map D.int) (j:=i.toNat) (v:=.int cs[i.toNat]) (by rw[aJ,ag hi];rfl)
    rwa [show((i.toNat:Nat):Int)=i by omega] at this
   have z:supd S a (.lst [.lst (cs.map D.int),.int (i+1),.int r,.int sd,.int c]) a=_:=aQ5;refine⟨_,_,J,rfl,_,_,J,rfl,_,_,rfl,ei,_,_,J,rfl,_,_,J,rfl,_,_,z,rfl,.inr ⟨by decide,by decide⟩,by show(0:Int)<2147483629;decide,_,_,z,rfl,?_⟩
   have hm:=md (a:=sd*69069+cell) (b:=2147483629) (by decide)
   have U:supd (supd S a (.lst [.lst (cs.map D.int),.int (i+1),.int r,.int sd,.int c])) a (.lst [.lst (cs.map D.int),.int (i+1),.int r,.int ((sd*69069+cell)%2147483629),.int c]) a=_:=aQ5;refine⟨⟨by decide,by decide,by decide⟩,_,rfl,ite2 (λk2=>?_) λk2=>?_⟩
   ·refine⟨⟨(by first|exact .inl ⟨by decide,by decide⟩|exact .inr ⟨by decide,by decide⟩|exact .inl ⟨by omega,by omega⟩|exact .inr ⟨by omega,by omega⟩|exact⟨by decide,by decide⟩|exact⟨by omega,by omega⟩|(show(0:Int)<_;first|decide|omega)|(show _<=sizeLine;rw[bf];first|decide|omega)|decide|omega),(by first|exact .inl ⟨by decide,by decide⟩|exact .inr ⟨by decide,by decide⟩|exact .inl ⟨by omega,by omega⟩|exact .inr ⟨by omega,by omega⟩|exact⟨by decide,by decide⟩|exact⟨by omega,by omega⟩|(show(0:Int)<_;first|decide|omega)|(show _<=sizeLine;rw[bf];first|decide|omega)|decide|omega)⟩,_,_,U,rfl,(by first|exact .inl ⟨by decide,by decide⟩|exact .inr ⟨by decide,by decide⟩|exact .inl ⟨by omega,by omega⟩|exact .inr ⟨by omega,by omega⟩|exact⟨by decide,by decide⟩|exact⟨by omega,by omega⟩|(show(0:Int)<_;first|decide|omega)|(show _<=sizeLine;rw[bf];first|decide|omega)|decide|omega),aQi (q _ _ (md N).1 (md N).2 (Y _ _ _) ⟨cs,i+1,(if cell<0 then -cell else cell)/m,(sd*69069+cell)%2147483629,c,aQ5,hc,by omega,by omega,Int.ediv_nonneg (by split <;> omega) (by omega),hm.1,hm.2,c0⟩)⟩
   ·exact⟨(by first|exact .inl ⟨by decide,by decide⟩|exact .inr ⟨by decide,by decide⟩|exact .inl ⟨by omega,by omega⟩|exact .inr ⟨by omega,by omega⟩|exact⟨by decide,by decide⟩|exact⟨by omega,by omega⟩|(show(0:Int)<_;first|decide|omega)|(show _<=sizeLine;rw[bf];first|decide|omega)|decide|omega),aQi (q _ _ (md N).1 (md N).2 (L _ _) ⟨cs,i+1,r,(sd*69069+cell)%2147483629,c,aQ5,hc,by omega,by omega,r0,hm.1,hm.2,c0⟩)⟩
  ·have z:supd S a (.lst [.lst (cs.map D.int),.int i,.int r,.int sd,.int (c+1)]) a=_:=aQ5;have hm:=md (a:=sd*sd+40014*(c+1)+977) (b:=2147483629) (by decide)
   have U:supd (supd S a (.lst [.lst (cs.map D.int),.int i,.int r,.int sd,.int (c+1)])) a (.lst [.lst (cs.map D.int),.int i,.int r,.int ((sd*sd+40014*(c+1)+977)%2147483629),.int (c+1)]) a=_:=aQ5;exact⟨_,_,J,rfl,_,_,J,rfl,_,_,z,rfl,_,_,z,rfl,.inl ⟨by omega,by omega⟩,_,_,z,rfl,.inl ⟨by decide,by decide⟩,by show(0:Int)<2147483629;decide,_,_,z,rfl,_,_,U,rfl,⟨by decide,by decide⟩,(by first|exact .inl ⟨by decide,by decide⟩|exact .inr ⟨by decide,by decide⟩|exact .inl ⟨by omega,by omega⟩|exact .inr ⟨by omega,by omega⟩|exact⟨by decide,by decide⟩|exact⟨by omega,by omega⟩|(show(0:Int)<_;first|decide|omega)|(show _<=sizeLine;rw[bf];first|decide|omega)|decide|omega),aQi (q _ _ (md N).1 (md N).2 (L _ _) ⟨cs,i,r,(sd*sd+40014*(c+1)+977)%2147483629,c+1,aQ5,hc,i0,i1,r0,hm.1,hm.2,by omega⟩)⟩
end
end Toy
namespace Toy
variable{α:Type}
end Toy
namespace Toy
variable{α:Type}
end Toy
namespace Toy
variable{β:Type}[DecidableEq β]
def Sun(s:List (List β)):Prop:=s.Pairwise λa b=>∀n,n∈a->n∈b->∀o∈s,n∈o
def naG(s:List (List β)):List β:=(s.headD []).filter λn=>s.all λo=>decide (n∈o)
def lfG(s:List (List β)):List β:=s.flatMap λo=>o.filter λd=>!decide (d∈naG s)
def coG(s:List (List β)):Option (List β):=if s.length<2\/¬ s.Nodup then none else if (lfG s).Nodup then some (naG s) else none
theorem aXy{s:List (List β)}(hs:s≠[]){n:β}:n∈naG s↔∀o∈s,n∈o:=by
 unfold naG;rw[bH,bF];simp only[decide_eq_true_eq];refine⟨λh=>h.2,λh=>⟨?_,h⟩⟩;cases s with
 |nil=>exact absurd rfl hs
 |cons a s=>exact h a aq
theorem dZb{s:List (List β)}(hs:s≠[])(hn:∀o∈s,o.Nodup):(lfG s).Nodup↔Sun s:=by
 unfold lfG Sun fL;rw[List.pairwise_flatMap];refine⟨λh=>h.2.imp_of_mem ?_,λh=>⟨λo N=>(hn o N).filter _,h.imp_of_mem ?_⟩⟩
 ·intro a b Y U i n na nb;refine aY λO=>?_;have j:n∉naG s:=λz=>O ((aXy hs).mp z);exact i n (bH.mpr ⟨na,by simp[j]⟩) n (bH.mpr ⟨nb,by simp[j]⟩) rfl
 ·intro a b Y U i x L y J e;subst e;obtain⟨D,B⟩:=bH.mp L;obtain⟨v,_⟩:=bH.mp J
  have:x∉naG s:=by simpa using B
  exact this ((aXy hs).mpr (i x D v))
theorem sorted_eq{lt:β->β->Prop}(irr:∀a,¬ lt a a)(asy:∀a b,lt a b->¬ lt b a):∀{l m:List β},l.Pairwise lt->m.Pairwise lt->(∀n,n∈l↔n∈m)->l=m
 |[],[],_,_,_=>rfl
 |[],b::m,_,_,h=>by have:=(h b).mpr aq;simp at this
 |a::l,[],_,_,h=>by have:=(h a).mp aq;simp at this
 |a::l,b::m,hl,hm,h=>by
  obtain⟨la,v⟩:=bz.mp hl;obtain⟨B,j⟩:=bz.mp hm;have e:a=b:=by
   rcases aK.mp ((h a).mp aq) with z|z
   ·exact z
   ·rcases aK.mp ((h b).mpr aq) with y|y
    ·exact y.symm
    ·exact absurd (B a z) (asy _ _ (la b y))
  subst e
  congr 1
  refine sorted_eq irr asy v j λn=>⟨λi=>?_,λi=>?_⟩
  ·rcases aK.mp ((h n).mp (ay _ i)) with z|z
   ·subst z;exact absurd (la n i) (irr n)
   ·exact z
  ·rcases aK.mp ((h n).mpr (ay _ i)) with z|z
   ·subst z;exact absurd (B n i) (irr n)
   ·exact z
def meG(a b:List β):List β:=a.filter λn=>decide (n∈b)
theorem mem_me{a b:List β}{n:β}:n∈meG a b↔n∈a/\n∈b:=by unfold meG;rw[bH];simp
def laG(s:List (List β)):Option (List β):=match s with
 |a::b::_=>if s.Pairwise λother one=>meG one other=meG a b then some (meG a b) else none
 |_=>none
theorem dZc{lt:β->β->Prop}(irr:∀a,¬ lt a a)(asy:∀a b,lt a b->¬ lt b a){s:List (List β)}(h2:2<=s.length)(nd:s.Nodup)(hs:∀o∈s,o.Pairwise lt):laG s=coG s:=by
 classical
 have i:s≠[]:=by rintro rfl;simp at h2
 have hnd:∀o∈s,o.Nodup:=λo Z=>(hs o Z).imp (λ{x y} (h:lt x y) (e:x=y)=>irr y (e▸h));obtain⟨a,b,r,rfl⟩:∃a b r,s=a::b::r:=by
  match s,h2 with
  |a::b::r,_=>exact⟨a,b,r,rfl⟩
 have B:∀x∈a::b::r,∀y,(meG x y).Pairwise lt:=λx O y=>(hs x O).filter _;have hco:coG (a::b::r)=if Sun (a::b::r) then some (naG (a::b::r)) else none:=by
  unfold coG;have hno:¬ ((a::b::r).length<2\/¬ (a::b::r).Nodup):=λz=>z.elim (λz=>by simp only[bG] at z;lia) λz=>z nd
  rw[if_neg hno]
  have:=dZb i hnd
  by_cases h:Sun (a::b::r)
  ·rw[if_pos h,if_pos (this.mpr h)]
  ·rw[if_neg h,if_neg λz=>h (this.mp z)]
 rw[hco];show(if (a::b::r).Pairwise (λother one=>meG one other=meG a b) then some (meG a b) else none)=_
 have N:Sun (a::b::r)->meG a b=naG (a::b::r):=λh=>by
  refine sorted_eq irr asy (B a aq b) ((hs a aq).filter _) λn=>?_;rw[mem_me,aXy i];refine⟨λ⟨na,nb⟩=>(bz.mp h).1 b aq n na nb,λz=>⟨z a aq,z b (ay _ aq)⟩⟩
 have iff:(a::b::r).Pairwise (λother one=>meG one other=meG a b)↔Sun (a::b::r):=by
  constructor
  ·intro h;refine h.imp_of_mem λ{x y} O Y j n nx U o Z=>?_;have hn:n∈meG a b:=j▸mem_me.mpr ⟨U,nx⟩;have all:∀u∈a::b::r,∀v∈a::b::r,u≠v->n∈u/\n∈v:=by
    have sym:∀{l:List (List β)},l.Pairwise (λother one=>meG one other=meG a b)->∀u∈l,∀v∈l,u≠v->n∈u/\n∈v:=by
     intro l hl
     induction hl with
     |nil=>intro u hu;cases hu
     |@cons p l hp _ ih =>
      intro u hu v hv i;rcases aK.mp hu with eu|J <;> rcases aK.mp hv with ev|D
      ·exact absurd (eu.trans ev.symm) i
      ·have:=mem_me.mp ((hp v D).symm▸hn);rw[eu];exact⟨this.2,this.1⟩
      ·have:=mem_me.mp ((hp u J).symm▸hn);rw[ev];exact this
      ·exact ih u J v D i
    exact sym h
   have nab:a≠b:=λe=>(bZ.mp nd).1 (e▸aq)
   by_cases L:o=a
   ·rw[L];exact(mem_me.mp hn).1
   ·exact(all o Z a aq L).1
  ·intro h;refine h.imp_of_mem λ{x y} O Y j=>?_;refine sorted_eq irr asy (B y Y x) (B a aq b) λn=>?_;rw[mem_me,N h,aXy i];exact⟨λ⟨U,nx⟩=>j n nx U,λz=>⟨z y Y,z x O⟩⟩
 by_cases h:Sun (a::b::r)
 ·rw[if_pos h,if_pos (iff.mpr h),N h]
 ·rw[if_neg h,if_neg λz=>h (iff.mp z)]
end Toy
namespace Toy
variable{α β:Type}
end Toy
namespace L2
open PySem
abbrev Srt(t:List Str):Prop:=t.Pairwise λa b=>HT.ltS a b=true
abbrev SrtT(ts:List (List Str)):Prop:=ts.Pairwise λa b=>HT.lexS a b=true
theorem Srt.ext{l m:List Str}(hl:Srt l)(hm:Srt m)(h:∀n,n∈l↔n∈m):l=m :=
 Toy.sorted_eq (lt:=λa b=>HT.ltS a b=true) (λa=>by rw[HT.ltS_ir];simp) (λa b h=>by rw[HT.ltS_as h];simp) hl hm h
theorem SrtT.ext{l m:List (List Str)}(hl:SrtT l)(hm:SrtT m)(h:∀n,n∈l↔n∈m):l=m :=
 Toy.sorted_eq (lt:=λa b=>HT.lexS a b=true) (λa=>by rw[bZ4];simp) (λa b h=>by rw[HT.lexS_as h];simp) hl hm h
theorem Srt.nodup{t:List Str}(h:Srt t):t.Nodup:=h.imp λ{a b} h e=>by subst e;rw[HT.ltS_ir] at h;cases h
theorem SrtT.nodup{t:List (List Str)}(h:SrtT t):t.Nodup:=h.imp λ{a b} h e=>by subst e;rw[bZ4] at h;cases h
theorem dXg{t:List Str}(nd:t.Nodup)(h:t.Pairwise λx y=>leS x y=true):Srt t:=by
 induction t with
 |nil=>exact .nil
 |cons a t j =>
  rw[bz] at h;rw[bZ] at nd;refine bz.mpr ⟨λb i=>?_,j nd.2 h.2⟩
  have:=h.1 b i
  unfold leS at this;rw[dw] at this;exact HT.ltS_tot this λe=>nd.1 (by rw[<- e];exact i)
theorem eQw{t:List (List Str)}(nd:t.Nodup)(h:t.Pairwise λx y=>leT x y=true):SrtT t:=by
 induction t with
 |nil=>exact .nil
 |cons a t j =>
  rw[bz] at h;rw[bZ] at nd;refine bz.mpr ⟨λb i=>?_,j nd.2 h.2⟩
  have:=h.1 b i
  unfold leT at this;rw[dw] at this;exact HT.lexS_tot this λe=>nd.1 (by rw[<- e];exact i)
theorem bJc{l:List Str}(nd:l.Nodup):Srt (srS l):=dXg ((aXa l).nodup_iff.mpr nd) (cQc l)
theorem aJy{l:List (List Str)}(nd:l.Nodup):SrtT (srT l):=eQw ((aZl l).nodup_iff.mpr nd) (dXd l)
theorem bJd{l:List Str}{x:Str}:x∈srS l↔x∈l:=(aXa l).mem_iff
theorem bJe{l:List (List Str)}{x:List Str}:x∈srT l↔x∈l:=(aZl l).mem_iff
theorem dXh{l:List (List Str)}(h:SrtT l):srT l=l:=SrtT.ext (aJy h.nodup) h λn=>bJe
def dd{α:Type}[DecidableEq α]:List α->List α
 |[]=>[]
 |x::xs=>if x∈xs then dd xs else x::dd xs
theorem mem_dd{α:Type}[DecidableEq α]{x:α}:∀{l:List α},x∈dd l↔x∈l
 |[]=>Iff.rfl
 |y::l=>by
  unfold dd
  split
  ·next h =>
   rw[mem_dd,aK];exact⟨.inr,λz=>z.elim (λe=>by rw[e];exact h) id⟩
  ·rw[aK,aK,mem_dd]
theorem bZ9{α:Type}[DecidableEq α]:∀l:List α,(dd l).Nodup
 |[]=>eM
 |y::l=>by
  unfold dd
  split
  ·exact bZ9 l
  ·next h=>exact bZ.mpr ⟨λz=>h (mem_dd.mp z),bZ9 l⟩
def nms(ts:List (List Str)):List Str:=srS (dd ts.flatten)
theorem bZa(ts:List (List Str)):Srt (nms ts):=bJc (bZ9 _)
theorem mem_nms{ts:List (List Str)}{x:Str}:x∈nms ts↔∃t∈ts,x∈t:=by
 unfold nms;rw[bJd,mem_dd,d4]
theorem fQc{ts:List (List Str)}{out:List Str}(h:Srt out)(m:∀x,x∈out↔∃t∈ts,x∈t):out=nms ts:=h.ext (bZa ts) λn=>(m n).trans mem_nms.symm
def mts{α:Type}[DecidableEq α](one row:List α):Bool:=row.any λd=>decide (d∈one)
def has{α:Type}[DecidableEq α](one row:List α):Bool:=row.all λd=>decide (d∈one)
theorem mts_iff{α:Type}[DecidableEq α]{one row:List α}:mts one row=true↔∃x∈row,x∈one:=by unfold mts;simp
theorem has_iff{α:Type}[DecidableEq α]{one row:List α}:has one row=true↔∀x∈row,x∈one:=by unfold has;simp
def wo{α:Type}[DecidableEq α](one row:List α):List α:=one.filter λd=>!decide (d∈row)
theorem mem_wo{α:Type}[DecidableEq α]{one row:List α}{x:α}:x∈wo one row↔x∈one/\x∉row:=by unfold wo;rw[bH];simp
def lnk(ts:List (List Str))(row:List Str):List (List Str):=srT ((ts.filter λt=>has t row).map λt=>wo t row)
end L2
set_option maxHeartbeats 4000000
namespace L2
open PySem
structure Enc(α:Type) where
 e:α->D
 inj:∀{x y},e x=e y->x=y
 pl:∀x,plain (e x)=true
 dep:Nat
 ok:∀n x y,dep<=n->okE n (e x) (e y)=true
 lt:α->α->Bool
 okl:∀n x y,dep<=n->okL n (e x) (e y)=true
 lte:∀n x y,dep<=n->ltN n (e x) (e y)=lt x y
def lexG{α:Type}[DecidableEq α](lt:α->α->Bool):List α->List α->Bool
 |[],[]=>false
 |[],_::_=>true
 |_::_,[]=>false
 |x::xs,y::ys=>if x=y then lexG lt xs ys else lt x y
def strE:Enc Str where
 e:=D.str
 inj:=λh=>by injection h
 pl:=λ_=>rfl
 dep:=0
 ok:=λn x y _=>by cases n <;> rfl
 lt:=HT.ltS
 okl:=λn x y _=>by cases n <;> rfl
 lte:=λn x y _=>by cases n <;> rfl
def tupE{α:Type}[DecidableEq α](E:Enc α):Enc (List α) where
 e:=λl=>.tup (l.map E.e)
 inj:=λ{x y} h=>by
  injection h with h
  exact bJ8 (λa b e=>E.inj e) h
 pl:=λl=>by
  show aZf (l.map E.e)=true
  induction l with
  |nil=>rfl
  |cons x l ih=>show(plain (E.e x)&&aZf (l.map E.e))=true;rw[E.pl,ih];rfl
 dep:=E.dep+1
 ok:=λn x y h=>by
  obtain⟨m,rfl⟩:∃m,n=m+1:=⟨n-1,by lia⟩
  show((x.map E.e).zip (y.map E.e)).all (λp=>okE m p.1 p.2)=true;rw[List.zip_map,gP,bF];exact λp _=>E.ok m p.1 p.2 (by lia)
 lt:=lexG E.lt
 okl:=λn x y h=>by
  obtain⟨m,rfl⟩:∃m,n=m+1:=⟨n-1,by lia⟩
  show okLs (okL m) m (x.map E.e) (y.map E.e)=true
  induction x generalizing y with
  |nil=>cases y <;> rfl
  |cons a x ih =>
   cases y with
   |nil=>rfl
   |cons b y =>
    show(okE m (E.e a) (E.e b)&&(if E.e a=E.e b then okLs (okL m) m (x.map E.e) (y.map E.e) else okL m (E.e a) (E.e b)))=true
    rw[E.ok m a b (by lia),iy]
    split
    ·exact ih y
    ·exact E.okl m a b (by lia)
 lte:=λn x y h=>by
  obtain⟨m,rfl⟩:∃m,n=m+1:=⟨n-1,by lia⟩
  show lexN (ltN m) (x.map E.e) (y.map E.e)=lexG E.lt x y
  induction x generalizing y with
  |nil=>cases y <;> rfl
  |cons a x ih =>
   cases y with
   |nil=>rfl
   |cons b y =>
    show(if E.e a=E.e b then lexN (ltN m) (x.map E.e) (y.map E.e) else ltN m (E.e a) (E.e b))=if a=b then lexG E.lt x y else E.lt a b
    by_cases hab:a=b
    ·subst hab;rw[if_pos rfl,if_pos rfl];exact ih y
    ·rw[if_neg λz=>hab (E.inj z),if_neg hab];exact E.lte m a b (by lia)
abbrev setE:Enc (List Str):=tupE strE
section
variable{α:Type}[DecidableEq α]{E:Enc α}
theorem cQg:∀l:List α,aZf (l.map E.e)=true
 |[]=>rfl
 |x::l=>by show(plain (E.e x)&&aZf (l.map E.e))=true;rw[E.pl,cQg l];rfl
theorem fZx{x:α}{l:List α}:E.e x∈l.map E.e↔x∈l:=by
 rw[bI];exact⟨λ⟨y,h,e⟩=>by rw[<- E.inj e];exact h,λh=>⟨x,h,rfl⟩⟩
theorem in_e{neg:Bool}{x:α}{l:List α}[dm:Decidable (x∈l)]{d:D}{S:Sto}{Q:DK}(hE:E.dep<=8)(hd:sqIs S d (l.map E.e))(q:Q (.bl (if neg then !decide (x∈l) else decide (x∈l))) S):inD neg (E.e x) d S Q:=by
 refine⟨l.map E.e,hd,cQg l,by rw[gP,bF];exact λy _=>E.ok 8 y x hE,?_⟩
 rw[decide_eq_decide.mpr (fZx (E:=E) (x:=x) (l:=l))];exact q
theorem in_t{neg:Bool}{x:α}{l:List α}[dm:Decidable (x∈l)]{d:D}{S:Sto}{Q:Bool->Sto->Prop}(hE:E.dep<=8)(hd:sqIs S d (l.map E.e))(q:Q (if neg then !decide (x∈l) else decide (x∈l)) S):inD neg (E.e x) d S (λd S1=>∃b,d=.bl b/\Q b S1):=in_e hE hd ⟨_,rfl,q⟩
end
def fzIs(d:D)(xs:List D):Prop:=d=.tup xs\/d=.lst xs
theorem fzIs.sq{S:Sto}{d:D}{xs:List D}(h:fzIs d xs):sqIs S d xs:=by rcases h with rfl|rfl <;> rfl
end L2
namespace Toy
open PySem L2
def cQh:SpD:=λds S Q=>∃(α:Type) (_:DecidableEq α) (E:Enc α) (one row:List α) (d1 d2:D),ds=[d1,d2]/\E.dep<=4/\fzIs d1 (one.map E.e)/\fzIs d2 (row.map E.e)/\row.length<=9999/\Q (.bl (mts one row)) S
def bQj:SpD:=λds S Q=>∃(α:Type) (_:DecidableEq α) (E:Enc α) (one row:List α) (d1 d2:D),ds=[d1,d2]/\E.dep<=4/\fzIs d1 (one.map E.e)/\fzIs d2 (row.map E.e)/\row.length<=9999/\Q (.bl (has one row)) S
def aZm:SpD:=λds S Q=>∃(α:Type) (_:DecidableEq α) (E:Enc α) (one row:List α) (d1 d2:D),ds=[d1,d2]/\E.dep<=4/\fzIs d1 (one.map E.e)/\fzIs d2 (row.map E.e)/\one.length<=9999/\Q (.tup ((wo one row).map E.e)) S
end Toy
namespace L2
open PySem
theorem Srt.filter{l:List Str}(h:Srt l)(p:Str->Bool):Srt (l.filter p):=gF p h
end L2
namespace Toy
open PySem L2
end Toy
namespace L2
open PySem
open Toy (coG naG lfG meG laG Sun dZc aXy mem_me)
end L2
namespace Toy
open PySem L2
end Toy
namespace L2
open PySem Toy
end L2
namespace L2
open PySem
open Toy (coG naG lfG meG laG Sun dZc aXy mem_me)
end L2
namespace L2
open PySem
open Toy (coG naG lfG meG laG Sun dZc aXy mem_me)
theorem me_comm{a b:List Str}(ha:Srt a)(hb:Srt b):meG a b=meG b a:=Srt.ext (gF _ ha) (gF _ hb) λn=>by rw[mem_me,mem_me];exact⟨λh=>⟨h.2,h.1⟩,λh=>⟨h.2,h.1⟩⟩
def Fm(s:List (List Str))(c:List Str):Prop:=s.Pairwise λa b=>meG a b=c
theorem fQd{s:List (List Str)}(h2:2<=s.length)(nd:s.Nodup)(hs:∀o∈s,Srt o){c:List Str}:coG s=some c↔Fm s c:=by
 rw[<- dZc (lt:=λa b=>HT.ltS a b=true) (λa=>by rw[HT.ltS_ir];simp) (λa b h=>by rw[HT.ltS_as h];simp) h2 nd hs]
 match s,h2,hs with
 |a::b::r,_,hs =>
  have eq:∀d:List Str,((a::b::r).Pairwise λother one=>meG one other=d)↔Fm (a::b::r) d:=λd=>by
   unfold Fm;constructor
   ·intro h;refine cg ?_ h;intro x y j i e;rw[me_comm (hs x j) (hs y i)];exact e
   ·intro h;refine cg ?_ h;intro x y j i e;rw[me_comm (hs y i) (hs x j)];exact e
  have v:∀d,Fm (a::b::r) d->meG a b=d:=λd h=>(bz.mp h).1 b aq;show(if (a::b::r).Pairwise (λother one=>meG one other=meG a b) then some (meG a b) else none)=some c↔_
  constructor
  ·intro h
   split at h
   ·next z=>cases h;exact(eq _).mp z
   ·cases h
  ·intro h
   have:=v c h
   subst this;rw[if_pos ((eq _).mpr h)]
end L2
namespace Toy
open PySem L2
end Toy
namespace L2
open PySem
open Toy (meG)
end L2
namespace L2
open PySem
end L2
namespace Toy
open PySem L2
end Toy
namespace L2
open PySem
open Toy (coG naG lfG meG aXy mem_me)
end L2
namespace L2
open PySem
open Toy (meG mem_me)
end L2
namespace L2
open PySem
open Toy
theorem cJm{P:Prop}[Decidable P](h:P):D.bl (if true=true then !decide P else decide P)=D.bl false:=by rw[decide_eq_true h];rfl
end L2
set_option maxHeartbeats 1000000
namespace L2
open PySem Toy
end L2
set_option maxHeartbeats 4000000
namespace L2
open PySem Toy
section
variable{α:Type}[DecidableEq α](ok:List α->Bool)
variable{ok}
variable{lt:α->α->Bool}
variable(ok lt) in
end
end L2
namespace Toy
open PySem L2
end Toy
namespace L2
open PySem Toy
end L2
set_option maxHeartbeats 1000000
namespace Toy
open PySem L2
end Toy
namespace L2
open PySem Toy
abbrev ltn:Nat->Nat->Bool:=λi j=>decide (i<j)
def natE:Enc Nat where
 e:=λi=>D.int (i:Nat)
 inj:=λh=>by injection h with h;omega
 pl:=λ_=>rfl
 dep:=0
 ok:=λn x y _=>by cases n <;> rfl
 lt:=ltn
 okl:=λn x y _=>by cases n <;> rfl
 lte:=λn x y _=>by
  have:ltN n (D.int (x:Nat)) (D.int (y:Nat))=decide ((x:Int)<(y:Int)):=by cases n <;> rfl
  rw[this];exact decide_eq_decide.mpr (by omega)
end L2
namespace L2
open PySem PySem.Spec PyProof.Rows
structure TabF(base:bd)(mg:Str->Option ad)(c P:Addr):Prop where
 hd:PySem.W.CodeHd base c P
 bm:∃bm ob,mg "__builtins__"=some (.ref bm)/\bm≠gU/\base.get? bm=some ob/\ob.cls=.type "module"/\ob.dict=some gU/\ob.data=.plain
def Grow(P:Addr)(lp:Pos)(qual:Str)(ps:Array ad)(H H':Hp):Prop:=H'=H \/
 ∃c oc vs t,H c=none/\c≠P/\H'=upd (upd H P (.tbl (ps++#[e8 lp.line,e8 lp.col,.ref c]))) c (cdO c oc)/\oc.data=.fields vs/\vs[1]?=some (.str qual t)/\gT lp ps.toList=none
def fZy(H:Hp)(P:Addr)(lp:Pos)(qual:Str)(c:Addr):Prop:=∃ps oc vs t,H P=some (.tbl ps)/\gT lp ps.toList=some (.ref c)/\H c=some (cdO c oc)/\oc.data=.fields vs/\vs[1]?=some (.str qual t)
def TbV(H:Hp)(lp:Pos)(qual:Str)(ps:Array ad):Prop:=TriplesOk ps.toList/\(gT lp ps.toList=none\/∃c oc,gT lp ps.toList=some (.ref c)/\H c=some (cdO c oc)/\∃vs t,oc.data=.fields vs/\vs[1]?=some (.str qual t))
section
variable{X:Cx}{pins:List (Addr×Obj)}{σ:St}{H:Hp}{s:ak}{E:ad->ak->Prop}
theorem dZd{c P:Addr}{ps:Array ad}{qual:Str}{lp:Pos}{params:Arguments}{body:Expr}{scope:Scope}{clos:List (Str×Addr)}{Q:ad->ak->Prop}(I:Inv X pins σ H s)(hP:H P=some (.tbl ps))(tb:TbV H lp qual ps)
  (hcode:X.env.code=.ref c) (T:TabF X.base X.mg c P) (hq:X.env.qual ++ "<lambda>"=qual) (hcl:g6 scope X.env=pure clos) (hdef:defaultsOf params X.env=([],[]))
  (h:∀f c' pm ctv H' s',Inv X pins σ H' s'->Grow P lp qual ps H H'->s'.heap.get? f=some (jg "<lambda>" qual params body scope clos pm c' ctv)->s'.heap.CodeRec (.ref c') qual->fZy H' P lp qual c'->s.heap.objs.size<=f->H' f=none->Q (.ref f) s') :
  aG (aE X.prog X.w) X.A (eval (.Lambda params body scope lp) X.env) Q E s:=by
 obtain⟨B,tb⟩:=tb;obtain⟨bm,ob,b1,b2,b3,b4,b5,b6⟩:=T.bm;have Z:s.heap.get? P=some (gh ps):=I.hok P _ hP;have nP:∀b o,X.base.get? b=some o->b≠P:=λb o e z=>by
  have:=(I.bs b o e).2
  rw[z,hP] at this;cases this
 have hgP:aX≠P:=by
  obtain⟨o,es,ep,e,_⟩:=I.mod.glob;exact nP _ _ e
 have hbG:bm≠aX:=λq=>by
  obtain⟨o,es,ep,e,hd,_⟩:=I.mod.glob;rw[q,e] at b3;cases b3;rw[hd] at b6;cases b6
 have BA:s.heap.BuiltinsAt X.mg P:=⟨bm,ob,b1,b2,hbG,nP _ _ b3,I.bk _ _ b3,b4,b5,b6⟩;refine PySem.W.kla_eval hdef ?_;rw[hq];rcases tb with hn|⟨c',oc,hf,hc,N,t,d1,d2⟩
 ·refine PySem.W.kla_makeFunction hcl I.ok.glob (I.mod.glob.keeps I.bk) hcode (T.hd.keeps I.bk) Z B hn hgP BA λc' ctv h' tk hx v D Y O=>?_;obtain⟨c2,oc,N,t,e2,i,hd,hv⟩:=Y;cases e2;have hfr:H c'=none:=I.hok.fresh v;have J:c'≠P:=λz=>by rw[z,hP] at hfr;cases hfr
  have bP:∀b,H b=none->b≠P:=λb e z=>by rw[z,hP] at e;cases e
  have bc:∀b u,H b=some u->b≠c':=λb u e z=>by rw[z,hfr] at e;cases e
  have lc:∀b o,s.heap.get? b=some o->b≠c':=λb o e=>Nat.ne_of_lt (Nat.lt_of_lt_of_le (aD e) v);have hfo:H h'.objs.size=none:=I.hok.fresh (Nat.le_trans v (Nat.le_of_lt D));have kk:∀(fo:Obj) b o,b≠P->s.heap.get? b=some o->(h'.push fo).get? b=some o:=λfo b o n e=>ae _ (hx b o n e);refine h _ c' _ ctv (upd (upd H P (.tbl (ps++#[e8 lp.line,e8 lp.col,.ref c']))) c' (cdO c' oc)) _ (I.un ⟨?_,?_,?_,?_,?_,?_,?_⟩ ?_) (.inr ⟨c',oc,N,t,hfr,J,rfl,hd,hv,hn⟩) (av _ rfl) ⟨c',oc,N,t,rfl,ae _ i,hd,hv⟩ ⟨_,oc,N,t,by rw[upd_ne (cz J),aQ7],by simpa using codeAmong_snoc (c:=.ref c') _ B hn,aQ7,hd,hv⟩ (Nat.le_trans v (Nat.le_of_lt D)) ?_
  ·exact λb o e n _ _=>kk _ b o (bP b n) e
  ·exact λb o e n _ _=>⟨o.slots,kk _ b o (bP b n) e⟩
  ·exact λb o e n _=>by rw[upd_ne (lc b o e),upd_ne (bP b n)];exact n
  ·intro b o e _
   by_cases z:b=P
   ·subst z;exact⟨_,ae _ O⟩
   ·exact⟨o,kk _ b o z e⟩
  ·intro b xs e;have z:b≠P:=λz=>by rw[z,hP] at e;cases e
   rw[upd_ne (bc b _ e),upd_ne z];exact e
  ·intro b o u e;have z:b≠P:=λz=>by rw[z,hP] at e;cases e
   rw[upd_ne (bc b _ e),upd_ne z];exact e
  ·intro b qs e
   by_cases z:b=P
   ·subst z;rw[hP] at e;cases e;exact⟨_,by rw[upd_ne (cz J),aQ7]⟩
   ·exact⟨#[],by rw[upd_ne (bc b _ e),upd_ne z,e];simp⟩
  ·intro b u e
   by_cases z1:b=c'
   ·subst z1;rw[aQ7] at e;cases e;exact⟨ae _ i,⟨_,ae _ i⟩,λh1 h2 q k=>k _ q⟩
   ·rw[upd_ne z1] at e
    by_cases z2:b=P
    ·subst z2;rw[aQ7] at e;cases e;exact ae _ O
    ·rw[upd_ne z2] at e;refine(I.hok b u e).stay (λL o' hb' e'=>?_) (λL e'=>?_) (λL xs e'=>?_)
     ·refine kk _ L o' ?_ e';rcases hb' with z|z
      ·rw[z];exact z2
      ·intro j;rw[j,hP] at z;cases z
     ·have j:L≠P:=λj=>by rw[j,hP] at e';cases e'
      rw[upd_ne (bc L _ e'),upd_ne j];exact e'
     ·have j:L≠P:=λj=>by rw[j,hP] at e';cases e'
      rw[upd_ne (bc L _ e'),upd_ne j];exact e'
  ·rw[upd_ne (Nat.ne_of_gt D),upd_ne (λz=>by rw[z,hP] at hfo;cases hfo)];exact hfo
 ·refine PySem.W.kla_makeFunctionHit hcl I.ok.glob (I.mod.glob.keeps I.bk) hcode (T.hd.keeps I.bk) Z B hf BA λctv h' tk hk U=>?_;have k2:∀(fo:Obj) b o,s.heap.get? b=some o->(h'.push fo).get? b=some o:=λfo b o e=>ae _ (hk b o e);have i:s.heap.get? c'=some oc:=(I.hok c' _ hc).1;exact h _ c' _ ctv H _ (I.kept (k2 _)) (.inl rfl) (av _ rfl) ⟨c',oc,N,t,rfl,k2 _ _ _ i,d1,d2⟩ ⟨ps,oc,N,t,hP,hf,hc,d1,d2⟩ U (I.hok.fresh U)
end
section
variable{K:Fg}{F:Am}{S:Sto}{H H':Hp}{P:Addr}{lp:Pos}{qual:Str}{ps:Array ad}
theorem Rp.tb(r:Rp K F S H)(h:S P=some (.tb lp qual)):∃ps,H P=some (.tbl ps)/\TbV H lp qual ps:=by
 obtain⟨ps,e,h1,h2⟩:=r.obj P _ h;exact⟨ps,e,h1,h2.imp id λ⟨c,oc,j,_,i⟩=>⟨c,oc,j,i⟩⟩
theorem Grow.ext(g:Grow P lp qual ps H H')(r:Rp K F S H)(h:S P=some (.tb lp qual))(hP:H P=some (.tbl ps))(tr:TriplesOk ps.toList):Ext S H S H'/\Rp K F S H':=by
 rcases g with rfl|⟨c,oc,D,t,j,v,rfl,N,L,J⟩
 ·exact⟨Ext.refl _ _,r⟩
 ·have ne:∀a o,H a=some o->a≠c:=λa o e z=>by rw[z,j] at e;cases e
  have x:Ext S H S (upd (upd H P (.tbl (ps++#[e8 lp.line,e8 lp.col,.ref c]))) c (cdO c oc)):=by
   refine⟨λa o h1 h2=>?_,λa ha=>?_,λa ha=>.inl ha⟩
   ·have z:a≠P:=λz=>by rw[z,h] at h1;cases h1
    rw[upd_ne (ne a o h2),upd_ne z];exact h2
   ·by_cases i:a=c
    ·rw[i,aQ7];exact λz=>by cases z
    ·rw[upd_ne i]
     by_cases B:a=P
     ·rw[B,aQ7];exact λz=>by cases z
     ·rw[upd_ne B];exact ha
  refine⟨x,λa o ha=>?_,λa ha=>?_⟩
  ·by_cases z:a=P
   ·subst z;rw[h] at ha;cases ha;refine⟨_,by rw[upd_ne (cz v),aQ7],?_,.inr ⟨c,oc,?_,?_,aQ7,D,t,N,L⟩⟩
    ·simpa using TriplesOk_snoc _ _ _ _ tr
    ·simpa using codeAmong_snoc (c:=.ref c) _ tr J
    ·rintro(z|z)
     ·exact z (r.sn j)
     ·obtain⟨⟨u,e,_⟩,_⟩:=r.frm c z;rw[j] at e;cases e
   ·have q:=r.obj a o ha;refine q.keep x.kp ?_;have i:a≠c:=λi=>by rw[i] at q;exact q.live j
    rw[upd_ne i,upd_ne z]
  ·obtain⟨⟨u,e,ct⟩,h2⟩:=r.frm a ha;have z:a≠P:=λz=>by rw[z,h] at h2;cases h2
   exact⟨⟨u,by rw[upd_ne (ne a u e),upd_ne z];exact e,ct⟩,h2⟩
end
section
variable{P:aF}{w:aS}{K:au}{mg:Str->Option ad}{base:bd}{k:Nat}
def bX8(K:au)(mg:Str->Option ad)(x:Str)(c:Addr):Prop:=∀(f:Addr) (o:Obj) (fd:c8),mg x=some (.ref f)->K.lookup f=some o->o.data=.func fd->fd.code=.ref c
theorem fQe{x:Str}{st:Stmt}{N ps:List Str}{sp:SpD}{c:Addr}(T:Tx K mg x st)(C:bX8 K mg x c)(S:FnScope N ps (aQ3 st))
  (b:∀{f:Addr}{fd:c8},Fun K x x st f fd->Binds K fd ps []) (len:∀ds S Q,sp ds S Q->ds.length=ps.length)
  (h:∀ (f:Addr) (A:a4) (outer:List Env) (s:ak) (H:Hp) (E:XK),Room k (A.deeper (gY x (aQ3 st) s.heap.objs.size f (.ref c))) ->
   ∃t,PSsD K (cxOf CX0 P w K mg base N x (aQ3 st) f (.ref c) A outer s H E).nox (aQy st) t/\∀ds S Q,sp ds S Q->t (cZ6 Q) (aXw N ds) S):Df P w K mg base (k+1) x ps (spU K sp):=by
 obtain⟨f,fd,O,m⟩:=T.ex;refine⟨f,fd,?_,b O,O.kp,m⟩;obtain⟨oc,od,kV,doc,pm,an,L,ct,Z,rfl,lk,J⟩:=O.ex;obtain rfl:L=.ref c:=C f _ _ m lk rfl;refine eXe lk J S (λY H Q E z=>by obtain⟨F,S,ds,QD,r,l,i,c⟩:=z;rw[l.length];exact len ds S QD i) (λA outer s H Y Q E' hr z=>?_)
 obtain⟨F,S,ds,QD,r,l,i,c⟩:=z;obtain⟨t,h1,h2⟩:=h f A outer s H E' hr;have fin:∀v d H' S',Ext S H S' H'->Rp K F S' H'->RepV K (mt S' F) H' d v->rtD QD d S'->Q v H':=λv d H' S' B j v1 U=>by
  obtain⟨d',S2,D,fz,q⟩:=U;exact c v d' H' S2 (B.trans (Ext.less D)) (j.less D) ((cJ7 j D fz).1 v v1) q
 exact⟨_,h1.o.nox,F,S,aXw N ds,cZ6 QD,r,bZ2 l,h2 ds S QD i,fun Γ' S' σ' H' B j g1 q=>fin .non .non H' S' B j (by unfold RepV;rfl) q,fin,λ_ _ _ _ _ _ _ q=>q.elim,λ_ _ _ _ _ _ _ q=>q.elim⟩
end
end L2
set_option maxHeartbeats 4000000
namespace L2
open PySem
open Toy
theorem dZe(ts:List (List Str))(i:Nat):cutD (ts.map tupS) none (some (i:Int))=(ts.take i).map tupS:=by
 show((ts.map tupS).drop 0).take (HT.sIx (ts.map tupS).length (ts.map tupS).length (some ((i:Nat):Int))-0)=_;rw[HT.sIx_nat,f7,Nat.sub_zero,List.map_take];rcases Nat.le_total i (ts.map tupS).length with h|h
 ·rw[Nat.min_eq_left h]
 ·rw[Nat.min_eq_right h,dJ,bi h]
end L2
set_option maxHeartbeats 1000000
namespace L2
open PySem Toy
end L2
namespace L2
open PySem PySem.Spec PyProof.Rows
end L2
set_option maxHeartbeats 4000000
namespace Toy
open PySem L2
end Toy
set_option maxHeartbeats 1000000
namespace L2
open PySem Toy
section
variable{ns ms:List Str}(hl:ms.length=ns.length)(nn:ns.Nodup)(nm:ms.Nodup)
include hl nm
include nn in
include nn in
end
end L2
set_option maxHeartbeats 4000000
namespace L2
open PySem
theorem eQx{ts:List (List Str)}{N:List Str}(h:∀t∈ts,∀x∈t,x∈N):(nms ts).length<=N.length:=(bZa ts).nodup.length_le_of_subset λx j=>by
 obtain⟨t,v,i⟩:=mem_nms.mp j;exact h t v x i
end L2
set_option maxHeartbeats 1000000
namespace Toy
open PySem L2
def fac:Nat->Nat
 |0=>1
 |n+1=>(n+1)*fac n
theorem bJf{α β:Type}{f:α->List β}{n:Nat}:∀{l:List α},(∀x∈l,(f x).length<=n)->(l.flatMap f).length<=l.length*n
 |[],_=>Nat.zero_le _
 |x::l,h=>by
  rw[gi,aA,bG,Nat.succ_mul];have h1:=h x aq;have h2:=bJf (f:=f) (l:=l) λy i=>h y (ay _ i);omega
end Toy
namespace L2
open PySem Toy
theorem cJn(lo n:Nat):rngD lo n=(List.range' lo n).map natE.e:=by
 induction n generalizing lo with
 |zero=>rfl
 |succ n i =>
  rw[List.range'_succ,bC,<- i]
  rfl
theorem dZf{α β:Type}{f:α->List β}{a b:List α}(h:a.Sublist b):(a.flatMap f).Sublist (b.flatMap f):=by
 induction h with
 |slnil=>exact .slnil
 |cons x _ i=>rw[gi];exact i.trans (List.sublist_append_right _ _)
 |cons_cons x _ i=>rw[gi,gi];exact jx (jF _) i
end L2
namespace Toy
open PySem L2
abbrev s_enough_sets:Stmt:=top 13
theorem sc_enough_sets:FnScope ["k", "many", "number", "factor"] ["k", "many"] (aQ3 s_enough_sets):=fsc
def aZc:SpD:=λds S Q=>∃k m:Nat,ds=[.int k,.int m]/\k<=7/\2<=m/\m<=7/\Q (.int ((fac k*(m-1)^k:Nat):Int)) S
section
variable{P:aF}{w:aS}{K:au}{mg:Str->Option ad}{base:bd}{pt cc:Addr}
theorem bQ5(T:Tx K mg "enough_sets" s_enough_sets)(B:Bs mg):Df P w K mg base 1 "enough_sets" ["k", "many"] (spU K aZc):=by
 refine aZu T sc_enough_sets (λF=>F.binds λ_ _ _ _ _ _=>us2 λ_ _=>rfl) ?_ λf U A outer s H E hr=>⟨_,(aQ2 (aQe (i:=2) sc_enough_sets.nd rfl (bA rfl) aQ4)
  (aQ2 (aJt dE rfl (bX1 rfl B.range (aQ0 aQ4 (aQ0 (aQs (k:=false) (dv 0) aQ4) aQ1))) (aZ1 (i:=3) sc_enough_sets.nd rfl (bA rfl)) (aQ6 (aQe (i:=2) sc_enough_sets.nd rfl (bA rfl) (bXy (bXy (dv 2) (dv 3)) (fZ8 (dv 1) aQ4)))))
  (aQ6 (aQg (dv 2))))),?_⟩
 ·rintro ds S Q ⟨k,m,rfl,_⟩;rfl
 ·rintro ds S Q ⟨k,m,rfl,hk,Z,Y,q⟩;refine⟨⟨by decide,by decide,by omega,by omega⟩,?_⟩
  have L:((k:Int)+1-1).toNat=k:=by omega
  rw[L];refine aX4 (λt Γ S'=>∃j:Option D,Γ=[some (.int (k:Nat)),some (.int (m:Nat)),some (.int ((fac t*(m-1)^t:Nat):Int)),j]/\S'=S) ⟨none,rfl,rfl⟩ ?_ ?_
  ·rintro t x Γ S' N v ⟨j,rfl,rfl⟩ z;obtain⟨ht,rfl⟩:=aZz k 1 t x v;have e:((fac t*(m-1)^t:Nat):Int)*(1+(t:Int))*((m:Int)-1)=((fac (t+1)*(m-1)^(t+1):Nat):Int):=by
    have O:(m:Int)-1=((m-1:Nat):Int):=by omega
    rw[O,Nat.pow_succ];show _=(((t+1)*fac t*((m-1)^t*(m-1)):Nat):Int);simp only[Int.natCast_mul,Int.natCast_add];have J:((1:Nat):Int)=1:=rfl;rw[J,Int.add_comm 1 (t:Int)]
    ac_rfl
   refine⟨trivial,?_⟩;have h:=z _ S' ⟨some (.int (1+(t:Int))),rfl,rfl⟩;rw[<- e] at h;exact⟨.inr ⟨by omega,by omega⟩,.inr ⟨by omega,by omega⟩,h⟩
  ·rintro Γ S' ⟨j,rfl,rfl⟩;have el:(rngD 1 k).length=k:=by
    have:=congrArg fN (cJn 1 k)
    rwa [am,List.length_range'] at this
   rw[el];exact⟨trivial,aQi q⟩
end
end Toy
namespace L2
open PySem PySem.Spec PyProof.Rows
section
variable{prog:aF}{w:aS}{A:a4}{R:Result->ak->Prop}{q a I S:Addr}{n:Nat}{kf:Nat->Int}{Pv:Nat->ad->Prop}{G:ak->Prop}
abbrev gB(kf:Nat->Int):Nat->Nat->Bool:=λi j=>decide (kf i>kf j)
structure Mx(prog:aF)(w:aS)(A:a4)(q a I S:Addr)(n:Nat)(kf:Nat->Int)(Pv:Nat->ad->Prop)(G:ak->Prop):Prop where
 hh:A.in1.handled=none
 aI:a≠I
 SI:S≠I
 tup:∀s,G s->∃its:List ad,s.heap.IsTuple a its.toArray/\its.length=n/\∀(i:Nat) v,its[i]?=some v->Pv i v
 keep:∀(s:ak) h' tk',G s->(∀b o,b≠I->b≠S->s.heap.get? b=some o->h'.get? b=some o)->G {s with heap:=h',toks:=tk'}
 turn:∀i v (s:ak) oI oS,Pv i v->G s->s.heap.get? I=some oI->s.heap.get? S=some oS->aG (aE prog w) A.in1 (call (.ref q) [v]) (λx s'=>G s'/\(∃t,x=.int (kf i) t)/\s'.heap.get? I=some oI/\s'.heap.get? S=some oS) (λ_ _=>False) s
theorem Mx.loop(M:Mx prog w A q a I S n kf Pv G)(fin:∀v s,Pv (cX (gB kf) (n-1)) v->G s->R (.ok (.ret v)) s) :
  ∀(left j:Nat) (s:ak) (vb:ad) (tb:Tok) (c:Nat),j+1+left=n->G s->s.heap.IsTupleIter I a (j+1)->Pv (cX (gB kf) j) vb->s.heap.get? S=some (bY "list" #[vb,.int (kf (cX (gB kf) j)) tb] c) ->
   ew (aE prog w) A (.builtin "max.loop" ⟨[.ref I,.ref q,.ref S],[]⟩) R s:=by
 have word:(toString "max"++toString ".loop":String)="max.loop":=by decide
 intro left
 induction left with
 |zero =>
  intro j s vb tb c hj g it hb N;obtain⟨its,ht,hl,hp⟩:=M.tup s g;have W:=jq (prog:=prog) (w:=w) (A:=A.in1) M.hh I a M.aI its.toArray;have e:its.toArray.size=j+1:=by simp;omega
  rw[e] at W;refine bM F.entry_max_loop ?_;rw[bq F.plain_max_loop _];show aG (aE prog w) A.in1 (seqItems? (.ref S)>>=_) _ _ s;refine aa (eL N rfl ?_);show aG (aE prog w) A.in1 (jr (eV (.ref I)) _>>=_) _ _ s;refine aa (fu (W.done s _ _ ⟨it,ht⟩ λh1 B L=>?_));have J:=L S _ (by simpa using M.SI) N
  show aG (aE prog w) A.in1 (updateSeq S (λ_=>#[])>>=_) _ _ _;refine aa ?_;refine e6 J rfl (aa (ip (af (fin vb _ ?_ ?_))))
  ·have e:n-1=j:=by omega
   rw[e];exact hb
  ·exact M.keep s _ B g λb o hI hS e=>(bg _ _ (cz hS)).trans (L b o (by simpa using hI) e)
 |succ left ih =>
  intro j s vb tb c hj g it hb N;obtain⟨its,ht,hl,hp⟩:=M.tup s g;have W:=jq (prog:=prog) (w:=w) (A:=A.in1) M.hh I a M.aI its.toArray;refine bM F.entry_max_loop ?_;rw[bq F.plain_max_loop _];show aG (aE prog w) A.in1 (seqItems? (.ref S)>>=_) _ _ s;refine aa (eL N rfl ?_);show aG (aE prog w) A.in1 (jr (eV (.ref I)) _>>=_) _ _ s;refine aa (fu (W.item (j+1) s _ _ (by simp;omega) ⟨it,ht⟩ λv h1 B hv U L=>?_))
  have J:=L S _ (by simpa using M.SI) N
  have g1:=M.keep s h1 B g λb o hI _ e=>L b o (by simpa using hI) e
  obtain⟨Y,i1,i2,i3⟩:=U.1;have pv:Pv (j+1) v:=hp _ _ (by simpa using hv)
  show aG (aE prog w) A.in1 (jr (fb [v] (call (.ref q) [v])) _>>=_) _ _ _;refine aa (fu (bn (cT (M.turn (j+1) v _ Y _ pv g1 i1 J) (λx s2 he=>?_) λ_ _ hF=>hF.elim)));obtain⟨g2,⟨z,rfl⟩,i4,D⟩:=he;have Z:s2.heap.IsTupleIter I a (j+1+1):=⟨Y,i4,i2,i3⟩;show aG (aE prog w) A.in1 (jr (fb [v,.int (kf (j+1)) z] (richCompare .Gt (.int (kf (j+1)) z) (.int _ tb)>>=_)) _>>=_) _ _ _;refine aa (fu (bn (aa (CmpOf.ints_gt (prog:=prog) (w:=w) (A:=A.in1) (P:=λi v=>∃t,v=.int (kf i) t) kf (λi v h=>h) (j+1) (cX (gB kf) j) _ _ _ _ _ ⟨z,rfl⟩ ⟨tb,rfl⟩ ?_))));refine aa (bn (dO (aa (ip (af ?_)))));show aG (aE prog w) A.in1 (if decide (kf (j+1)>kf (cX (gB kf) j))=true then _ else _) _ _ _
  cases e:decide (kf (j+1)>kf (cX (gB kf) j)) with
  |true =>
   rw[if_pos rfl];refine aa ?_;refine e6 D rfl (aa (ip ?_));rw[word];have hs3:(s2.heap.update S (bK λ_=>#[v,.int (kf (j+1)) z])).get? S=some (bY "list" #[v,.int (kf (j+1)) z] _):=eg D λ_=>#[v,.int (kf (j+1)) z];have O:cX (gB kf) (j+1)=j+1:=by simp only[cX,gB,e,if_true]
   refine af ⟨cZ F.plain_max_loop _,ih (j+1) _ v z _ (by omega) (M.keep s2 _ s2.toks g2 λb o _ hS e=>(bg _ _ (cz hS)).trans e) ⟨Y,(bg _ _ M.SI).trans i4,i2,i3⟩ (by rw[O];exact pv) (by rw[O];exact hs3)⟩
  |false =>
   rw[if_neg (by simp)]
   refine aa (ip ?_);rw[word];have O:cX (gB kf) (j+1)=cX (gB kf) j:=by simp only[cX,gB,e,aN,if_false]
   refine af ⟨cZ F.plain_max_loop _,ih (j+1) s2 vb tb c (by omega) g2 Z (by rw[O];exact hb) (by rw[O];exact D)⟩
theorem cJo{E:ad->ak->Prop}{Q:ad->ak->Prop}{s:ak}(M:Mx prog w A q a s.heap.objs.size (s.heap.objs.size+1) n kf Pv G)(hn:0<n)(g:G s)(fin:∀v s,Pv (cX (gB kf) (n-1)) v->G s->Q v s) :
  aG (aE prog w) A (call (.builtin "max") [.ref a] [(Str.ofString "key",.ref q)]) Q E s:=by
 have word:(toString "max"++toString ".loop":String)="max.loop":=by decide
 obtain⟨its,L,hl,hp⟩:=M.tup s g;refine kmk_tree F.kind_max F.plain_max F.entry_max (kmk_max_key _ _) ?_;have bp:gR "max" ["key", "default"] 0 ⟨[],[(Str.ofString "key",.ref q)]⟩=pure [some (.ref q),none]:=rfl;show aG (aE prog w) A.in1 (gR "max" ["key", "default"] 0 ⟨[],[(Str.ofString "key",.ref q)]⟩>>=_) _ _ s;refine aa (wpAny_of_eq bp ?_);show aG (aE prog w) A.in1 (pure (ju a)>>=λitems=>ir items>>=_) _ _ s;refine aa (af ?_);refine aa (fM L ?_);refine aa (bu ?_);rw[word];have hal:a<s.heap.objs.size:=let ⟨_,ho,_⟩:=L;aD ho
 let h0:=s.heap.push {cls:=.type "tuple_iterator",data:=.fields #[.ref a,.int 0 0]}
 have hz:h0.objs.size=s.heap.objs.size+1:=cC _ _;show aG (aE prog w) A.in1 (again (Code.builtin "max.loop" ⟨[.ref s.heap.objs.size,.ref q,.ref h0.objs.size],[]⟩)) _ _ {s with heap:=h0.push (bY "list" #[] 0)}
 have z:(h0.push (bY "list" #[] 0)).get? (s.heap.objs.size+1)=some (bY "list" #[] 0):=by rw[<- hz];exact av _ rfl
 have Z:∀b o,s.heap.get? b=some o->(h0.push (bY "list" #[] 0)).get? b=some o:=λb o e=>ae _ (ae _ e);have J:(h0.push (bY "list" #[] 0)).IsTupleIter s.heap.objs.size a 0:=⟨_,ae _ (av _ rfl),rfl,rfl⟩;rw[hz];have W:=jq (prog:=prog) (w:=w) (A:=A.in1) M.hh s.heap.objs.size a M.aI its.toArray;refine af ⟨cZ F.plain_max_loop _,bM F.entry_max_loop ?_⟩;rw[bq F.plain_max_loop _];show aG (aE prog w) A.in1 (seqItems? (.ref (s.heap.objs.size+1))>>=_) _ _ {s with heap:=h0.push (bY "list" #[] 0)}
 refine aa (eL z rfl ?_);show aG (aE prog w) A.in1 (jr (eV (.ref s.heap.objs.size)) _>>=_) _ _ {s with heap:=h0.push (bY "list" #[] 0)}
 refine aa (fu (W.item 0 _ _ _ (by simp;omega) ⟨J,L.at λo e=>Z _ o e⟩ λv h1 B hv D Y=>?_))
 have O:=Y (s.heap.objs.size+1) _ (by simp) z
 have g1:=M.keep s h1 B g λb o hI _ e=>Y b o (by simpa using hI) (Z b o e)
 obtain⟨U,i1,i2,i3⟩:=D.1;have pv:Pv 0 v:=hp _ _ (by simpa using hv)
 show aG (aE prog w) A.in1 (jr (fb [v] (call (.ref q) [v])) _>>=_) _ _ _;refine aa (fu (bn (cT (M.turn 0 v _ U _ pv g1 i1 O) (λx s2 he=>?_) λ_ _ hF=>hF.elim)));obtain⟨g2,⟨i,rfl⟩,i4,j⟩:=he;show aG (aE prog w) A.in1 (updateSeq (s.heap.objs.size+1) (λ_=>#[v,.int (kf 0) i])>>=_) _ _ _;refine aa ?_;refine e6 j rfl ?_;rw[word];have N:(s2.heap.update (s.heap.objs.size+1) (bK λ_=>#[v,.int (kf 0) i])).get? (s.heap.objs.size+1)=some (bY "list" #[v,.int (kf 0) i] _):=eg j λ_=>#[v,.int (kf 0) i];exact af ⟨cZ F.plain_max_loop _,M.loop (R:=wants Q E) fin (n-1) 0 _ v i _ (by omega) (M.keep s2 _ s2.toks g2 λb o _ hS e=>(bg _ _ (cz hS)).trans e) ⟨U,(bg _ _ M.SI).trans i4,i2,i3⟩ pv N⟩
end
def dZg(X:Cx)(s:ak)(H:Hp)(env:Env)(x:Str):Cx:={X with A:=X.A.in1.deeper env,N:=x::X.N,s₀:=s,H₀:=H,env:=env,outer:=X.stack,stack:=env::X.stack,ex:=[],calm:=true,fn:=λ_=>false,pn:=[],xe:=λ_ _=>False}
structure LamOk(X:Cx)(x z:Str)(scope:Scope)(c:Addr):Prop where
 kind:scope.kind=.function
 co:scope.isCoroutine=false
 gen:scope.isGenerator=false
 par:scope.names.lookup x=some .local
 all:∀p∈scope.names,p.2≠.cell/\(p.2=.local->p.1=x)/\(p.2=.free->p.1=z)
 xN:x∉X.N
 fr:X.env.cells.lookup z=some c
 zc:X.env.kindOf z=some .cell
abbrev bZb(x:Str)(p:Pos):Arguments:={posonlyargs:=[],args:=[{arg:=x,annotation:=none,pos:=p}],vararg:=none,kwonlyargs:=[],kw_defaults:=[],kwarg:=none,defaults:=[]}
abbrev cQi(scope:Scope)(L f c':Addr)(z:Str)(c:Addr)(qual:Str):Env:=newEnv scope L aX [(z,c)] (qual ++ ".<locals>.") (some f) (.ref c') none gU
section
variable{X:Cx}{pins:List (Addr×Obj)}{σ:St}{H:Hp}{s:ak}
theorem eQy{x z:Str}{scope:Scope}{c c' f:Addr}{qual:Str}{v:ad}{pv:V}{h1:bd}{tk:Tok}(O:LamOk X x z scope c)(hc:X.calm=true)(I:Inv X pins σ H s)(rv:RelV pv v)
  (hn:h1.Ns s.heap.objs.size (λy=>[(x,v)].reverse.lookup y)) (hs:dU s.heap.objs.size (s.heap.push {cls:=.type "frame",data:=.dict #[]}) h1) :
  Inv (dZg X s H (cQi scope s.heap.objs.size f c' z c qual) x) [] (some pv::σ) H {s with heap:=h1,toks:=tk}:=by
 have J:∀b o,s.heap.get? b=some o->h1.get? b=some o:=λb o e=>hs.extBut b o (Nat.ne_of_lt (aD e)) (ae _ e);have one:∀y d,[(z,c)].lookup y=some d->y=z/\d=c:=λy d e=>by
  rw[cG] at e
  split at e
  ·rename_i q;cases e;exact⟨fQ q,rfl⟩
  ·cases e
 obtain⟨m,m1,Z⟩:=I.loc;have j:∀ y k,scope.names.lookup y=some k->k≠.cell/\(k=.local->y=x)/\(k=.free->y=z):=λy k e=>O.all (y,k) (dR e);refine⟨⟨I.ok.mod,O.kind,rfl,rfl,Nat.le_refl _,λy Y d h h'=>?_,λy D=>?_,λy d h=>(nomatch h),λ_=>I.ok.hd hc,Around.frames_deeper (show X.A.in1.frames=some X.stack from I.ok.frames),I.ok.gd,.inr ⟨rfl,rfl⟩,λb h=>(nomatch h),I.bs,Nat.le_trans I.ok.bsz I.sz,λb o _ h=>(nomatch h),λb h=>(nomatch h),I.stack,I.stkFree⟩,
  rfl,I.bare,Un.kept J,⟨_,hn,λi y w h1 h2 h3=>?_⟩,λy d h=>?_,I.hok.fresh (Nat.le_refl _),λy d h=>?_,λp hp=>(nomatch hp),I.hok.kept J,?_⟩
 ·rw[(one y d h).1,(one Y d h').1]
 ·rcases D with D|D
  ·exact absurd rfl (j y _ D).1
  ·obtain rfl:=(j y _ D).2.2 rfl;exact⟨c,gu ..⟩
 ·cases i with
  |zero =>
   have e1:x=y:=aQ h1;have e2:pv=w:=aQ (aQ h2);subst e1 e2;exact⟨v,rv,.inl ⟨O.par,gu ..⟩⟩
  |succ i =>
   have h1:X.N[i]?=some y:=h1;have h2:σ[i]?=some (some w):=h2;have L:scope.names.lookup y=some .free/\y=z:=by
    rcases h3 with q|q|q
    ·exact absurd (ao h1) (by rw[(j y _ q).2.1 rfl];exact O.xN)
    ·exact absurd rfl (j y _ q).1
    ·exact⟨q,(j y _ q).2.2 rfl⟩
   obtain⟨q,rfl⟩:=L;obtain⟨u,r,l⟩:=Z i y w h1 h2 (.inr (.inl O.zc));rcases l with⟨l,_⟩|⟨_,d,hd,B⟩
   ·rw[O.zc] at l;cases l
   ·rw[O.fr] at hd;cases hd;obtain⟨o,U,hd⟩:=B;exact⟨u,r,.inr ⟨.inr q,c,gu ..,o,J _ _ U,hd⟩⟩
 ·obtain⟨rfl,rfl⟩:=one y d h;obtain⟨w,o,U,hw⟩:=I.cell _ _ O.fr;exact⟨w,o,J _ _ U,hw⟩
 ·obtain⟨rfl,rfl⟩:=one y d h;exact I.freeC _ _ O.fr
 ·show σ.length+1=X.N.length+1;rw[I.len]
theorem eQz{x z:Str}{scope:Scope}{c c' f:Addr}{qual:Str}{v pm ctv:ad}{pv:V}{body:Expr}{p0:Pos}{t:TE}{Q:VK}(O:LamOk X x z scope c)(hc:X.calm=true)(hroom:X.A.in1.depth<gW)(I:Inv X pins σ H s)
  (ho:s.heap.get? f=some (jg "<lambda>" qual (bZb x p0) body scope [(z,c)] pm c' ctv)) (hcd:s.heap.CodeRec (.ref c') qual) (rv:RelV pv v)
  (hbd:∀(c':Addr) (f:Addr) (pm ctv v:ad),bindArgs (js "<lambda>" qual (bZb x p0) body scope [(z,c)] pm (.ref c') ctv) ⟨[v],[]⟩=pure [(x,v)])
  (hb:∀L,PE (dZg X s H (cQi scope L f c' z c qual) x) body t) (q:t (some pv::σ) H Q) :
  aG (aE X.prog X.w) X.A.in1 (call (.ref f) [v]) (CE X.stack X.prog X.w H s Q) (λ_ _=>False) s:=by
 refine wpAny_call (PySem.W.kla_callFunE hroom ho rfl O.co O.gen rfl hcd ?_);have i:=hbd c' f pm ctv v;rw[i];refine af (wpAny_newFunctionEnv (λy B=>(O.all y B).1) (λy B=>by rw[aU.mp B];exact O.par) (λh1 U N=>?_) O.kind)
 have J:=eQy (tk:=s.toks+1) (f:=f) (c':=c') (qual:=qual) O hc I rv U N;refine⟨J.nolimit,PySem.W.kla_codeExpr ?_⟩;refine cT (hb _ [] _ _ _ Q J q) (λu s' ⟨y,H',j,r,D⟩=>?_) λ_ _ z=>dh z;exact⟨y,H',j.os,j.bare,j.base,j.hok,r,D⟩
end
section
variable{X:Cx}{pins:List (Addr×Obj)}{σ:St}{H:Hp}{s:ak}
theorem Inv.turned2{h':bd}{t':Nat}{i j:Addr}(I:Inv X pins σ H s)(k:∀b o,b≠i->b≠j->s.heap.get? b=some o->h'.get? b=some o)(hi:H i=none)(hj:H j=none)
  (ai:X.s₀.heap.objs.size<=i/\i≠X.env.locals/\(∀x c,X.env.cells.lookup x=some c->c≠i)/\∀p∈X.pn++pins,p.1≠i) (aj:X.s₀.heap.objs.size<=j/\j≠X.env.locals/\(∀x c,X.env.cells.lookup x=some c->c≠j)/\∀p∈X.pn++pins,p.1≠j):Inv X pins σ H {s with heap:=h',toks:=t'}:=by
 have J:∀b u,H b=some u->b≠i/\b≠j:=λb u e=>⟨λz=>(by rw[z,hi] at e;cases e),λz=>(by rw[z,hj] at e;cases e)⟩
 have go:∀b o,b∉[i,j]->s.heap.get? b=some o->h'.get? b=some o:=λb o B=>k b o (λz=>B (by simp[z])) (λz=>B (by simp[z]))
 refine I.call (d':=s.drawn) (g':=s.gens) (ch:=[i,j]) ⟨λb o e _ _ B=>go b o B e,λb o e _ _ B=>⟨o.slots,go b o B e⟩,λ_ _ _ n _=>n,λb o e B=>⟨o,go b o B e⟩,λ_ _ e=>e,λ_ _ _ e=>e,λ_ ps e=>⟨#[],by rw[e];simp⟩⟩ (λb u e=>?_) I.bare λb D=>?_
 ·refine(I.hok b u e).stay (λc v B q=>?_) (λ_ q=>q) λ_ _ q=>q
  have:c≠i/\c≠j:=by
   rcases B with z|z
   ·rw[z];exact J b u e
   ·exact J c _ z
  exact k c v this.1 this.2 q
 ·rcases aK.mp D with rfl|D
  ·exact⟨.inr ai.1,ai.2⟩
  ·rw[aU.mp D];exact⟨.inr aj.1,aj.2⟩
theorem Inv.fresh4(I:Inv X pins σ H s){b:Addr}(h:s.heap.objs.size<=b):X.s₀.heap.objs.size<=b/\b≠X.env.locals/\(∀x c,X.env.cells.lookup x=some c->c≠b)/\∀p∈X.pn++pins,p.1≠b:=by
 refine⟨Nat.le_trans I.sz h,λz=>?_,λx c e z=>?_,λp i z=>?_⟩
 ·have:=I.lt
  exact absurd (Nat.lt_of_lt_of_le this h) (by rw[z];exact Nat.lt_irrefl _)
 ·obtain⟨v,o,j,_⟩:=I.cell x c e;exact absurd (Nat.lt_of_lt_of_le (aD j) h) (by rw[z];exact Nat.lt_irrefl _)
 ·exact absurd (Nat.lt_of_lt_of_le (aD (I.pin p i).1) h) (by rw[z];exact Nat.lt_irrefl _)
theorem Inv.nostack(I:Inv X pins σ H s){b:Addr}(h:s.heap.objs.size<=b):b∉frs X.stack:=λz=>by
 rcases aK.mp (I.stkSub b z) with e|e
 ·exact(I.fresh4 h).2.1 e
 ·exact I.nofs h e
end
section
variable{X:Cx}{K:Fg}{pos:Pos}{k:Nat}
def fZz(K:Fg)(P:Addr)(lp:Pos)(qual:Str)(te tb:TE):TE:=fun σ H Q=>te σ H λx H1=>∃ps,H1 P=some (.tbl ps)/\TbV H1 lp qual ps/\∀H2,Grow P lp qual ps H1 H2 ->
 ∃(a:Addr) (us:List V) (kf:Nat->Int) (Gd:Hp->Prop),x=.ref a/\us≠[]/\Gd H2/\(∀H3,Gd H3->SqT K H3 a us)/\(∀H3 c oc ps,Gd H3->H2 P=some (.tbl ps)->gT lp ps.toList=some (.ref c)->H2 c=some (cdO c oc)->H3 c=some (cdO c oc)) /\
  (∀H3 (i:Nat) u,Gd H3->us[i]?=some u->tb (some u::σ) H3 λy H4=>y=.int (kf i)/\Gd H4)/\∀H3 u,Gd H3->us[cX (gB kf) (us.length-1)]?=some u->Q u H3
theorem eZ0{e body:Expr}{c cP P:Addr}{qual x z:Str}{scope:Scope}{p p0 lp kp:Pos}{te tb:TE}(hr:Room k X.A)(hg:Gl X "max")(hm:X.mg "max"=none)(he:PE X e te)(hcode:X.env.code=.ref cP)(T:TabF X.base X.mg cP P)(hq:X.env.qual ++ "<lambda>"=qual)
  (O:LamOk X x z scope c) (hcl:g6 scope X.env=pure [(z,c)])
  (hbd:∀(c' f:Addr) (pm ctv v:ad),bindArgs (js "<lambda>" qual (bZb x p0) body scope [(z,c)] pm (.ref c') ctv) ⟨[v],[]⟩=pure [(x,v)])
  (hb:∀s H L f c',PE (dZg X s H (cQi scope L f c' z c qual) x) body tb) (hK:X.K=K:=by rfl) (hc:X.calm=true:=by rfl)
  (g1:cx pos (az [e] X.env)=[(false,eval e X.env)]:=by rfl) (g2:(iE pos (fR [⟨some "key",.Lambda (bZb x p0) body scope lp,kp⟩] X.env)).filterMap (·.1)=[("key":Str)]:=by rfl) :
  PE X (.Call (.Name "max" p) [e] [⟨some "key",.Lambda (bZb x p0) body scope lp,kp⟩] pos) (fZz K P lp qual te tb):=by
 subst hK;intro pins s σ H Q I h;refine fK (ld_blt I hg hm (show cj "max"=some (.builtin "max") from rfl) ?_ (by decide) (by decide))
 have h3:(cx pos (az [e] X.env)).any (·.1)=false:=by rw[g1];rfl
 have h4:cx pos (az [e] X.env)=(false,eval e X.env)::cx pos (az [] X.env):=by rw[g1];rfl
 refine callWith_kw ?_ h4 h3 rfl rfl;rw[g1,g2];refine Calls.spliced_cons (thn (he pins s σ H _ I h) λv s1 ⟨y,H1,I1,r1,ps,hP,tb,q1⟩=>Calls.spliced_nil ?_);refine kws_cons (dZd I1 hP tb hcode T hq hcl rfl λf c' pm ctv H2 s2 D gr ho hcr it hf hfn=>kws_nil ?_);obtain⟨a,us,kf,Gd,rfl,ne,g2,gt,gc,gtu,gf⟩:=q1 H2 gr;cases r1;have hh:X.A.in1.handled=none:=by simp[D.ok.hd hc]
 obtain⟨ps',oc,vs',t',i1,i2,i3,i4,i5⟩:=it;have zI:=D.fresh4 (Nat.le_refl _);have zS:=D.fresh4 (Nat.le_succ _);have fI:=D.hok.fresh (Nat.le_refl _);have fS:=D.hok.fresh (Nat.le_succ _);have lf:f<s2.heap.objs.size:=aD ho;have nss:∀b,s2.heap.objs.size<=b->b∉frs X.stack:=λb=>D.nostack;obtain⟨its0,rv0,pl0,_⟩:=D.tuple (gt H2 g2);have ha:a<s2.heap.objs.size:=let ⟨_,ho,_⟩:=pl0;aD ho
 refine cJo (n:=us.length) (kf:=kf) (Pv:=λi v=>∃u,us[i]?=some u/\RelV u v) (G:=λs3=>∃j,Inv X pins σ j s3/\Gd j/\s3.heap.get? f=some (jg "<lambda>" qual (bZb x p0) body scope [(z,c)] pm c' ctv)/\j f=none/\j s2.heap.objs.size=none/\j (s2.heap.objs.size+1)=none)
  ⟨hh,Nat.ne_of_lt ha,Nat.succ_ne_self _,?_,?_,?_⟩ (dy.mpr ne) ⟨H2,D,g2,ho,hfn,fI,fS⟩ ?_
 ·rintro s3 ⟨j,B,g3,_⟩;obtain⟨its,N,pl,_⟩:=B.tuple (gt j g3);refine⟨its,pl,N.length.symm,λi v hv=>?_⟩;have hi:=(aC.mp hv).1;obtain⟨w,h1,h2⟩:=N.get (ag (show i<us.length by rw[N.length];exact hi))
  rw[hv] at h1;cases h1;exact⟨_,ag (show i<us.length by rw[N.length];exact hi),h2⟩
 ·rintro s3 h' tk' ⟨j,B,g3,U,f3,Z,Y⟩ hk;exact⟨j,B.turned2 hk Z Y zI zS,g3,hk f _ (Nat.ne_of_lt lf) (Nat.ne_of_lt (Nat.lt_succ_of_lt lf)) U,f3,Z,Y⟩
 ·rintro i v s3 oI oS ⟨u,hu,ru⟩ ⟨j,B,g3,U,f3,Z,Y⟩ eI eS;have hoc:s3.heap.get? c'=some oc:=(B.hok c' _ (gc j c' oc ps' g3 i1 i2 i3)).1;refine cT (eQz (Q:=λy J=>y=.int (kf i)/\Gd J) O hc (show X.A.depth<gW from hr.depth) B U ⟨c',oc,vs',t',rfl,hoc,i4,i5⟩ ru hbd (λL=>hb _ _ L f c') (gtu j i u g3 hu)) (λx s4 ce=>?_) λ_ _ z=>z
  obtain⟨y,J,os,bare,un,hok,r,rfl,g4⟩:=ce;have kp:∀b o,s2.heap.objs.size<=b\/b=f->s3.heap.get? b=some o->j b=none->s4.heap.get? b=some o/\J b=none:=λb o hb e n=>by
   refine⟨un.keep b o e n (λz=>?_) (by simp),un.free b o e n (by simp)⟩
   rcases hb with hb|rfl
   ·exact nss b hb z
   ·exact I1.nostack hf z
  have k1:=kp _ _ (.inr rfl) U f3;have k2:=kp _ _ (.inl (Nat.le_refl _)) eI Z;have k3:=kp _ _ (.inl (Nat.le_succ _)) eS Y;have I4:Inv X pins σ J s4:=B.call' (ch:=[]) os un hok bare (λb hb=>(nomatch hb))
  exact⟨⟨J,I4,g4,k1.1,k1.2,k2.2,k3.2⟩,let ⟨t,e⟩:=(show ∃t,x=jt (kf i) t from r);⟨t,e⟩,k2.1,k3.1⟩
 ·rintro v s3 ⟨u,hu,ru⟩ ⟨j,B,g3,_⟩;exact⟨u,j,B,ru,gf j u g3 hu⟩
def fX0(P:Addr)(lp:Pos)(qual:Str)(te tb:ED):ED:=fun Γ S Q=>te Γ S λd S1=>S1 P=some (.tb lp qual)/\∃(xs:List D) (kf:Nat->Int),d=.tup xs/\xs≠[]/\(∀(i:Nat) x,xs[i]?=some x->tb (some x::Γ) S1 λy S2=>y=.int (kf i)/\S2=S1)/\∀x,xs[cX (gB kf) (xs.length-1)]?=some x->Q x S1
theorem fQf{e body:Expr}{c cP P:Addr}{qual x z:Str}{scope:Scope}{p p0 lp kp:Pos}{te tb:ED}(hr:Room k X.A)(hg:Gl X "max")(hm:X.mg "max"=none)(T:TabF X.base X.mg cP P)(he:PD K X e te)
  (O:LamOk X x z scope c) (hb:∀s H L f c',PD K (dZg X s H (cQi scope L f c' z c qual) x) body tb) (hcode:X.env.code=.ref cP:=by rfl) (hq:X.env.qual ++ "<lambda>"=qual:=by rfl) (hcl:g6 scope X.env=pure [(z,c)]:=by rfl)
  (hbd:∀(c' f:Addr) (pm ctv v:ad),bindArgs (js "<lambda>" qual (bZb x p0) body scope [(z,c)] pm (.ref c') ctv) ⟨[v],[]⟩=pure [(x,v)]:=by intros;rfl) (hK:X.K=K:=by rfl) (hc:X.calm=true:=by rfl)
  (g1:cx pos (az [e] X.env)=[(false,eval e X.env)]:=by rfl) (g2:(iE pos (fR [⟨some "key",.Lambda (bZb x p0) body scope lp,kp⟩] X.env)).filterMap (·.1)=[("key":Str)]:=by rfl) :
  PD K X (.Call (.Name "max" p) [e] [⟨some "key",.Lambda (bZb x p0) body scope lp,kp⟩] pos) (fX0 P lp qual te tb) :=
 .of (eZ0 hr hg hm he.o hcode T hq O hcl hbd (λs H L f c'=>(hb s H L f c').o) hK hc g1 g2) fun σ H Q z0=>z0.el λF S Γ QD r g q c =>
  ⟨F,S,Γ,_,r,g,q,λv d H1 J x1 r1 v1 z1=>by
   obtain⟨hS,xs,kf,rfl,ne,turn,q1⟩:=z1;obtain⟨ps,hP,tb⟩:=r1.tb hS;refine⟨ps,hP,tb,λH2 gr=>?_⟩;obtain⟨U,r2⟩:=gr.ext r1 hS hP tb.1;have v2:=v1.ext U;unfold RepV at v2;obtain⟨a,us,rfl,ta,l⟩:=v2;have g2:=(g.ext x1).ext U;have c2:=Cn.shift c (x1.trans U);refine⟨a,us,kf,λB=>Ext J H2 J B/\Rp K F J B,rfl,λz=>ne (bX (by rw[<- l.length,z];rfl)),⟨Ext.refl _ _,r2⟩,?_,?_,?_,?_⟩
   ·rintro B ⟨j,D⟩;exact(ta.keep j.kp).sq
   ·rintro B c oc ps' ⟨j,D⟩ h1 h2 h3;obtain⟨ps2,e1,_,h⟩:=r2.obj P _ hS;rw[h1] at e1;cases e1;rcases h with h|⟨c1,oc1,e2,nm,e3,_⟩
    ·rw[h2] at h;cases h
    ·rw[h2] at e2;cases e2;refine j.keep c _ ?_ h3;cases e:J c with
     |none=>rfl
     |some o=>exact absurd (.inl (by rw[e];exact λz=>by cases z)) nm
   ·rintro B i u ⟨j,D⟩ Z;obtain⟨xd,N,Y⟩:=l.get' Z;exact⟨F,J,some xd::Γ,_,D,⟨u,σ,rfl,Y.ext j,g2.ext j⟩,turn i xd N,λv d H4 S4 x4 r4 v4 ⟨ed,es⟩=>by
     subst ed es;unfold RepV at v4;exact⟨v4,j.trans x4,r4⟩⟩
   ·rintro B u ⟨j,D⟩ Z;obtain⟨xd,N,Y⟩:=l.get' Z;rw[l.length] at N;exact(Cn.shift c2 j).here D (Y.ext j) (q1 xd N)⟩
end
end L2
namespace L2
open PySem
def chF:List (List Str)->List (List Str)->List (List Str)
 |acc,[]=>acc
 |acc,t::ts=>chF (if acc.any (λo=>mts t o)=true then acc else acc++[t]) ts
def chs(ts:List (List Str)):List (List Str):=chF [] ts
def hmh(ts:List (List Str))(n:Str):Nat:=(ts.filter λt=>decide (n∈t)).length
def mst(ts:List (List Str))(ns:List Str):Str:=ns.getD (cX (gB λi=>(hmh ts (ns.getD i ⟨#[]⟩):Int)) (ns.length-1)) ⟨#[]⟩
def nmW(ts:List (List Str)):Str:=mst ts (nms (chs ts))
def goW(m:Nat)(ts:List (List Str)):Bool:=decide ((chs ts).length<m)&&(chs ts).any λt=>!t.isEmpty
def wayS(m:Nat):Nat->List (List Str)->List (Nat×Str×Nat)×List (List Str)
 |0,ts=>([],ts)
 |f+1,ts=>if goW m ts=true then (((chs ts).length,nmW ts,ts.length)::(wayS m f (lnk ts [nmW ts])).1,(wayS m f (lnk ts [nmW ts])).2) else ([],ts)
def tkW(r:List (Nat×Str×Nat)×List (List Str)):List Str:=r.1.map λs=>s.2.1
def pag(cs:List (List Str))(tk:List Str):List (List Str):=srT (cs.map λt=>srS (t++tk))
def flW(m:Nat)(r:List (Nat×Str×Nat)×List (List Str)):Option (List (List Str)):=if (chs r.2).length<m then none else some (pag ((chs r.2).take m) (tkW r))
def stD(s:Nat×Str×Nat):D:=.tup [.int (s.1:Nat),.str s.2.1,.int (s.2.2:Nat)]
def laD(us:List (List Str)):D:=.tup [.int ((chs us).length:Nat),.non,.int (us.length:Nat)]
def trD(r:List (Nat×Str×Nat)×List (List Str)):D:=.tup (r.1.map stD++[laD r.2])
def opT:Option (List (List Str))->D
 |none=>.non
 |some l=>.tup (l.map tupS)
def wayD(m:Nat)(ts:List (List Str)):D:=.tup [opT (flW m (wayS m 6 ts)),trD (wayS m 6 ts)]
def Ap2(l:List (List Str)):Prop:=l.Pairwise λa b=>∀x∈a,x∉b
theorem bZc:∀(ts acc:List (List Str)),∃l,chF acc ts=acc++l/\l.Sublist ts
 |[],acc=>⟨[],(bB acc).symm,.slnil⟩
 |t::ts,acc=>by
  unfold chF
  split
  ·obtain⟨l,e,h⟩:=bZc ts acc;exact⟨l,e,h.cons t⟩
  ·obtain⟨l,e,h⟩:=bZc ts (acc++[t]);exact⟨t::l,by rw[e,aV];rfl,h.cons₂ t⟩
theorem aZv(ts:List (List Str)):(chs ts).Sublist ts:=by
 obtain⟨l,e,h⟩:=bZc ts [];unfold chs;rw[e];exact h
theorem cJp:∀(ts acc:List (List Str)),Ap2 acc->Ap2 (chF acc ts)
 |[],_,h=>h
 |t::ts,acc,h=>by
  unfold chF
  split
  ·exact cJp ts acc h
  ·next z =>
   refine cJp ts _ (a9.mpr ⟨h,cv _ _,λa B b j x v i=>z ?_⟩);rw[aU] at j;subst j;exact d3.mpr ⟨a,B,mts_iff.mpr ⟨x,v,i⟩⟩
theorem dXi(ts:List (List Str)):Ap2 (chs ts):=cJp ts [] .nil
theorem bJg:∀(ts acc:List (List Str)) (t:List Str),t∈ts->t∈chF acc ts\/∃o∈chF acc ts,∃x∈t,x∈o
 |t::ts,acc,u,v=>by
  unfold chF;have mono:∀i:List (List Str),∀o∈i,o∈chF i ts:=λi o z=>by
   obtain⟨l,e,_⟩:=bZc ts i;rw[e];exact cy _ z
  rcases aK.mp v with rfl|v
  ·split
   ·next h =>
    obtain⟨o,z,hm⟩:=d3.mp h;obtain⟨x,B,j⟩:=mts_iff.mp hm;exact .inr ⟨o,mono _ o z,x,j,B⟩
   ·exact .inl (mono _ u (a8 _ (aU.mpr rfl)))
  ·exact bJg ts _ u v
theorem eZ1{l:List (List Str)}(h:Ap2 l)(hs:∀t∈l,t.Nodup):l.flatten.Nodup:=by
 induction l with
 |nil=>exact eM
 |cons t l v =>
  have h':=bz.mp h;rw[io,eC];refine⟨hs t aq,v h'.2 λu j=>hs u (ay _ j),λx B y z e=>?_⟩;obtain⟨u,j,i⟩:=d4.mp z;exact h'.1 u j x B (e▸i)
theorem dZh{ts:List (List Str)}(he:∀t∈ts,Srt t):(chs ts).flatten.length<=(nms ts).length:=by
 have nd:=eZ1 (dXi ts) λt j=>(he t ((aZv ts).subset j)).nodup;refine nd.length_le_of_subset λx v=>?_;obtain⟨t,j,i⟩:=d4.mp v;exact mem_nms.mpr ⟨t,(aZv ts).subset j,i⟩
theorem bZd(bt:Nat->Nat->Bool):∀n,cX bt n<=n
 |0=>Nat.le_refl 0
 |n+1=>by
  have:=bZd bt n
  unfold cX
  split <;> omega
theorem eZ2{ts:List (List Str)}{ns:List Str}(h:ns≠[]):mst ts ns∈ns:=by
 have hl:0<ns.length:=dy.mpr h
 have:=bZd (gB λi=>(hmh ts (ns.getD i ⟨#[]⟩):Int)) (ns.length-1)
 unfold mst;rw[ah,ag (by omega)]
 exact db _
theorem cJq{m:Nat}{ts:List (List Str)}(h:goW m ts=true):nms (chs ts)≠[]:=by
 unfold goW at h;rw[a6] at h;obtain⟨t,i,hne⟩:=d3.mp h.2;cases t with
 |nil=>cases hne
 |cons x t =>
  intro e
  have:x∈nms (chs ts):=mem_nms.mpr ⟨_,i,aq⟩
  rw[e] at this;cases this
theorem eZ3{m:Nat}{ts:List (List Str)}(h:goW m ts=true):nmW ts∈nms ts:=by
 obtain⟨t,j,i⟩:=mem_nms.mp (eZ2 (ts:=ts) (cJq h));exact mem_nms.mpr ⟨t,(aZv ts).subset j,i⟩
structure Wc(k:Nat)(ts:List (List Str)):Prop where
 srt:SrtT ts
 each:∀t∈ts,Srt t/\t.length<=k
 len:ts.length<=130
 nms:(nms ts).length<=60
theorem cQj{t:List Str}(h:Srt t)(r:List Str):Srt (wo t r):=h.filter _
theorem eZ4{ts:List (List Str)}{n:Str}(nd:ts.Nodup)(hs:∀t∈ts,Srt t):((ts.filter λt=>has t [n]).map λt=>wo t [n]).Nodup:=by
 unfold fL;rw[cV];refine cg ?_ (nd.filter _);intro a b D z j e;obtain⟨D,B⟩:=bH.mp D;obtain⟨z,v⟩:=bH.mp z;refine j ((hs a D).ext (hs b z) λy=>?_)
 by_cases i:y∈[n]
 ·exact⟨λ_=>has_iff.mp v y i,λ_=>has_iff.mp B y i⟩
 ·have:=mem_wo (one:=a) (row:=[n]) (x:=y)
  rw[e,mem_wo] at this;exact⟨λh=>(this.mpr ⟨h,i⟩).1,λh=>(this.mp ⟨h,i⟩).1⟩
theorem mem_lnk{ts:List (List Str)}{r u:List Str}:u∈lnk ts r↔∃t∈ts,has t r=true/\wo t r=u:=by
 unfold lnk;rw[bJe,bI];exact⟨λ⟨t,h,e⟩=>⟨t,(bH.mp h).1,(bH.mp h).2,e⟩,λ⟨t,h1,h2,e⟩=>⟨t,bH.mpr ⟨h1,h2⟩,e⟩⟩
theorem has1{t:List Str}{n:Str}:has t [n]=true↔n∈t:=by rw[has_iff];simp
theorem dXj{t:List Str}{n:Str}(h:n∈t)(nd:t.Nodup):(wo t [n]).length+1=t.length:=by
 have e:wo t [n]=t.erase n:=by
  rw[nd.erase_eq_filter];unfold wo;refine iq λx _=>?_
  by_cases i:x=n
  ·subst i;simp
  ·simp[i]
 rw[e,List.length_erase_of_mem h]
 have:=List.length_pos_of_mem h
 omega
theorem Wc.link{k:Nat}{ts:List (List Str)}(h:Wc (k+1) ts)(n:Str):Wc k (lnk ts [n]) where
 srt:=aJy (eZ4 h.srt.nodup λt i=>(h.each t i).1)
 each:=λu v=>by
  obtain⟨t,i,z,rfl⟩:=mem_lnk.mp v;refine⟨cQj (h.each t i).1 _,?_⟩
  have:=dXj (has1.mp z) (h.each t i).1.nodup
  have:=(h.each t i).2
  omega
 len:=by
  unfold lnk;rw[(aZl _).length_eq,am];exact Nat.le_trans (List.length_filter_le _ _) h.len
 nms:=Nat.le_trans ((bZa _).nodup.length_le_of_subset λx B=>by
  obtain⟨u,v,j⟩:=mem_nms.mp B;obtain⟨t,i,z,rfl⟩:=mem_lnk.mp v;exact mem_nms.mpr ⟨t,i,(mem_wo.mp j).1⟩) h.nms
theorem cJr{m:Nat}{ts:List (List Str)}(h:Wc 0 ts):goW m ts=false:=by
 unfold goW;rw[Bool.and_eq_false_iff];refine .inr (List.any_eq_false.mpr λt i=>?_)
 have:=(h.each t ((aZv ts).subset i)).2
 rw[eN.mp (show t.length=0 by omega)];simp
theorem bX9{m:Nat}:∀(k f:Nat) {ts:List (List Str)},Wc k ts->k<=f->wayS m f ts=wayS m k ts
 |0,0,_,_,_=>rfl
 |0,f+1,ts,h,_=>by
  show(if goW m ts=true then _ else _)=([],ts)
  rw[cJr h];rfl
 |k+1,f+1,ts,h,i=>by
  show(if goW m ts=true then _ else _)=(if goW m ts=true then _ else _)
  rw[bX9 k f (h.link (nmW ts)) (by omega)]
theorem aXc{m f:Nat}{ts:List (List Str)}(h:goW m ts=false):wayS m f ts=([],ts):=by
 cases f with
 |zero=>rfl
 |succ f=>show(if goW m ts=true then _ else _)=_;rw[h];rfl
theorem bZe{m f:Nat}{ts:List (List Str)}(h:goW m ts=true):wayS m (f+1) ts=(((chs ts).length,nmW ts,ts.length)::(wayS m f (lnk ts [nmW ts])).1,(wayS m f (lnk ts [nmW ts])).2):=by
 show(if goW m ts=true then _ else _)=_
 rw[h];rfl
theorem eZ5{α:Type}{i:Nat}{te:ED}{Γ0:Gm}{S:Sto}{G:Sto->Prop}{Q:List D->Sto->Prop}{enc:α->D}{f:α->D}{xs:List α}{acc:List D}(hG:G S)(h:∀x∈xs,∀Q:DK,Q (f x) S->te (Γ0.set i (some (enc x))) S Q)(hn:acc.length+xs.length<=sizeLine)
  (q:Q (acc++xs.map f) S):aZ2 (aQu i) dYes (aJ4 te) G Γ0 (xs.map enc) acc S Q:=by
 induction xs generalizing acc with
 |nil=>exact⟨hG,by simpa using q⟩
 |cons x xs v =>
  refine⟨hG,?_⟩;show aJ4 te (Γ0.set i (some (enc x))) S acc (λj B=>aZ2 (aQu i) dYes (aJ4 te) G Γ0 (xs.map enc) j B Q);rw[bG] at hn;refine h x aq _ ⟨by omega,v (λy z=>h y (ay _ z)) (by simp;omega) (by simpa using q)⟩
theorem eZ6{S:Sto}{b:Bool}{k:Bool->Prop}(h:k b):truD S (.bl b) k:=h
theorem eZ7{b:Bool}{A B:Prop}(h:b=true->A)(h':b=false->B):if b=true then A else B:=by
 cases b with
 |true=>rw[if_pos rfl];exact h rfl
 |false=>rw[if_neg (by simp)];exact h' rfl
theorem nilE(l:List D):okE 9 (.lst l) (.lst [])=true:=by
 show(l.zip []).all _=true;rw[hJ];rfl
open PySem.Spec PyProof.Rows
section
variable{X:Cx}{pins:List (Addr×Obj)}{σ:St}{H:Hp}{s:ak}{M:Am}
open PySem.W in
open PySem.W in
open PySem.W in
open PySem.W in
open PySem.W in
open PySem.W in
end
section
variable{X:Cx}{K:Fg}{pos:Pos}{k:Nat}
open Classical in
end
end L2
namespace L2
open PySem
theorem cQk(kf:Nat->Int):∀n j,j<=n->kf j<=kf (cX (gB kf) n)/\(j<cX (gB kf) n->kf j<kf (cX (gB kf) n))
 |0,j,z=>by
  have:j=0:=by omega
  subst this;exact⟨Int.le_refl _,λh=>absurd h (Nat.lt_irrefl _)⟩
 |n+1,j,z=>by
  have v:=cQk kf n;have hl:=bZd (gB kf) n;cases e:decide (kf (n+1)>kf (cX (gB kf) n)) with
  |true =>
   have i:cX (gB kf) (n+1)=n+1:=by simp only[cX,gB,e,if_true]
   rw[i];have e:=of_decide_eq_true e
   by_cases h:j=n+1
   ·subst h;exact⟨Int.le_refl _,λh=>absurd h (Nat.lt_irrefl _)⟩
   ·have:=(v j (by omega)).1
    exact⟨by omega,λ_=>by omega⟩
  |false =>
   have i:cX (gB kf) (n+1)=cX (gB kf) n:=by simp only[cX,gB,e,aN,if_false]
   rw[i];have e:=of_decide_eq_false e
   by_cases h:j=n+1
   ·subst h;exact⟨by omega,λh=>by omega⟩
   ·exact v j (by omega)
theorem dZi{ts:List (List Str)}{ns:List Str}(hs:Srt ns){y:Str}(hy:y∈ns):hmh ts y<=hmh ts (mst ts ns)/\(hmh ts y=hmh ts (mst ts ns)->y=mst ts ns\/HT.ltS (mst ts ns) y=true):=by
 obtain⟨j,z,rfl⟩:=be hy;have D:=bZd (gB λi=>(hmh ts (ns.getD i ⟨#[]⟩):Int)) (ns.length-1);have hm:=cQk (λi=>(hmh ts (ns.getD i ⟨#[]⟩):Int)) (ns.length-1) j (by omega)
 have J:ns.getD j ⟨#[]⟩=ns[j]:=by rw[ah,ag z];rfl
 unfold mst;generalize cX (gB λi=>(hmh ts (ns.getD i ⟨#[]⟩):Int)) (ns.length-1)=b at D hm;have v:b<ns.length:=by omega
 have B:ns.getD b ⟨#[]⟩=ns[b]:=by rw[ah,ag v];rfl
 rw[J,B] at hm;rw[B];refine⟨by omega,λe=>?_⟩
 rcases Nat.lt_trichotomy j b with h|h|h
 ·have:=hm.2 h;omega
 ·subst h;exact .inl rfl
 ·exact .inr (bE.mp hs b j v z h)
abbrev Kps(S0 S:Sto):Prop:=∀b o,S0 b=some o->S b=some o
theorem Kps.non{S0 S:Sto}(h:Kps S0 S){p:Addr}(hp:S p=none):S0 p=none:=by
 cases e:S0 p with
 |none=>rfl
 |some o=>rw[h _ _ e] at hp;cases hp
theorem Kps.set{S0 S:Sto}(h:Kps S0 S){p:Addr}(hp:S0 p=none)(x:DO):Kps S0 (supd S p x):=λb o e=>by
 rw[aQ8 (by rintro rfl;rw[hp] at e;cases e)];exact h b o e
theorem Kps.new{S0 S:Sto}(h:Kps S0 S){p:Addr}(hp:S p=none)(x:DO):Kps S0 (supd S p x):=h.set (h.non hp) x
open Toy
theorem mem_lnk_row{ts:List (List Str)}{T u:List Str}:u∈lnk ts T↔∃t∈ts,(∀x∈T,x∈t)/\wo t T=u:=by
 rw[mem_lnk];exact⟨λ⟨t,h1,h2,i⟩=>⟨t,h1,has_iff.mp h2,i⟩,λ⟨t,h1,h2,i⟩=>⟨t,h1,has_iff.mpr h2,i⟩⟩
theorem eZ8{ts:List (List Str)}{T:List Str}(nd:ts.Nodup)(hs:∀t∈ts,Srt t):((ts.filter λt=>has t T).map λt=>wo t T).Nodup:=by
 unfold fL;rw[cV];refine cg ?_ (nd.filter _);intro a b D z j e;obtain⟨D,B⟩:=bH.mp D;obtain⟨z,v⟩:=bH.mp z;refine j ((hs a D).ext (hs b z) λn=>?_)
 by_cases i:n∈T
 ·exact⟨λ_=>has_iff.mp v n i,λ_=>has_iff.mp B n i⟩
 ·have:=mem_wo (one:=a) (row:=T) (x:=n)
  rw[e,mem_wo] at this;exact⟨λh=>(this.mpr ⟨h,i⟩).1,λh=>(this.mp ⟨h,i⟩).1⟩
theorem aXd{ts:List (List Str)}{T:List Str}(nd:ts.Nodup)(hs:∀t∈ts,Srt t):SrtT (lnk ts T):=aJy (eZ8 nd hs)
theorem cQl(ts:List (List Str))(T:List Str):(lnk ts T).length=(ts.filter λt=>has t T).length:=by
 unfold lnk;rw[(aZl _).length_eq,am]
theorem eZ9{ts:List (List Str)}(hs:SrtT ts):lnk ts []=ts:=by
 unfold lnk;have v:(ts.filter λt=>has t [])=ts:=List.filter_eq_self.mpr λt _=>rfl;have j:((ts.filter λt=>has t []).map λt=>wo t [])=ts:=by
  rw[v];have i:∀t:List Str,wo t []=t:=λt=>List.filter_eq_self.mpr λx _=>by simp
  conv=>rhs;rw[<- List.map_id ts]
  exact eH λt _=>i t
 rw[j,dXh hs]
theorem wo_wo1{t T:List Str}{n:Str}:wo (wo t T) [n]=wo t (T++[n]):=by
 unfold wo;rw[List.filter_filter];refine iq λx _=>?_
 by_cases h1:x=n <;> by_cases h2:x∈T <;> simp[h1,h2]
theorem dZj{ts:List (List Str)}{T:List Str}{n:Str}(nd:ts.Nodup)(hs:∀t∈ts,Srt t)(hn:n∉T):lnk (lnk ts T) [n]=lnk ts (T++[n]):=by
 have s1:=aXd (T:=T) nd hs;have B:∀u∈lnk ts T,Srt u:=λu L=>by
  obtain⟨t,j,_,rfl⟩:=mem_lnk_row.mp L;exact cQj (hs t j) _
 refine(aXd s1.nodup B).ext (aXd nd hs) λu=>?_;rw[mem_lnk_row,mem_lnk_row];constructor
 ·rintro⟨v,J,D,rfl⟩;obtain⟨t,j,z,rfl⟩:=mem_lnk_row.mp J;refine⟨t,j,λx i=>?_,wo_wo1.symm⟩;rcases aP.mp i with h|h
  ·exact z x h
  ·rw[aU.mp h];exact(mem_wo.mp (D n (aU.mpr rfl))).1
 ·rintro⟨t,j,z,rfl⟩;refine⟨wo t T,mem_lnk_row.mpr ⟨t,j,λx i=>z x (cy _ i),rfl⟩,λx i=>?_,wo_wo1⟩;rw[aU.mp i];exact mem_wo.mpr ⟨z n (a8 _ (aU.mpr rfl)),hn⟩
theorem eZa{m:Nat}{ts:List (List Str)}{T:List Str}(g:goW m (lnk ts T)=true):nmW (lnk ts T)∉T:=by
 obtain⟨u,j,i⟩:=mem_nms.mp (eZ3 g);obtain⟨t,v,_,rfl⟩:=mem_lnk_row.mp j;exact(mem_wo.mp i).2
theorem dXk{m:Nat}{ts:List (List Str)}(nd:ts.Nodup)(hs:∀t∈ts,Srt t):∀(f:Nat) (T:List Str),T.Nodup->(T++tkW (wayS m f (lnk ts T))).Nodup/\(wayS m f (lnk ts T)).2=lnk ts (T++tkW (wayS m f (lnk ts T))) /\
  ∀(i:Nat) s,(wayS m f (lnk ts T)).1[i]?=some s->s.1<m/\s.2.2=(ts.filter λt=>has t (T++(tkW (wayS m f (lnk ts T))).take i)).length/\(tkW (wayS m f (lnk ts T)))[i]?=some s.2.1
 |0,T,j=>⟨by show(T++[]).Nodup;rw[bB];exact j,by show lnk ts T=lnk ts (T++[]);rw[bB],λi s h=>by cases h⟩
 |f+1,T,j=>by
  cases g:goW m (lnk ts T) with
  |false =>
   rw[aXc g];exact⟨by show(T++[]).Nodup;rw[bB];exact j,by show lnk ts T=lnk ts (T++[]);rw[bB],λi s h=>by cases h⟩
  |true =>
   have B:=eZa g;have v:(T++[nmW (lnk ts T)]).Nodup:=eC.mpr ⟨j,by simp,λa J b D e=>by rw[aU] at D;subst D;subst e;exact B J⟩
   obtain⟨h1,h2,L⟩:=dXk (m:=m) nd hs f (T++[nmW (lnk ts T)]) v;rw[bZe g];rw[dZj nd hs B];have N:m>(chs (lnk ts T)).length:=by
    unfold goW at g;rw[a6] at g;exact of_decide_eq_true g.1
   generalize nmW (lnk ts T)=n at *
   have O:tkW (((chs (lnk ts T)).length,n,(lnk ts T).length)::(wayS m f (lnk ts (T++[n]))).1,(wayS m f (lnk ts (T++[n]))).2)=n::tkW (wayS m f (lnk ts (T++[n]))):=rfl;rw[O];have z:∀l:List Str,T++n::l=T++[n]++l:=λl=>by simp
   refine⟨by rw[z];exact h1,h2.trans (by rw[z (tkW (wayS m f (lnk ts (T++[n]))))]),λi s h=>?_⟩
   cases i with
   |zero =>
    cases h;refine⟨N,?_,rfl⟩;rw[jp,bB];exact cQl ts T
   |succ i =>
    have:=L i s h
    refine⟨this.1,?_,this.2.2⟩;rw[List.take_succ_cons,z];exact this.2.1
theorem cQm{m:Nat}{ts:List (List Str)}(hs:SrtT ts)(he:∀t∈ts,Srt t)(f:Nat):(tkW (wayS m f ts)).Nodup/\(wayS m f ts).2=lnk ts (tkW (wayS m f ts)) /\
  ∀(i:Nat) s,(wayS m f ts).1[i]?=some s->s.1<m/\s.2.2=(ts.filter λt=>has t ((tkW (wayS m f ts)).take i)).length/\(tkW (wayS m f ts))[i]?=some s.2.1:=by
 have:=dXk (m:=m) hs.nodup he f [] eM
 rw[eZ9 hs] at this;exact this
theorem bZf{t T:List Str}(ht:Srt t)(hT:T.Nodup)(h:∀x∈T,x∈t):srS (wo t T++T)=t:=by
 refine Srt.ext (bJc (eC.mpr ⟨(cQj ht _).nodup,hT,λa v b j e=>(mem_wo.mp v).2 (e▸j)⟩)) ht λx=>?_;rw[bJd,aP,mem_wo];constructor
 ·rintro(h1|h1)
  ·exact h1.1
  ·exact h x h1
 ·intro i
  by_cases h1:x∈T
  ·exact .inr h1
  ·exact .inl ⟨i,h1⟩
structure Pg(ts cs:List (List Str))(T:List Str):Prop where
 nd:T.Nodup
 sub:cs.Sublist (lnk ts T)
 ap:Ap2 cs
section
variable{ts cs:List (List Str)}{T:List Str}
theorem Pg.src(h:Pg ts cs T)(hs:∀t∈ts,Srt t){u:List Str}(hu:u∈cs):∃t∈ts,(∀x∈T,x∈t)/\wo t T=u/\srS (u++T)=t:=by
 obtain⟨t,i,j,rfl⟩:=mem_lnk_row.mp (h.sub.subset hu);exact⟨t,i,j,rfl,bZf (hs t i) h.nd j⟩
theorem Pg.mem(h:Pg ts cs T)(hs:∀t∈ts,Srt t){t:List Str}(ht:t∈pag cs T):t∈ts/\(∀x∈T,x∈t)/\wo t T∈cs:=by
 unfold pag at ht;rw[bJe,bI] at ht;obtain⟨u,i,rfl⟩:=ht;obtain⟨t,h1,h2,v,j⟩:=h.src hs i;rw[j];exact⟨h1,h2,v▸i⟩
theorem Pg.nodup(h:Pg ts cs T)(nd:ts.Nodup)(hs:∀t∈ts,Srt t):(cs.map λu=>srS (u++T)).Nodup:=by
 have i:cs.Nodup:=(aXd (T:=T) nd hs).nodup.sublist h.sub;unfold fL;rw[cV];refine cg ?_ i;intro a b D B j e;obtain⟨t,_,_,L,J⟩:=h.src hs D;obtain⟨N,_,_,z,v⟩:=h.src hs B;rw[J,v] at e;exact j (by rw[<- L,<- z,e])
theorem bJh(cs:List (List Str))(T:List Str):(pag cs T).length=cs.length:=by
 unfold pag;rw[(aZl _).length_eq,am]
theorem Pg.srt(h:Pg ts cs T)(nd:ts.Nodup)(hs:∀t∈ts,Srt t):SrtT (pag cs T):=aJy (h.nodup nd hs)
theorem Pg.core(h:Pg ts cs T)(nd:ts.Nodup)(hs:∀t∈ts,Srt t)(h2:2<=cs.length):coG (pag cs T)=some (srS T):=by
 have sp:=h.srt nd hs;refine(fQd (by rw[bJh];exact h2) sp.nodup λt U=>hs t (h.mem hs U).1).mpr ?_
 refine cg ?_ sp.nodup;intro a b Z Y D;obtain⟨a1,a2,a3⟩:=h.mem hs Z;obtain⟨b1,O,b3⟩:=h.mem hs Y;have hw:wo a T≠wo b T:=λe=>D (by rw[<- bZf (hs a a1) h.nd a2,<- bZf (hs b b1) h.nd O,e])
 have ap:∀x∈wo a T,x∉wo b T:=by
  have:=h.ap
  obtain⟨i,hi,L⟩:=be a3;obtain⟨j,N,J⟩:=be b3;rcases Nat.lt_trichotomy i j with z|z|z
  ·have:=bE.mp this i j hi N z
   rw[L,J] at this;exact this
  ·subst z;exact absurd (L.symm.trans J) hw
  ·have:=bE.mp this j i N hi z
   rw[L,J] at this;exact λx v B=>this x B v
 refine Srt.ext ((hs a a1).filter _) (bJc h.nd) λx=>?_;show x∈meG a b↔_;rw[mem_me,bJd];refine⟨λ⟨h1,h2⟩=>?_,λv=>⟨a2 x v,O x v⟩⟩
 by_cases v:x∈T
 ·exact v
 ·exact absurd (mem_wo.mpr ⟨h2,v⟩) (ap x (mem_wo.mpr ⟨h1,v⟩))
end
theorem fQg{m f:Nat}{ts:List (List Str)}(hs:SrtT ts)(he:∀t∈ts,Srt t):Pg ts ((chs (wayS m f ts).2).take m) (tkW (wayS m f ts)):=by
 obtain⟨h1,h2,_⟩:=cQm (m:=m) hs he f;refine⟨h1,?_,(dXi _).sublist (dj _ _)⟩;rw[<- h2];exact(dj _ _).trans (aZv _)
theorem fQh(xs:List D)(x:D):cutD (xs++[x]) none (some (-1))=xs:=by
 unfold cutD;have j:HT.sIx (xs++[x]).length 0 none=0:=rfl;have i:HT.sIx (xs++[x]).length (xs++[x]).length (some (-1))=xs.length:=by
  rw[aA];show(if (-1:Int)<0 then ((-1:Int)+((xs.length+1:Nat):Int)).toNat else min ((-1:Int).toNat) (xs.length+1))=_
  rw[if_pos (by decide)]
  omega
 rw[j,i,f7,Nat.sub_zero,List.take_left]
theorem bJi{m:Nat}:∀(f:Nat) (ts:List (List Str)),(wayS m f ts).1.length<=f
 |0,_=>Nat.le_refl 0
 |f+1,ts=>by
  cases g:goW m ts with
  |false=>rw[aXc g];exact Nat.zero_le _
  |true=>rw[bZe g];exact Nat.succ_le_succ (bJi f _)
theorem eZb{ts:List (List Str)}(h:∀t∈ts,t≠[])(ne:ts≠[]):∃u∈chs ts,u≠[]:=by
 cases ts with
 |nil=>exact absurd rfl ne
 |cons t ts =>
  rcases bJg (t::ts) [] t aq with z|⟨o,j,x,v,i⟩
  ·exact⟨t,z,h t aq⟩
  ·exact⟨o,j,List.ne_nil_of_mem i⟩
theorem cJs{m:Nat}(m2:2<=m):∀(k:Nat) (ts:List (List Str)),SrtT ts->(∀t∈ts,Srt t/\t.length=k)->fac k*(m-1)^k<ts.length->m<=(chs (wayS m k ts).2).length
 |0,ts,B,he,hl=>by
  exfalso
  have:ts.length<=[([]:List Str)].length:=B.nodup.length_le_of_subset λt i=>by rw[eN.mp (he t i).2];exact aq
  have e:fac 0*(m-1)^0=1:=by rw[Nat.pow_zero];rfl
  rw[e] at hl
  have:ts.length<=1:=this
  omega
 |k+1,ts,B,he,hl=>by
  have es:=λt i=>(he t i).1;have nn:∀t∈ts,t≠[]:=λt i z=>by have:=(he t i).2;rw[z] at this;cases this
  have ne:ts≠[]:=λz=>by rw[z] at hl;exact absurd hl (Nat.not_lt_zero _)
  cases g:goW m ts with
  |false =>
   rw[aXc g];refine Nat.le_of_not_lt λz=>?_;obtain⟨u,v,N⟩:=eZb nn ne
   have:goW m ts=true:=by
    unfold goW;rw[decide_eq_true z,iy,d3];exact⟨u,v,by cases u with|nil=>exact absurd rfl N|cons _ _=>rfl⟩
   rw[this] at g;cases g
  |true =>
   rw[bZe g];have cm:(chs ts).length<m:=by
    unfold goW at g;rw[a6] at g;exact of_decide_eq_true g.1
   refine cJs m2 k _ (aXd B.nodup es) (λu v=>?_) ?_
   ·obtain⟨t,i,N,rfl⟩:=mem_lnk_row.mp v
    have:=dXj (N _ (aU.mpr rfl)) (es t i).nodup
    exact⟨cQj (es t i) _,by rw[(he t i).2] at this;omega⟩
   ·rw[cQl];refine Nat.lt_of_not_le λw=>?_;have Y:(ts.filter λt=>has t [nmW ts])=ts.filter λt=>decide (nmW ts∈t):=iq λt _=>by
     rw[jd,has1,decide_eq_true_eq]
    rw[Y] at w;have each:∀x∈(chs ts).flatten,(ts.filter λt=>decide (x∈t)).length<=fac k*(m-1)^k:=λx j=>by
     obtain⟨u,v,D⟩:=d4.mp j
     have:=(dZi (ts:=ts) (bZa (chs ts)) (mem_nms.mpr ⟨u,v,D⟩)).1
     exact Nat.le_trans this w
    have hit:∀t∈ts,∃x∈(chs ts).flatten,x∈t:=λt i=>by
     rcases bJg ts [] t i with z|⟨o,U,x,j,L⟩
     ·obtain⟨x,j⟩:=List.exists_mem_of_ne_nil _ (nn t i);exact⟨x,d4.mpr ⟨t,z,j⟩,j⟩
     ·exact⟨x,d4.mpr ⟨o,U,L⟩,j⟩
    have fl:(chs ts).flatten.length=(chs ts).length*(k+1):=by
     have:∀l:List (List Str),(∀d∈l,d.length=k+1)->l.flatten.length=l.length*(k+1):=λl=>by
      induction l with
      |nil=>intro _;simp
      |cons a l O =>
       intro h;rw[io,aA,O λd hd=>h d (ay _ hd),h a aq,bG,Nat.succ_mul];omega
     exact this _ λd hd=>(he d ((aZv ts).subset hd)).2
    have h1:=B.nodup.length_le_of_subset (l₂:=(chs ts).flatten.flatMap λx=>ts.filter λt=>decide (x∈t)) λt i=>by
     obtain⟨x,j,J⟩:=hit t i;exact List.mem_flatMap.mpr ⟨x,j,bH.mpr ⟨i,decide_eq_true J⟩⟩
    have h2:=bJf each;rw[fl] at h2;have Z:(chs ts).length*(k+1)*(fac k*(m-1)^k)<=(m-1)*(k+1)*(fac k*(m-1)^k):=Nat.mul_le_mul_right _ (Nat.mul_le_mul_right _ (by omega))
    have e:(m-1)*(k+1)*(fac k*(m-1)^k)=fac (k+1)*(m-1)^(k+1):=by
     show _=((k+1)*fac k)*(m-1)^(k+1);rw[Nat.pow_succ,Nat.mul_comm (m-1) (k+1),Nat.mul_assoc,Nat.mul_assoc,Nat.mul_left_comm (m-1),Nat.mul_comm ((m-1)^k) (m-1)]
    omega
def seqK(n:Nat):Nat->List Nat
 |0=>[0]
 |k+1=>(seqK n k).flatMap λb=>(a7 (n-b)).map λi=>b+i+1
def stR{α:Type}(d:α)(xs:List α)(p:List α×Nat):List (List α×Nat):=(a7 (xs.length-p.2)).map λi=>(p.1++[xs.getD (p.2+i) d],p.2+i+1)
def allR{α:Type}(d:α)(xs:List α):Nat->List (List α×Nat)
 |0=>[([],0)]
 |k+1=>(allR d xs k).flatMap (stR d xs)
section
variable{α:Type}(d:α)(xs:List α)
theorem cQn:∀k,(allR d xs k).map Prod.snd=seqK xs.length k
 |0=>rfl
 |k+1=>by
  show((allR d xs k).flatMap (stR d xs)).map Prod.snd=(seqK xs.length k).flatMap _;rw[<- cQn k,List.map_flatMap,List.flatMap_map]
  congr 1
  funext p;unfold stR;rw[bW];rfl
theorem aJb(k:Nat):(allR d xs k).length=(seqK xs.length k).length:=by rw[<- cQn d xs k,am]
theorem cQo{β:Type}(f:α->β):∀k,allR (f d) (xs.map f) k=(allR d xs k).map λp=>(p.1.map f,p.2)
 |0=>rfl
 |k+1=>by
  show(allR (f d) (xs.map f) k).flatMap _=((allR d xs k).flatMap _).map _;rw[cQo f k,List.flatMap_map,List.map_flatMap]
  congr 1
  funext p;unfold stR;rw[bW,am];refine eH λi _=>?_;show(p.1.map f++[(xs.map f).getD (p.2+i) (f d)],p.2+i+1)=((p.1++[xs.getD (p.2+i) d]).map f,p.2+i+1);rw[cu]
  congr 2
  rw[ah,ah,aJ];cases xs[p.2+i]? <;> rfl
theorem bZg:∀k,∀p∈allR d xs k,p.1.length=k/\p.2<=xs.length/\p.1.Sublist (xs.take p.2)
 |0,p,h=>by rw[aU.mp h];exact⟨rfl,Nat.zero_le _,List.nil_sublist _⟩
 |k+1,p,h=>by
  obtain⟨q,v,z⟩:=List.mem_flatMap.mp h;obtain⟨i,hi,rfl⟩:=bI.mp z;have hi:=aZ.mp hi;obtain⟨h1,h2,B⟩:=bZg k q v;have j:q.2+i<xs.length:=by omega
  refine⟨by rw[aA,h1];rfl,by show q.2+i+1<=_;omega,?_⟩
  show(q.1++[xs.getD (q.2+i) d]).Sublist (xs.take (q.2+i+1));rw[bT,ah,ag j];exact jx (B.trans (List.take_sublist_take_left (by omega))) (jF _)
theorem cJt(nd:xs.Nodup):∀k,((allR d xs k).map Prod.fst).Nodup
 |0=>by show [[]].Nodup;simp
 |k+1=>by
  have v:=cJt nd k;unfold fL at v ⊢;rw[cV] at v ⊢;show((allR d xs k).flatMap _).Pairwise _;rw[List.pairwise_flatMap];refine⟨λp L=>?_,?_⟩
  ·unfold stR;rw[cV];refine cg ?_ (ga (n:=xs.length-p.2));intro i j hi z J e;have hi:=aZ.mp hi;have z:=aZ.mp z;have e:p.1++[xs.getD (p.2+i) d]=p.1++[xs.getD (p.2+j) d]:=e
   have:=List.append_cancel_left e
   rw[ah,ah,ag (show p.2+i<xs.length by omega),ag (show p.2+j<xs.length by omega)] at this
   have:=(List.getElem_inj nd).mp (List.cons.inj this).1
   omega
  ·refine jB.imp (λ{p q} ne x D y B e=>?_) v;obtain⟨i,_,rfl⟩:=bI.mp D;obtain⟨j,_,rfl⟩:=bI.mp B;exact ne (List.append_inj_left' e rfl)
end
theorem bJj(n:Nat):∀k,(seqK n k).length<=n^k
 |0=>by rw[Nat.pow_zero];exact Nat.le_refl 1
 |k+1=>by
  show((seqK n k).flatMap _).length<=_;rw[Nat.pow_succ];refine Nat.le_trans (bJf (n:=n) λb _=>by rw[am,b9];omega) (Nat.mul_le_mul_right _ (bJj n k))
def kms:List (Nat×Nat):=[(1,6),(2,2),(2,3),(2,4),(2,6),(3,2),(3,3),(4,2),(1,2),(2,5)]
theorem eZc:∀p∈kms,fac p.1*(p.2-1)^p.1+3<(seqK 11 p.1).length:=by decide +kernel
theorem dXl:∀p∈kms,1<=p.1/\p.1<=4/\2<=p.2/\p.2<=6/\fac p.1*(p.2-1)^p.1<=50:=by decide +kernel
theorem dZk:∀k,k<5->∀n,n<17->(seqK n k).length<=(seqK (n+1) k).length:=by decide +kernel
theorem bJk{k:Nat}(hk:k<=4){n:Nat}:∀{n':Nat},n<=n'->n'<=17->(seqK n k).length<=(seqK n' k).length
 |0,h,_=>by rw[show n=0 by omega];exact Nat.le_refl _
 |n'+1,h,i=>by
  by_cases e:n=n'+1
  ·rw[e];exact Nat.le_refl _
  ·exact Nat.le_trans (bJk hk (by omega) (by omega)) (dZk k (by omega) n' (by omega))
theorem eZd:∀k,k<=4->(seqK 17 k).length<=2380:=by
 have:∀k,k<5->(seqK 17 k).length<=2380:=by decide +kernel
 exact λk h=>this k (by omega)
theorem bXa{α:Type}(d d':α)(xs:List α):∀k,allR d xs k=allR d' xs k
 |0=>rfl
 |k+1=>by
  show(allR d xs k).flatMap _=(allR d' xs k).flatMap _;rw[bXa d d' xs k]
  congr 1
  funext p;refine eH λi hi=>?_;have hi:=aZ.mp hi;rw[ah,ah,ag (show p.2+i<xs.length by omega)];rfl
def bXb(names:List Str)(k:Nat):List (List Str):=(allR ⟨#[]⟩ names k).map Prod.fst
theorem eZe(names:List Str)(k:Nat):(allR D.non (names.map D.str) k).map (λq=>D.tup q.1)=(bXb names k).map tupS:=by
 rw[bXa D.non (D.str ⟨#[]⟩),cQo];unfold bXb;rw[bW,bW];rfl
theorem aJz(names:List Str)(k:Nat):(bXb names k).length=(seqK names.length k).length:=by
 unfold bXb;rw[am,aJb]
theorem cJu{names:List Str}{k:Nat}(hn:Srt names){t:List Str}(h:t∈bXb names k):Srt t/\t.length=k/\∀x∈t,x∈names:=by
 obtain⟨p,j,rfl⟩:=bI.mp h;obtain⟨h1,_,v⟩:=bZg _ names k p j
 have:=v.trans (dj _ _)
 exact⟨jB.sublist this hn,h1,λx i=>this.subset i⟩
def unT1:D->List Str
 |.tup xs=>xs.map dStr'
 |_=>[]
theorem dZl(t:List Str):unT1 (tupS t)=t:=by
 show(t.map D.str).map dStr'=t;rw[bW]
 conv=>rhs;rw[<- List.map_id t]
 rfl
end L2
namespace Toy
open PySem L2
abbrev s_law_all:Stmt:=top 21
theorem sc_law_all:FnScope ["names", "k", "found", "turn", "longer", "row", "begin"] ["names", "k"] (aQ3 s_law_all):=fsc
def aXz:SpD:=λds S Q=>∃(d:D) (xs:List D) (k:Nat),ds=[d,.int k]/\fzIs d xs/\xs.length<=24/\k<=4/\∀p,S p=none->Q (.ref p) (supd S p (.lst ((allR .non xs k).map λq=>.tup q.1)))
section
variable{P:aF}{w:aS}{K:au}{mg:Str->Option ad}{base:bd}{pt cc:Addr}
theorem cZc(T:Tx K mg "_law_all" s_law_all)(B:Bs mg):Df P w K mg base 1 "_law_all" ["names", "k"] (spU K aXz):=by
 refine aZu T sc_law_all (λF=>F.binds λ_ _ _ _ _ _=>us2 λ_ _=>rfl) ?_ λf cdv A outer s H E hr=>⟨_,(aQ2 (aQe (i:=2) sc_law_all.nd rfl (bA rfl) (bQ4 (b:=true) (aQ0 (aZb (aQ0 (aZb aQ1) (aQ0 aQ4 aQ1))) aQ1)))
  (aQ2 (aJt dE rfl (aZg rfl B.range (aQ0 (dv 1) aQ1)) (aZ1 (i:=3) sc_law_all.nd rfl (bA rfl)) (aQ2 (aQe (i:=4) sc_law_all.nd rfl (bA rfl) (bQ4 (b:=true) aQ1))
  (aQ2 (aJt dE rfl (aZo (dv 2)) (cXx rfl (aZy (aZ1 (i:=5) sc_law_all.nd rfl (ic rfl)) (aZy (aZ1 (i:=6) sc_law_all.nd rfl (bA rfl)) bJ4))) (aQ6 (bZ1 (dZ5 (dv 4) (aQ0 (aQv (N':=["at", "row", "names"]) (oc:=none) (b:=true) [0] [] rfl sc_law_all.nd (λ_ _ _=>aQd ..) (.own (.cap (i:=5) rfl (by decide +kernel) (.cap (i:=0) rfl (by decide +kernel) .nil))) (aQj rfl) (bX1 rfl B.range (aQ0 (dv 6) (aQ0 (aX0 rfl B.len (aQ0 (dv 0) aQ1)) aQ1))) (cg_name (i:=0)) (λ_ _ _ _ _=>aQf (i:=0) (nd_ ["at", "row", "names"]) rfl (bA rfl) (.inr rfl)) (λ_ _ _ _ _=>aQp) aQm (λ_ _ _ _ _ _=>aQk rfl (by exact PD.o (aZb (aQ0 (aQs (k:=false) (dv 1) (aZb (aQ0 (e_ix (dv 2) (dv 0)) aQ1))) (aQ0 (aQs (k:=false) (dv 0) aQ4) aQ1)))))) aQ1)))))
  (aQ6 (aQe (i:=2) sc_law_all.nd rfl (bA rfl) (dv 4))))))
  (aQ6 (aQg (aQv (N':=["row", "begin"]) (oc:=none) (b:=true) [0,1] [] rfl sc_law_all.nd (λ_ _ _=>aQd ..) (.own (.own .nil)) (aQj rfl) (aZo (dv 2)) (eQa (i:=0) (j:=1)) (λ_ _ _ _ _=>dZn rfl (bQk (aQf (i:=0) (nd_ ["row", "begin"]) rfl (bA rfl) (.inr rfl)) (bQk (aQf (i:=1) (nd_ ["row", "begin"]) rfl (bA rfl) (.inr rfl)) cZh))) (λ_ _ _ _ _=>aQp) aQm (λ_ _ _ _ _ _=>aQk rfl (by exact PD.o (dv 0)))))))),?_⟩
 ·rintro ds S Q ⟨d,xs,k,rfl,_⟩;rfl
 ·rintro ds S Q ⟨d,xs,k,rfl,hd,hn,hk,q⟩;rcases hd with rfl|rfl
  all_goals
   refine⟨aQc (by decide),aQc (by decide),aQc (by decide),λr0 hr0=>⟨⟨by omega,by omega⟩,?_⟩⟩
   rw[b8];refine aX4 (λt Γ S'=>∃(rp:Addr) (x3 x4 x5 x6:Option D),Γ=[some _,some (.int (k:Nat)),some (.ref rp),x3,x4,x5,x6]/\S rp=none/\S' rp=some (.lst ((allR .non xs t).map λp=>.tup [.tup p.1,.int (p.2:Nat)]))/\Kps S S') ⟨r0,none,none,none,none,rfl,hr0,aQ5,Kps.set (λ_ _ e=>e) hr0 _⟩ ?_ ?_
   ·rintro t x Γ S' N J ⟨rp,x3,x4,x5,x6,rfl,hrp,hS,hs⟩ hN;obtain⟨ht,rfl⟩:=bX4 J;refine⟨trivial,aQc (by decide),λlp hlp=>?_⟩
    have U:lp≠rp:=by rintro rfl;rw[hlp] at hS;cases hS
    have Y:S lp=none:=Kps.non hs hlp;refine⟨_,(aQ8 (cz U)).trans hS,?_⟩;have mem:=bZg D.non xs t;have hcl:(allR .non xs (t+1)).length<=331776:=by
     rw[aJb];exact Nat.le_trans (bJj _ _) (Nat.le_trans (Nat.pow_le_pow_left hn _) (Nat.le_trans (Nat.pow_le_pow_right (by decide) (show t+1<=4 by omega)) (by decide)))
    have v:allR .non xs (t+1)=(allR .non xs t).flatMap (stR .non xs):=rfl;generalize allR D.non xs t=R at hS mem v;refine aX4 (λi Γ z=>∃(y5 y6:Option D),Γ=[some _,some (.int (k:Nat)),some (.ref rp),some (.int (t:Nat)),some (.ref lp),y5,y6]/\z rp=some (.lst (R.map λp=>.tup [.tup p.1,.int (p.2:Nat)]))/\z lp=some (.lst (((R.take i).flatMap (stR .non xs)).map λp=>.tup [.tup p.1,.int (p.2:Nat)]))/\Kps S z)
     ⟨x5,x6,rfl,(aQ8 (cz U)).trans hS,aQ5,Kps.set hs Y _⟩ ?_ ?_
    ·rintro i x Γ z N2 J ⟨y5,y6,rfl,h1,h2,L⟩ Z;rw[aJ,bR] at J;obtain⟨r,hr',rfl⟩:=J;obtain⟨r1,r2,r3⟩:=mem r (ao hr');refine⟨h1,rfl,rfl,⟨_,h2⟩,_,rfl,⟨by omega,by omega,by omega,by omega⟩,?_⟩
     rw[show((xs.length:Int)-(r.2:Nat)).toNat=xs.length-r.2 by omega]
     have hsl:(stR D.non xs r).length=xs.length-r.2:=by unfold stR;rw[am,b9]
     have hsg:∀j,j<xs.length-r.2->(stR D.non xs r)[j]?=some (r.1++[xs.getD (r.2+j) .non],r.2+j+1):=λj hj=>by
      unfold stR;rw[aJ,gJ hj];rfl
     have et:(R.take (i+1)).flatMap (stR D.non xs)=(R.take i).flatMap (stR .non xs)++stR .non xs r:=by
      rw[bT,hr',List.flatMap_append];show _++([r].flatMap _)=_;simp
     have hz:((R.take i).flatMap (stR D.non xs)).length+(stR D.non xs r).length<=331776:=by
      have h3:=(dZf (f:=stR D.non xs) (dj (i+1) R)).length_le;rw[et,aA,<- v] at h3;omega
     refine aXb (λj acc S3=>S3=z/\acc=((stR D.non xs r).take j).map λp=>D.tup [.tup p.1,.int (p.2:Nat)]) ⟨rfl,rfl⟩ ?_ ?_
     ·rintro j x acc S3 N3 J ⟨rfl,rfl⟩ hN3;obtain⟨hj,rfl⟩:=aZz (xs.length-r.2) r.2 j x J;have hlt:r.2+j<xs.length:=by omega
      have hat:atI xs ((r.2:Int)+(j:Int))=some (xs.getD (r.2+j) .non):=by
       rw[show(r.2:Int)+(j:Int)=((r.2+j:Nat):Int) by omega]
       exact aZi (by rw[ah,ag hlt];rfl)
      refine⟨trivial,_,_,rfl,hat,aQc (show 1<=9999 by decide),aQc (by rw[r1];show t+1<=9999;omega),aQc (show 2<=9999 by decide),?_,hN3 _ _ ⟨rfl,?_⟩⟩
      ·rw[am];exact Nat.lt_of_le_of_lt (List.length_take_le _ _) (Nat.lt_of_lt_of_le (show j<9999 by omega) (aQc (Nat.le_refl _)))
      ·rw[bT,hsg j hj,cu];show _=_++[D.tup [.tup (r.1++[xs.getD (r.2+j) .non]),.int ((r.2+j+1:Nat):Int)]];rw[show((r.2+j+1:Nat):Int)=(r.2:Int)+(j:Int)+1 by omega]
     rintro acc S3 ⟨rfl,rfl⟩;rw[aZk,bi (Nat.le_of_eq hsl)];refine⟨trivial,λp2 O=>?_⟩;have n1:p2≠lp:=by rintro rfl;rw[O] at h2;cases h2
     have n2:p2≠rp:=by rintro rfl;rw[O] at h1;cases h1
     refine⟨_,_,(aQ8 (cz n1)).trans h2,aQ5,?_,Z _ _ ⟨_,_,rfl,?_,?_,Kps.set (Kps.new L O _) Y _⟩⟩
     ·rw[am,am,bf];omega
     ·rw[aQ8 (cz U),aQ8 (cz n2)];exact h1
     ·rw[aQ5,et,cu]
    ·rintro Γ z ⟨y5,y6,rfl,h1,h2,L⟩;rw[am,dJ,<- v] at h2;exact⟨h1,hN _ _ ⟨lp,_,_,_,_,rfl,Y,h2,L⟩⟩
   ·rintro Γ S' ⟨rp,x3,x4,x5,x6,rfl,hrp,hS,hs⟩;rw[aZk] at hS;have hcl:(allR .non xs k).length<=331776:=by
     rw[aJb];exact Nat.le_trans (bJj _ _) (Nat.le_trans (Nat.pow_le_pow_left hn _) (Nat.le_trans (Nat.pow_le_pow_right (by decide) hk) (by decide)))
    refine⟨trivial,_,hS,?_⟩;generalize allR D.non xs k=R at hS hcl q;refine aXb (λi acc z=>acc=(R.take i).map (λp=>D.tup p.1)/\z=S') ⟨rfl,rfl⟩ ?_ ?_
    ·rintro i x acc z N2 J ⟨rfl,rfl⟩ Z;rw[aJ,bR] at J;obtain⟨r,hr,rfl⟩:=J;have hi:=(aC.mp hr).1;refine⟨hS,rfl,rfl,?_,Z _ _ ⟨?_,rfl⟩⟩
     ·rw[am,aR,bf];omega
     ·rw[bT,hr,cu];rfl
    ·rintro acc z ⟨rfl,rfl⟩;rw[am,dJ];refine⟨hS,λp hp=>?_⟩;refine aXs (S':=supd S p (.lst (R.map λq=>D.tup q.1))) (λb o e=>?_) (q p (Kps.non hs hp))
     by_cases h:b=p
     ·subst h;rw[aQ5] at e ⊢;exact e
     ·rw[aQ8 h] at e ⊢;exact hs b o e
end
abbrev s_law_names:Stmt:=top 17
theorem sc_law_names:FnScope ["pile", "many", "letters", "start", "at", "base", "pair", "short", "some"] ["pile", "many"] (aQ3 s_law_names):=fsc
section
variable{P:aF}{w:aS}{K:au}{mg:Str->Option ad}{base:bd}{pt cc:Addr}
theorem bXc(T:Tx K mg "_law_names" s_law_names)(B:Bs mg)(d_law_next:Df P w K mg base 1 "_law_next" ["pile", "most"] (spU K aZ7)):Df P w K mg base 2 "_law_names" ["pile", "many"] (spU K aXx):=by
 refine aZu T sc_law_names (λF=>F.binds λ_ _ _ _ _ _=>us2 λ_ _=>rfl) ?_ λf cdv A outer s H E Y=>⟨_,(aQ2 (aQe (i:=2) sc_law_names.nd rfl (ic rfl) aXm)
  (aQ2 (aQe (i:=3) sc_law_names.nd rfl (ic rfl) (aQa d_law_next Y rfl (aQ0 (dv 0) (aQ0 aQ4 aQ1))))
  (aQ2 (aQe (i:=4) sc_law_names.nd rfl (ic rfl) (aQa d_law_next Y rfl (aQ0 (dv 0) (aQ0 aQ4 aQ1))))
  (aQ2 (aQe (i:=5) sc_law_names.nd rfl (ic rfl) (e_ix (bQ4 (b:=false) (aQ0 aXm (aQ0 aXm (aQ0 aXm (aQ0 aXm (aQ0 aXm (aQ0 aXm (aQ0 aXm (aQ0 aXm aQ1))))))))) (aQa d_law_next Y rfl (aQ0 (dv 0) (aQ0 aQ4 aQ1)))))
  (eQe (aJs (PWD.pt (cXs (fZb Y (aQa d_law_next Y rfl (aQ0 (dv 0) (aQ0 aQ4 aQ1))) aQ4) (bJ3 (cXq Y (dv 1) aQ4)))) (aQ2 (aQe (i:=6) sc_law_names.nd rfl (ic rfl) (e_ix (bQ4 (b:=false) (aQ0 aXm (aQ0 aXm (aQ0 aXm (aQ0 aXm aQ1))))) (bZz (dv 3) aQ4)))
  (aQ2 (aQe (i:=7) sc_law_names.nd rfl (bA rfl) (aQs (k:=false) (aQv (N':=["word", "pair"]) (oc:=none) (b:=false) [0] [] rfl sc_law_names.nd (λ_ _ _=>aQd ..) (.own (.cap (i:=6) rfl (by decide +kernel) .nil)) (aQj rfl) (dXf (dv 6)) (cg_name (i:=0)) (λ_ _ _ _ _=>aQf (i:=0) (nd_ ["word", "pair"]) rfl (bA rfl) (.inr rfl)) (λ_ _ _ _ _=>aQp) aQm (λ_ _ _ _ _ _=>aQk rfl (by exact PD.o (aQs (k:=false) (dv 0) (e_ix (dv 1) aQ4))))) (aQv (N':=["word", "pair"]) (oc:=none) (b:=false) [0] [] rfl sc_law_names.nd (λ_ _ _=>aQd ..) (.own (.cap (i:=6) rfl (by decide +kernel) .nil)) (aQj rfl) (dXf (dv 6)) (cg_name (i:=0)) (λ_ _ _ _ _=>aQf (i:=0) (nd_ ["word", "pair"]) rfl (bA rfl) (.inr rfl)) (λ_ _ _ _ _=>aQp) aQm (λ_ _ _ _ _ _=>aQk rfl (by exact PD.o (aQs (k:=false) (dv 0) (e_ix (dv 1) aQ4)))))))
  (aQ2 (aQe (i:=8) sc_law_names.nd rfl (bA rfl) (aQs (k:=false) (aQs (k:=false) (aQs (k:=false) (eQk (b:=false) rfl B.list (aQ0 (dv 6) aQ1)) (dv 7)) (aQv (N':=["word", "pair"]) (oc:=none) (b:=false) [0] [] rfl sc_law_names.nd (λ_ _ _=>aQd ..) (.own (.cap (i:=6) rfl (by decide +kernel) .nil)) (aQj rfl) (aZo (dv 7)) (cg_name (i:=0)) (λ_ _ _ _ _=>aQf (i:=0) (nd_ ["word", "pair"]) rfl (bA rfl) (.inr rfl)) (λ_ _ _ _ _=>aQp) aQm (λ_ _ _ _ _ _=>aQk rfl (by exact PD.o (aQs (k:=false) (dv 0) (e_ix (dv 1) aQ4)))))) (aQv (N':=["word", "pair"]) (oc:=none) (b:=false) [0] [] rfl sc_law_names.nd (λ_ _ _=>aQd ..) (.own (.cap (i:=6) rfl (by decide +kernel) .nil)) (aQj rfl) (aZo (dv 7)) (cg_name (i:=0)) (λ_ _ _ _ _=>aQf (i:=0) (nd_ ["word", "pair"]) rfl (bA rfl) (.inr rfl)) (λ_ _ _ _ _=>aQp) aQm (λ_ _ _ _ _ _=>aQk rfl (by exact PD.o (aQs (k:=false) (dv 0) (e_ix (dv 1) aQ4)))))))
  (aQ6 (aQg (aZ0 rfl B.tuple (aQ0 (aZ9 (b:=false) Y rfl B.sorted (aQ0 (e_sl (b:=false) (aQs (k:=false) (dv 8) (dv 8)) (aXp (dv 4)) (aXp (aQs (k:=false) (dv 4) (dv 1)))) aQ1)) aQ1))))))) aZ6)
  (aQ6 (aQg (aZ0 rfl B.tuple (aQ0 (aZ9 (b:=false) Y rfl B.sorted (aQ0 (aQv (N':=["k", "base", "at", "letters", "start"]) (oc:=none) (b:=false) [0] [] rfl sc_law_names.nd (λ_ _ _=>aQd ..) (.own (.cap (i:=5) rfl (by decide +kernel) (.cap (i:=4) rfl (by decide +kernel) (.cap (i:=2) rfl (by decide +kernel) (.cap (i:=3) rfl (by decide +kernel) .nil))))) (aQj rfl) (aZg rfl B.range (aQ0 (dv 1) aQ1)) (cg_name (i:=0)) (λ_ _ _ _ _=>aQf (i:=0) (nd_ ["k", "base", "at", "letters", "start"]) rfl (bA rfl) (.inr rfl)) (λ_ _ _ _ _=>aQp) aQm (λ_ _ _ _ _ _=>aQk rfl (by exact PD.o (aQs (k:=false) (aQs (k:=false) (e_sl (b:=false) (dv 1) bZ0 (aXp (dv 2))) (e_ix (dv 3) (bZz (aQs (k:=false) (dv 4) (bXy aQ4 (dv 0))) aQ4))) (e_sl (b:=false) (dv 1) (aXp (dv 2)) bZ0))))) aQ1)) aQ1))))))))),?_⟩
 ·rintro ds S Q ⟨a,many,rfl,_⟩;rfl
 ·rintro ds S Q ⟨a,many,rfl,dk,m24,q⟩;refine⟨a,26,rfl,dk,by decide,by decide,λL S1 r10 r11 off1 dk1=>?_⟩
  refine⟨a,8,rfl,dk1,by decide,by decide,λv S2 r20 r21 off2 dk2=>?_⟩
  refine⟨aQc (by decide),a,8,rfl,dk2,by decide,by decide,λU S3 r30 r31 off3 dk3=>?_⟩
  obtain⟨z,hz,hzl⟩:∃z:Str,atI [D.str (Str.ofString ""),D.str (Str.ofString ""),D.str (Str.ofString "room"),D.str (Str.ofString "lengthy"),D.str (Str.ofString "zzz"),D.str (Str.ofString "qx"),D.str (Str.ofString "kkkkkk"),D.str (Str.ofString "none")] U=some (.str z)/\z.length<=7:=by
   have h:U=0\/U=1\/U=2\/U=3\/U=4\/U=5\/U=6\/U=7:=by omega
   rcases h with rfl|rfl|rfl|rfl|rfl|rfl|rfl|rfl <;> exact⟨_,rfl,by decide⟩
  have N:∀{S'},Off a S3 S'->Off a S S':=λo=>off1.trans (off2.trans (off3.trans o));refine⟨_,_,rfl,hz,?_⟩;refine⟨fun Γ' S'=>Γ'=[some (.ref a),some (.int many),some (.str lettersZ),some (.int L),some (.int v),some (.str z),none,none,none]/\Off a S S'/\Pile S' a,?_,?_⟩
  ·refine⟨a,4,rfl,dk3,by decide,by decide,λr4 S4 r40 r41 J O=>⟨rfl,_,rfl,ite2 (λc1=>?_) λc1=>⟨rfl,N J,O⟩⟩⟩
   refine⟨_,rfl,ite2 (λc2=>?_) λc2=>⟨rfl,N J,O⟩⟩;have m15:many<15:=by have:=of_decide_eq_true c2;omega
   obtain⟨x,y,hp,hnd⟩:∃x y:Nat,atI [D.str (Str.ofString "ab"),D.str (Str.ofString "qx"),D.str (Str.ofString "yz"),D.str (Str.ofString "mn")] (L%4)=some (.str ⟨#[x,y]⟩)/\(w14 x y).Nodup:=by
    have h:L%4=0\/L%4=1\/L%4=2\/L%4=3:=by omega
    rcases h with h|h|h|h <;> rw[h]
    ·exact⟨97,98,rfl,by decide +kernel⟩
    ·exact⟨113,120,rfl,by decide +kernel⟩
    ·exact⟨121,122,rfl,by decide +kernel⟩
    ·exact⟨109,110,rfl,by decide +kernel⟩
   refine⟨aQc (by show 4<=9999;decide),by show(0:Int)<4;decide,_,_,rfl,hp,?_⟩
   refine aZ3 (enc:=λc:Nat=>D.str ⟨#[c]⟩) (xs:=[x,y]) (f:=λc=>D.str (sg c++sg x)) (λc _ Q q=>⟨aQc (by show 2<=9999;decide),x,aZi (j:=0) rfl,aQc (by show 1+1<=9999;decide),q⟩) (aQc (by show 2<=9999;decide)) ?_
   refine aZ3 (enc:=λc:Nat=>D.str ⟨#[c]⟩) (xs:=[x,y]) (f:=λc=>D.str (sg c++sg y)) (λc _ Q q=>⟨aQc (by show 2<=9999;decide),y,aZi (j:=1) rfl,aQc (by show 1+1<=9999;decide),q⟩) (aQc (by show 2<=9999;decide)) ?_
   refine⟨_,_,rfl,rfl,aQc (by show 4<=9999;decide),by show 2<=1000;decide,_,_,rfl,rfl,aQc (by show 6<=9999;decide),(sh2 x y).map D.str,rfl,?_⟩
   refine aZ3 (enc:=D.str) (xs:=sh2 x y) (f:=λw=>D.str (w++sg x)) (λw hw Q q=>⟨aQc (by show 2<=9999;decide),x,aZi (j:=0) rfl,aQc (by rw[aJx w hw];show 2+1<=9999;decide),q⟩) (aQc (by show 4<=9999;decide)) ?_
   refine⟨_,_,rfl,rfl,aQc (by show 10<=9999;decide),(sh2 x y).map D.str,rfl,?_⟩
   refine aZ3 (enc:=D.str) (xs:=sh2 x y) (f:=λw=>D.str (w++sg y)) (λw hw Q q=>⟨aQc (by show 2<=9999;decide),y,aZi (j:=1) rfl,aQc (by rw[aJx w hw];show 2+1<=9999;decide),q⟩) (aQc (by show 4<=9999;decide)) ?_
   refine⟨_,_,rfl,rfl,aQc (by show 14<=9999;decide),_,_,rfl,rfl,aQc (by show 28<=9999;decide),v,rfl,v+many,rfl,_,rfl,?_⟩
   obtain⟨i,rfl⟩:∃i:Nat,v=i:=⟨v.toNat,by omega⟩
   have hi:i<8:=by omega
   have h14:(w14 x y).length=14:=rfl;have Z:=cZb (w14 x y) hnd i many (by omega) (by omega)
   have hlen:(((w14 x y++w14 x y).drop i).take many).length=many:=by rw[aR,bo,aA,h14];omega
   have sp:=aXa (((w14 x y++w14 x y).drop i).take many);refine .inl ⟨((w14 x y++w14 x y).drop i).take many,?_,_,rfl,aQi (q _ _ (sp.nodup_iff.mpr Z) (cQc _) (by rw[sp.length_eq,hlen]) (λn hn=>eQv n ((aP.mp (da (cL (sp.mem_iff.mp hn)))).elim id id)) (N J) O)⟩
   have ec:cutD ((w14 x y++w14 x y).map D.str) (some (i:Int)) (some ((i:Int)+(many:Int)))=(((w14 x y++w14 x y).drop i).take many).map D.str:=by
    rw[dZ4,show(i:Int)+(many:Int)=((i+many:Nat):Int) by omega,HT.sIx_nat,HT.sIx_nat,aA,h14,Nat.min_eq_left (by omega),Nat.min_eq_left (by omega),Nat.add_sub_cancel_left]
   exact ec.symm
  ·rintro Γ' S4 ⟨rfl,J,O⟩;refine⟨⟨by omega,by omega⟩,?_⟩
   rw[b8,eQj];refine aZ3 (enc:=λk:Nat=>D.int (k:Nat)) (f:=λk=>D.str (cutS z none (some v)++(⟨#[97+((L+5*(k:Int))%26).toNat]⟩:Str)++cutS z (some v) none)) (λk hk Q q=>?_) (aQc (by rw[b9];show 0+many<=_;omega)) ?_
   ·have hb:(L+5*(k:Int))%26=((((L+5*(k:Int))%26).toNat:Nat):Int):=by omega
    have hat:atI lettersZ.cps.toList ((L+5*(k:Int))%26)=some (97+((L+5*(k:Int))%26).toNat):=by
     rw[hb];exact cJk (by omega)
    have l1:=bX7 hzl none (some v);have l2:=bX7 hzl (some v) none;have l3:(cutS z none (some v)++(⟨#[97+((L+5*(k:Int))%26).toNat]⟩:Str)).length=(cutS z none (some v)).length+1:=by
     show((cutS z none (some v)).cps++#[_]).size=_;rw[dP];rfl
    exact⟨v,rfl,by omega,.inl ⟨by decide,by decide⟩,by show(0:Int)<26;decide,by decide,_,hat,aQc (by show(cutS z none (some v)).length+1<=9999;omega),v,rfl,by omega,aQc (by rw[l3];omega),q⟩
   ·have Z:((a7 many).map λk:Nat=>cutS z none (some v)++(⟨#[97+((L+5*(k:Int))%26).toNat]⟩:Str)++cutS z (some v) none).Nodup:=by
     unfold fL;rw[cV];refine cg ?_ (ga (n:=many));intro k k' hk hk' hlt e
     have:=eQu e
     have h1:=aZ.mp hk;have h2:=aZ.mp hk';omega
    have sp:=aXa ((a7 many).map λk:Nat=>cutS z none (some v)++(⟨#[97+((L+5*(k:Int))%26).toNat]⟩:Str)++cutS z (some v) none);refine .inl ⟨_,?_,_,rfl,aQi (q _ _ (sp.nodup_iff.mpr Z) (cQc _) (by rw[sp.length_eq,am,b9]) (λn hn=>by obtain⟨k,_,rfl⟩:=bI.mp (sp.mem_iff.mp hn);rw[bZ8,bZ8];show 1<=_+1+_;omega) J O)⟩
    show _=_;rw[bW];rfl
end
end Toy
namespace L2
open PySem PySem.Spec PyProof.Rows
def mn3(i j k:Int):Int:=if j<i then (if k<j then k else j) else if k<i then k else i
section
variable{X:Cx}{K:Fg}{pos:Pos}{k:Nat}
theorem cJv(hc:X.calm=true):CallR X (.builtin "min") (λxs H Q=>∃i j k,xs=[.int i,.int j,.int k]/\Q (.int (mn3 i j k)) H):=by
 intro pins s σ H xs us Q I r h;obtain⟨i,j,k,rfl,q⟩:=h;cases r with
 |cons D B =>
  obtain⟨u,L,rfl,⟨U,rfl⟩,⟨O,rfl⟩⟩:=eX9 B;obtain⟨t,rfl⟩:=D;refine min_three_ints (I.ok.hd hc) λh' N J=>⟨_,H,I.kept J,?_,q⟩;unfold mn3
  by_cases z:j<i
  ·rw[if_pos z,if_pos z]
   by_cases v:k<j
   ·rw[if_pos v,if_pos v];exact⟨_,rfl⟩
   ·rw[if_neg v,if_neg v];exact⟨_,rfl⟩
  ·rw[if_neg z,if_neg z]
   by_cases v:k<i
   ·rw[if_pos v,if_pos v];exact⟨_,rfl⟩
   ·rw[if_neg v,if_neg v];exact⟨_,rfl⟩
def i3D(g:Int->Int->Int->Int):RCD:=λds S Q=>match ds with
 |[.int i,.int j,.int k]=>Q (.int (g i j k)) S
 |_=>False
theorem fX1{g:Int->Int->Int->Int}:aJr K (λxs H Q=>∃i j k,xs=[.int i,.int j,.int k]/\Q (.int (g i j k)) H) (i3D g):=by
 intro F S H ds D Q QD r l h c
 match ds,h with
 |[.int i,.int j,.int k],h =>
  unfold RepL at l;obtain⟨v,D,rfl,J,l⟩:=l;obtain⟨v2,L,rfl,B,z⟩:=l.two;rw[rint J,rint B,rint z];exact⟨i,j,k,rfl,c.int r h⟩
theorem fQi{e e2 e3:Expr}{t:AD}{p:Pos}(hg:Gl X "min")(hm:X.mg "min"=none)(ha:PAD K X [e,e2,e3] t)(hc:X.calm=true:=by rfl)(he:az [e,e2,e3] X.env=(false,eval e X.env)::az [e2,e3] X.env:=by rfl)(hpl:(cx pos (az [e2,e3] X.env)).any (·.1)=false:=by rfl):PD K X (.Call (.Name "min" p) [e,e2,e3] [] pos) (dCB (i3D mn3) t):=aZs (cJv hc) fX1 hg hm dZs ha (by decide) (by decide) he hpl
end
end L2
namespace Toy
open PySem L2
abbrev s_law_many_sets:Stmt:=top 22
theorem sc_law_many_sets:FnScope ["pile", "k", "many", "enough", "size", "left", "count"] ["pile", "k", "many"] (aQ3 s_law_many_sets):=fsc
def aXe:SpD:=λds S Q=>∃(a:Addr) (k m:Nat),ds=[.ref a,.int k,.int m]/\Pile S a/\(k,m)∈kms/\∀(ts:List (List Str)) S',SrtT ts->(∀t∈ts,Srt t/\t.length=k)->fac k*(m-1)^k<ts.length->ts.length<=120->(nms ts).length<=24->Off a S S'->Pile S' a->Q (.tup (ts.map tupS)) S'
section
variable{P:aF}{w:aS}{K:au}{mg:Str->Option ad}{base:bd}{pt cc:Addr}
theorem aJ5(T:Tx K mg "_law_many_sets" s_law_many_sets)(B:Bs mg)(d_enough_sets:Df P w K mg base 2 "enough_sets" ["k", "many"] (spU K aZc))(d_law_next:Df P w K mg base 2 "_law_next" ["pile", "most"] (spU K aZ7))(d_law_all:Df P w K mg base 2 "_law_all" ["names", "k"] (spU K aXz))(d_law_names:Df P w K mg base 2 "_law_names" ["pile", "many"] (spU K aXx)):Df P w K mg base 3 "_law_many_sets" ["pile", "k", "many"] (spU K aXe):=by
 refine aZu T sc_law_many_sets (λF=>F.binds λ_ _ _ _ _ _=>us3 λ_ _ _=>rfl) ?_ λf cdv A outer s H E j=>⟨_,(aQ2 (aQe (i:=3) sc_law_many_sets.nd rfl (bA rfl) (aQa d_enough_sets j rfl (aQ0 (dv 1) (aQ0 (dv 2) aQ1))))
  (aQ2 (aQe (i:=4) sc_law_many_sets.nd rfl (bA rfl) (dv 1))
  (aQ2 (cQa dE (PWD.pt (cXs (cXq j (dv 4) aQ4) (bJ3 (eJe j (aX0 rfl B.len (aQ0 (aQa d_law_all j rfl (aQ0 (eQm (b:=false) rfl B.list rfl B.range (dv 4)) (aQ0 (dv 1) aQ1))) aQ1)) (aQs (k:=false) (dv 3) aQ4))))) (aQ6 (aQe (i:=4) sc_law_many_sets.nd rfl (bA rfl) (aQs (k:=false) (dv 4) aQ4))))
  (aQ2 (aQe (i:=4) sc_law_many_sets.nd rfl (bA rfl) (fZj rfl B.min (aQ0 aQ4 (aQ0 (aQs (k:=false) (dv 4) (bXy (aQa d_law_next j rfl (aQ0 (dv 0) (aQ0 aQ4 aQ1))) (aQa d_law_next j rfl (aQ0 (dv 0) (aQ0 aQ4 aQ1))))) aQ1))))
  (aQ2 (aQe (i:=5) sc_law_many_sets.nd rfl (ic rfl) (aQa d_law_all j rfl (aQ0 (aQa d_law_names j rfl (aQ0 (dv 0) (aQ0 (dv 4) aQ1))) (aQ0 (dv 1) aQ1))))
  (aQ2 (aQe (i:=6) sc_law_many_sets.nd rfl (bA rfl) (fQi rfl B.min (aQ0 (aX0 rfl B.len (aQ0 (dv 5) aQ1)) (aQ0 aQ4 (aQ0 (aQs (k:=false) (aQs (k:=false) (dv 3) aQ4) (aQa d_law_next j rfl (aQ0 (dv 0) (aQ0 (e_ix (bQ4 (b:=false) (aQ0 aQ4 (aQ0 aQ4 (aQ0 aQ4 aQ1)))) (aQa d_law_next j rfl (aQ0 (dv 0) (aQ0 aQ4 aQ1)))) aQ1)))) aQ1)))))
  (aQ6 (aQg (aZ0 rfl B.tuple (aQ0 (aZ9 (b:=false) j rfl B.sorted (aQ0 (aQv (N':=["turn", "left", "pile"]) (oc:=none) (b:=false) [0] [] rfl sc_law_many_sets.nd (λ_ _ _=>aQd ..) (.own (.cap (i:=5) rfl (by decide +kernel) (.cap (i:=0) rfl (by decide +kernel) .nil))) (aQj rfl) (aZg rfl B.range (aQ0 (dv 6) aQ1)) (cg_name (i:=0)) (λ_ _ _ _ _=>aQf (i:=0) (nd_ ["turn", "left", "pile"]) rfl (bA rfl) (.inr rfl)) (λ_ _ _ _ _=>aQp) aQm (λ_ _ _ _ _ _=>aQk rfl (by exact PD.o (eQf (dv 1) (aQ0 (aQa d_law_next j rfl (aQ0 (dv 2) (aQ0 (aX0 rfl B.len (aQ0 (dv 1) aQ1)) aQ1))) aQ1))))) aQ1)) aQ1)))))))))),?_⟩
 ·rintro ds S Q ⟨a,k,m,rfl,_⟩;rfl
 ·rintro ds S Q ⟨a,k,m,rfl,dk,hkm,q⟩;obtain⟨k1,Z,m2,m6,e50⟩:=dXl _ hkm;have big:=eZc _ hkm;dsimp only at k1 Z m2 m6 e50 big;refine⟨k,m,rfl,by omega,m2,by omega,?_⟩
  obtain⟨E,hE⟩:∃E,E=fac k*(m-1)^k:=⟨_,rfl⟩;rw[<- hE] at e50 big q ⊢;refine⟨λn Γ S'=>∃s:Nat,Γ=[some (.ref a),some (.int k),some (.int m),some (.int E),some (.int s),none,none]/\k<=s/\s<=11/\n=11-s/\Kps S S',⟨11-k,k,rfl,Nat.le_refl _,by omega,rfl,λ_ _ e=>e⟩,?_⟩
  rintro n Γ S1 ⟨s,rfl,ks,s11,rfl,hs⟩;refine⟨_,rfl,?_⟩;refine ite2 (λ_=>?_) λh=>absurd (decide_eq_true (show(s:Int)<24 by omega)) h
  refine⟨s,rfl,by omega,?_⟩
  refine⟨_,(a7 s).map λi=>D.int (i:Nat),k,rfl,.inr rfl,by rw[am,b9];omega,Z,λp hp=>?_⟩
  refine⟨_,aQ5,?_⟩;rw[am,aJb,am,b9];have J:=Kps.new hs hp (.lst ((allR D.non ((a7 s).map λi=>D.int (i:Nat)) k).map λq=>.tup q.1));generalize supd S1 p (.lst ((allR D.non ((a7 s).map λi=>D.int (i:Nat)) k).map λq=>.tup q.1))=S2 at J ⊢;refine⟨_,rfl,?_⟩;refine ite2 (λh=>?_) λh=>?_
  ·have h:=of_decide_eq_true h;have ne:s≠11:=λz=>by rw[z] at h;omega
   exact⟨_,by omega,s+1,rfl,by omega,by omega,rfl,J⟩
  have hb:E+3<(seqK s k).length:=by
   have:¬ (((seqK s k).length:Int)<=(E:Nat)+3):=λz=>h (decide_eq_true z)
   omega
  clear h hs hp;have dk2:Pile S2 a:=by
   obtain⟨cs,i,r,s,c,hS,h⟩:=dk;exact⟨cs,i,r,s,c,J _ _ hS,h⟩
  refine⟨a,4,rfl,dk2,by decide,by decide,λr1 S3 r10 r11 off3 dk3=>?_⟩
  refine⟨a,3,rfl,dk3,by decide,by decide,λr2 S4 r20 r21 off4 dk4=>?_⟩
  have p0:0<=r1*r2:=Int.mul_nonneg r10 r20;have p6:r1*r2<=3*2:=Int.mul_le_mul (by omega) (by omega) r20 (by decide)
  obtain⟨n,hn,n1,n17⟩:∃n:Nat,(if (s:Int)+r1*r2<24 then (s:Int)+r1*r2 else 24)=n/\s<=n/\n<=17:=by
   rw[if_pos (by omega)]
   exact⟨(s+r1*r2).toNat,by omega,by omega,by omega⟩
  refine⟨.inr ⟨by omega,by omega⟩,?_⟩
  dsimp only[addD,i2D,aQu,dNil];rw[hn];refine⟨a,n,rfl,dk4,by omega,λnames S5 nd pw hl h1 off5 dk5=>?_⟩
  have hnm:Srt names:=dXg nd pw;have rl:(bXb names k).length=(seqK n k).length:=by rw[aJz,hl]
  have up:=bJk Z n1 n17;have l83:(seqK n k).length<=9999:=Nat.le_trans (bJk Z n17 (Nat.le_refl _)) (Nat.le_trans (eZd k Z) (by decide))
  refine⟨_,names.map D.str,k,rfl,.inl rfl,by rw[am,hl];omega,Z,λlp hlp=>?_⟩
  have L:lp≠a:=dk5.ne hlp;rw[eZe];refine⟨_,aQ5,?_⟩;rw[am,rl];refine⟨aQc (show 3<=9999 by decide),a,3,rfl,dk5.supd L,by decide,by decide,λr3 S6 r30 r31 O dk6=>?_⟩
  obtain⟨v,hv,v1,v20⟩:∃v:Nat,atI [D.int 1,.int 4,.int 20] r3=some (.int (v:Nat))/\1<=v/\v<=20:=by
   have h:r3=0\/r3=1\/r3=2:=by omega
   rcases h with rfl|rfl|rfl
   ·exact⟨1,rfl,by decide,by decide⟩
   ·exact⟨4,rfl,by decide,by decide⟩
   ·exact⟨20,rfl,by decide,by decide⟩
  refine⟨_,_,rfl,hv,a,v,rfl,dk6,by omega,by omega,λr4 S7 r40 r41 N dk7=>?_⟩
  have hl7:S7 lp=some (.lst ((bXb names k).map tupS)):=(N lp L).trans ((O lp L).trans aQ5);obtain⟨c,hc,cE,c120,cl⟩:∃c:Nat,mn3 ((seqK n k).length:Nat) 120 ((E:Nat)+1+r4)=c/\E<c/\c<=120/\c<=(seqK n k).length:=by
   have:E<mn3 ((seqK n k).length:Nat) 120 ((E:Nat)+1+r4)/\mn3 ((seqK n k).length:Nat) 120 ((E:Nat)+1+r4)<=120/\mn3 ((seqK n k).length:Nat) 120 ((E:Nat)+1+r4)<=(seqK n k).length:=by
    unfold mn3
    split <;> split <;> omega
   exact⟨(mn3 ((seqK n k).length:Nat) 120 ((E:Nat)+1+r4)).toNat,by omega,by omega,by omega,by omega⟩
  dsimp only[addD,i3D,aQu,dNil];rw[hc];refine⟨⟨by omega,by omega⟩,?_⟩
  rw[b8];refine dZa L hl7 (m:=c) (by rw[am,aJz,hl];exact cl) (by rw[am,aJz,hl];exact l83) dk7 λds us S8 pm Y hl8 dk8 off8=>?_
  obtain⟨as,bs,rfl,rfl,pn⟩:=cJl (f:=tupS) unT1 dZl pm;rw[am] at Y;have ndR:(bXb names k).Nodup:=cJt _ names hnm.nodup k;have nda:as.Nodup:=(eC.mp (pn.nodup_iff.mpr ndR)).1;have sp:=aZl as;have hm:∀t∈srT as,Srt t/\t.length=k/\∀x∈t,x∈names:=λt ht=>cJu hnm (pn.mem_iff.mp (cy _ (sp.mem_iff.mp ht)));refine .inr (.inr ⟨as,rfl,_,rfl,?_⟩);refine aXs (S':=λb=>if b=a then S8 a else S b) (λb o e=>?_) (q (srT as) _ (aJy nda) (λt ht=>⟨(hm t ht).1,(hm t ht).2.1⟩) (by rw[sp.length_eq,Y];exact cE) (by rw[sp.length_eq,Y];exact c120) (Nat.le_trans (eQx λt ht=>(hm t ht).2.2) (by omega)) (λb hb=>if_neg hb) (dk8.eq (if_pos rfl)))
  by_cases U:b=a
  ·subst U;rw[if_pos rfl] at e;exact e
  ·rw[if_neg U] at e;have e5:S5 b=some o:=by rw[off5 b U,off4 b U,off3 b U];exact J b o e
   have nb:b≠lp:=by rintro rfl;rw[hlp] at e5;cases e5
   rw[off8 b U nb,N b U,O b U,aQ8 nb];exact e5
end
abbrev s_meets:Stmt:=top 2
theorem sc_meets:FnScope ["one", "row"] ["one", "row"] (aQ3 s_meets):=fsc
section
variable{P:aF}{w:aS}{K:au}{mg:Str->Option ad}{base:bd}{pt cc:Addr}
theorem dZm(T:Tx K mg "meets" s_meets)(B:Bs mg):Df P w K mg base 1 "meets" ["one", "row"] (spU K cQh):=by
 refine aZu T sc_meets (λF=>F.binds λ_ _ _ _ _ _=>us2 λ_ _=>rfl) ?_ λf L A outer s H E z=>⟨_,(aQ6 (aQg (eJn rfl B.any (aQ0 (aQv (N':=["name", "one"]) (oc:=none) (b:=false) [0] [] rfl sc_meets.nd (λ_ _ _=>aQd ..) (.own (.cap (i:=0) rfl (by decide +kernel) .nil)) (aQj rfl) (aZo (dv 1)) (cg_name (i:=0)) (λ_ _ _ _ _=>aQf (i:=0) (nd_ ["name", "one"]) rfl (bA rfl) (.inr rfl)) (λ_ _ _ _ _=>aQp) aQm (λ_ _ _ _ _ _=>aQk rfl (by exact PD.o (e_in z (dv 0) (dv 1))))) aQ1)))),?_⟩
 ·rintro ds S Q ⟨α,dα,E,one,row,j,J,rfl,_⟩;rfl
 ·rintro ds S Q ⟨α,dα,E,one,row,j,J,rfl,N,h1,h2,hl,q⟩;have go:∀Q':List D->Sto->Prop,Q' (row.map λd=>D.bl (decide (d∈one))) S->aZ2 (aQu 0) dYes (aJ4 (dOp (inD false) (dVar 0) (dVar 1))) (λ_=>True) [none,some j] (row.map E.e) [] S Q':=λQ' v =>
   aZ3 (f:=λd=>D.bl (decide (d∈one))) (λd hd Q q=>in_e (neg:=false) (E:=E) (by omega) h1.sq q) (aQc (by show 0+row.length<=_;omega)) v
  have e:(row.map λd=>decide (d∈one)).any id=mts one row:=by unfold mts;rw[jb];rfl
  rw[<- e] at q;rcases h2 with rfl|rfl
  ·exact⟨row.map E.e,rfl,go _ ⟨row.map λd=>decide (d∈one),by show _=_;rw[bW];rfl,aQi q⟩⟩
  ·exact⟨row.map E.e,rfl,go _ ⟨row.map λd=>decide (d∈one),by show _=_;rw[bW];rfl,aQi q⟩⟩
end
abbrev s_chosen_of:Stmt:=top 9
theorem sc_chosen_of:FnScope ["sets", "chosen", "one"] ["sets"] (aQ3 s_chosen_of):=fsc
def aJ0:SpD:=λds S Q=>∃(ts:List (List Str)),ds=[.tup (ts.map tupS)]/\ts.length<=1000/\(∀t∈ts,t.length<=9999)/\Q (.tup ((chs ts).map tupS)) S
section
variable{P:aF}{w:aS}{K:au}{mg:Str->Option ad}{base:bd}{pt cc:Addr}
theorem bXd(T:Tx K mg "chosen_of" s_chosen_of)(B:Bs mg)(d_meets:Df P w K mg base 1 "meets" ["one", "row"] (spU K cQh)):Df P w K mg base 2 "chosen_of" ["sets"] (spU K aJ0):=by
 refine aZu T sc_chosen_of (λF=>F.binds λ_ _ _ _ _ _=>us1 λ_=>rfl) ?_ λf cdv A outer s H E hr=>⟨_,(aQ2 (aQe (i:=1) sc_chosen_of.nd rfl (bA rfl) (bQ4 (b:=true) aQ1))
  (aQ2 (aJt dE rfl (aZo (dv 0)) (aZ1 (i:=2) sc_chosen_of.nd rfl (ic rfl)) (aQ6 (aJs (dXa (cQ8 (eJn rfl B.any (aQ0 (aQv (N':=["other", "one"]) (oc:=none) (b:=false) [0] [] rfl sc_chosen_of.nd (λ_ _ _=>aQd ..) (.own (.cap (i:=2) rfl (by decide +kernel) .nil)) (aQj rfl) (aZo (dv 1)) (cg_name (i:=0)) (λ_ _ _ _ _=>aQf (i:=0) (nd_ ["other", "one"]) rfl (bA rfl) (.inr rfl)) (λ_ _ _ _ _=>aQp) aQm (λ_ _ _ _ _ _=>aQk rfl (by exact PD.o (aQa d_meets hr rfl (aQ0 (dv 1) (aQ0 (dv 0) aQ1)))))) aQ1)))) (aQ6 (bZ1 (bZ3 (dv 1) (aQ0 (dv 2) aQ1)))) aZ6)))
  (aQ6 (aQg (aZ0 rfl B.tuple (aQ0 (dv 1) aQ1)))))),?_⟩
 ·rintro ds S Q ⟨ts,rfl,_⟩;rfl
 ·rintro ds S Q ⟨ts,rfl,hl,he,q⟩;refine⟨aQc (by decide),λcp z=>⟨_,rfl,?_⟩⟩
  refine aX4 (λi Γ S'=>∃(L:Option D) (acc:List (List Str)),Γ=[some (.tup (ts.map tupS)),some (.ref cp),L]/\S' cp=some (.lst (acc.map tupS))/\chF acc (ts.drop i)=chs ts/\acc.length<=i/\(∀t∈acc,t∈ts)/\∀b o,S b=some o->S' b=some o) ⟨none,[],rfl,aQ5,rfl,Nat.le_refl _,λt h=>(nomatch h),λb o e=>by rw[aQ8 (by rintro rfl;rw[z] at e;cases e)];exact e⟩ ?_ ?_
  ·rintro i x Γ S' N O ⟨L,acc,rfl,v,j,ha,hm,off⟩ U;rw[aJ,bR] at O;obtain⟨t,J,rfl⟩:=O;have hi:=(aC.mp J).1;rw[cS hi,(aC.mp J).2] at j;unfold chF at j;have Z:=he t (ao J);refine⟨trivial,acc.map tupS,v,eZ5 (f:=λo=>D.bl (mts t o)) v (λo ho Q q=>⟨Str,inferInstance,strE,t,o,tupS t,tupS o,rfl,by decide,.inl rfl,.inl rfl,he o (hm o ho),q⟩) (aQc (by show 0+acc.length<=_;omega)) ⟨acc.map λo=>mts t o,?_,eZ6 ?_⟩⟩
   ·rw[bS];show lsIs S' (.lst _) _;rw[bW];rfl
   ·have ea:(acc.map λo=>mts t o).any id=acc.any λo=>mts t o:=by rw[jb];rfl
    dsimp only;rw[ea];cases e:acc.any λo=>mts t o with
    |true =>
     rw[e,if_pos rfl] at j;exact ite2 (λh=>nomatch h) λ_=>U _ _ ⟨_,acc,rfl,v,j,by omega,hm,off⟩
    |false =>
     rw[e,if_neg (by simp)] at j
     refine ite2 (λ_=>?_) λh=>absurd rfl h;refine⟨⟨_,v⟩,_,v,by rw[am,bf];omega,U _ _ ⟨_,acc++[t],rfl,by rw[aQ5,cu];rfl,j,by rw[aA];show acc.length+1<=_;omega,λu Y=>?_,λb o e=>?_⟩⟩
     ·rcases aP.mp Y with h|h
      ·exact hm u h
      ·rw[aU.mp h];exact ao J
     ·have e':=off b o e;rw[aQ8 (by rintro rfl;rw[z] at e;cases e)];exact e'
  ·rintro Γ S' ⟨L,acc,rfl,v,j,ha,hm,off⟩;rw[am,eP] at j;refine⟨trivial,acc.map tupS,v,?_⟩;have j:acc=chs ts:=j;rw[j];exact aXs off q
end
abbrev s_how_many_have:Stmt:=top 11
theorem sc_how_many_have:FnScope ["sets", "name"] ["sets", "name"] (aQ3 s_how_many_have):=fsc
def aZn:SpD:=λds S Q=>∃(ts:List (List Str)) (n:Str),ds=[.tup (ts.map tupS),.str n]/\ts.length<=1000/\Q (.int (hmh ts n:Nat)) S
section
variable{P:aF}{w:aS}{K:au}{mg:Str->Option ad}{base:bd}{pt cc:Addr}
theorem aJ6(T:Tx K mg "how_many_have" s_how_many_have)(B:Bs mg):Df P w K mg base 1 "how_many_have" ["sets", "name"] (spU K aZn):=by
 refine aZu T sc_how_many_have (λF=>F.binds λ_ _ _ _ _ _=>us2 λ_ _=>rfl) ?_ λf z A outer s H E v=>⟨_,(aQ6 (aQg (aX0 rfl B.len (aQ0 (aQv (N':=["one", "name"]) (oc:=none) (b:=false) [0] [] rfl sc_how_many_have.nd (λ_ _ _=>aQd ..) (.own (.cap (i:=1) rfl (by decide +kernel) .nil)) (aQj rfl) (aZo (dv 0)) (cg_name (i:=0)) (λ_ _ _ _ _=>aQf (i:=0) (nd_ ["one", "name"]) rfl (bA rfl) (.inr rfl)) (λ_ _ _ _ _=>aXq (by exact(eQ3 v (dv 1) (dv 0)))) aQm (λ_ _ _ _ _ _=>aQk rfl (by exact PD.o (dv 0)))) aQ1)))),?_⟩
 ·rintro ds S Q ⟨ts,n,rfl,_⟩;rfl
 ·rintro ds S Q ⟨ts,n,rfl,hl,q⟩;refine⟨_,rfl,aZh (p:=λt=>decide (n∈t)) (f:=tupS) (λt j Q q=>in_t (E:=strE) (by decide) rfl q) (λt j _ Q q=>q) (aQc (by show 0+ts.length<=_;omega)) ⟨_,rfl,?_⟩⟩
  rw[bS,am];exact aQi q
end
end Toy
namespace L2
open PySem PySem.Spec PyProof.Rows
theorem cJw{P:aF}{w:aS}{K:au}{mg mb:Str->Option ad}{k:Nat}{fa a c pt:Addr}{fd:c8}{x:Str}{sp:Sp}{s₁:ak}{vs:List ad}{ns:List Int}
  (KX:K.In s₁.heap) (hns:s₁.heap.Ns aX mg) (hb:s₁.heap.Ns gU mb) (hbb:∀x:Str,x ≠ "__name__"->mb x=cj x) (hlim:s₁.heap.NoLimit) (hg:s₁.gens=#[])
  (ha:s₁.heap.get? a=some {cls:=.type "list",data:=.seq vs.toArray}) (hi:gL vs ns) (hl:ns.length<=sizeLine) (hr:Room k callerA)
  (T:TabF s₁.heap mg c pt) (hpt:s₁.heap.get? pt=some (gh #[])) (noP:K.lookup pt=none)
  (F:∀base:bd,K.In base->base.Ns aX mg->TabF base mg c pt->FnOk P w K mg base CX0 k fa fd [x] sp) (hbind:∀(s:ak) (u:ad),BindsTo s fd ⟨[u],[]⟩ [(x,u)])
  (hsp:∀H:Hp,H pt=some (.tbl #[])->SqL K H a (ns.map V.int)->sp [.ref a] H (λv _=>v=.bl true) λ_ _ _=>False) :
  ew (aE P w) callerA (.call (.ref fa) ⟨[.ref a],[]⟩) (λr s'=>r=.ok (.ret (.bool true))/\OldK s₁.heap s'.heap/\s'.os=s₁.os/\ij s'.gens) s₁:=by
 have rv:=aJg hi;have L:=hi.length;have N:a≠pt:=λz=>by rw[z,hpt] at ha;cases ha
 have core:∀H:Hp,H pt=some (.tbl #[])->(∀b,b≠pt->H b=none\/∃o xs,H b=some (.frz o (.lst xs)))->SqL K H a (ns.map V.int)->HOk P w H s₁.heap->(∀b,H b≠none->b=a\/b=pt)->(H a≠none->K.lookup a=none) ->
   ew (aE P w) callerA (.call (.ref fa) ⟨[.ref a],[]⟩) (λr s'=>r=.ok (.ret (.bool true))/\OldK s₁.heap s'.heap/\s'.os=s₁.os/\ij s'.gens) s₁:=by
  intro H hP hO hS hok hA hK;have i:∀{b:Addr}{o:Obj},s₁.heap.get? b=some o->H b=none->(hidT s₁.heap H).get? b=some o:=λe n=>dQ2 e n;have free:∀{b:Addr}{o:Obj},s₁.heap.get? b=some o->(∀xs n,o.data≠.seq xs n)->o≠gh #[]->H b=none:=λ{b o} e n1 n2=>by
   cases q:H b with
   |none=>rfl
   |some u =>
    rcases hA b (by rw[q];simp) with J|J
    ·subst J;rw[ha] at e;cases e;exact absurd rfl (n1 _ _)
    ·subst J;rw[hpt] at e;cases e;exact absurd rfl n2
  have Z:∀{b:Addr}{o:Obj}{es:Array DictEntry}{U:Nat},s₁.heap.get? b=some o->o.data=.dict es U->H b=none:=λ{b o es U} e d =>
   free e (λxs n z=>by rw[d] at z;cases z) λz=>by rw[z] at d;cases d
  have j:∀ {b:Addr} {m:Str->Option ad},s₁.heap.Ns b m->(hidT s₁.heap H).Ns b m:=λ{b m} ⟨o,es,U,e,d,r⟩=>⟨o,es,U,i e (Z e d),d,r⟩;have O:K.In (hidT s₁.heap H):=λb o e=>i (KX b o e) (by
   cases q:H b with
   |none=>rfl
   |some u =>
    rcases hA b (by rw[q];simp) with J|J
    ·subst J;rw[hK (by rw[q];simp)] at e;cases e
    ·subst J;rw[noP] at e;cases e)
  have hM:Mod K mg (hidT s₁.heap H):=⟨O,j hns,⟨mb,j hb,hbb⟩,let ⟨mc,h1,h2⟩:=hlim;⟨mc,j h1,h2⟩⟩
  have hT:TabF (hidT s₁.heap H) mg c pt:=by
   refine⟨?_,?_⟩
   ·obtain⟨o,us,file,tf,flags,tg,inF,text,tt,e,cl,d,r⟩:=T.hd;exact⟨o,us,file,tf,flags,tg,inF,text,tt,i e (free e (λxs n z=>by rw[d] at z;cases z) λz=>by rw[z] at cl;cases cl),cl,d,r⟩
   ·obtain⟨bm,Y,b1,b2,b3,b4,b5,b6⟩:=T.bm;exact⟨bm,Y,b1,b2,i b3 (free b3 (λxs n z=>by rw[b6] at z;cases z) λz=>by rw[z] at b6;cases b6),b4,b5,b6⟩
  have e0:Env0 P w K mg (hidT s₁.heap H) callerA [] s₁ H:=⟨rfl,rfl,hM,λb o e=>dXm e,Nat.le_of_eq (cZg _ _),trivial,λb hb=>absurd (show b∈([]:List Addr) from hb) (by simp),hok,.of_eq hg⟩
  refine fv ((F _ O (j hns) hT).run callerA [] s₁ H ⟨[.ref a],[]⟩ [.ref a] [.ref a] _ _ hr e0 (hbind s₁ (.ref a)) (.cons rfl .nil) (hsp H hP hS)) λr s' h=>?_;cases r with
  |error e=>exact dh h
  |ok fl =>
   cases fl with
   |next=>exact dh h
   |brk=>exact dh h
   |cont=>exact dh h
   |ret u =>
    obtain⟨v,H',os,bare,un,D,r',q⟩:=h;have q':v=.bl true:=q;subst q';obtain rfl:u=ad.bool true:=r';have keep:∀b o,b≠pt->s₁.heap.get? b=some o->s'.heap.get? b=some o:=λb o nb e=>by
     cases q:H b with
     |none=>exact un.keep b o e q (by intro z;exact absurd (show b∈([]:List Addr) from z) (by simp)) (by simp)
     |some u =>
      rcases hO b nb with z|⟨Y,xs,z⟩
      ·rw[q] at z;cases z
      ·have z2:=un.frzs b Y _ z;obtain⟨e1,_⟩:=hok b _ z;obtain⟨e2,_⟩:=D b _ z2;rw[e] at e1;cases e1;exact e2
    obtain⟨more,em⟩:=un.tbls pt #[] hP;have gm:s'.heap.get? pt=some (gh (#[]++more)):=D pt _ em;refine⟨rfl,⟨λb o e=>?_,λb o e=>?_⟩,os,bare⟩
    ·by_cases z:b=pt
     ·subst z;rw[hpt] at e;cases e;exact .inr (.inl ⟨(T.hd.tab hpt).isCodeTable,rfl,#[],more,rfl,gm⟩)
     ·exact .inl (keep b o z e)
    ·by_cases z:b=pt
     ·subst z;exact⟨_,gm⟩
     ·exact⟨o,keep b o z e⟩
 cases hk:K.lookup a with
 |some o =>
  have e:=KX a o hk;rw[ha] at e;cases e;refine core (λb=>if b=pt then some (.tbl #[]) else none) (if_pos rfl) (λb hb=>.inl (if_neg hb)) (.inr ⟨_,vs.toArray,_,hk,rfl,rfl,rfl,by rw[ar,L];exact hl,by simpa using rv⟩) (λb u z=>?_) (λb z=>?_) λz=>absurd (if_neg N) z
  ·by_cases hb:b=pt
   ·have z':=(if_pos hb).symm.trans z;cases z';subst hb;exact hpt
   ·have z':=(if_neg hb).symm.trans z;cases z'
  ·by_cases hb:b=pt
   ·exact .inr hb
   ·exact absurd (if_neg hb) z
 |none =>
  refine core (λb=>if b=pt then some (.tbl #[]) else if b=a then some (.frz {cls:=.type "list",data:=.seq vs.toArray} (.lst (ns.map V.int))) else none) (if_pos rfl) (λb B=>?_) (.inl (.inr ⟨{cls:=.type "list",data:=.seq vs.toArray},(if_neg N).trans (if_pos rfl)⟩)) (λb u z=>?_) (λb z=>?_) λ_=>hk
  ·by_cases hb:b=a
   ·exact .inr ⟨_,_,(if_neg B).trans (if_pos hb)⟩
   ·exact .inl ((if_neg B).trans (if_neg hb))
  ·by_cases B:b=pt
   ·have z':=(if_pos B).symm.trans z;cases z';subst B;exact hpt
   ·have z:=(if_neg B).symm.trans z
    by_cases hb:b=a
    ·have z':=(if_pos hb).symm.trans z;cases z';subst hb;exact⟨ha,by rw[am];exact hl,vs,_,rv,ha⟩
    ·have z':=(if_neg hb).symm.trans z;cases z'
  ·by_cases B:b=pt
   ·exact .inr B
   ·by_cases hb:b=a
    ·exact .inl hb
    ·exact absurd ((if_neg B).trans (if_neg hb)) z
def cQp(pt:Addr)(lp:Pos)(qual:Str)(n:Nat):SpD:=λds S Q=>∃ns:List Int,ds=[.lst (ns.map D.int)]/\ns.length<=n/\S pt=some (.tb lp qual)/\(∀a,a≠pt->S a=none)/\∀S',Q (.bl true) S'
theorem eZf{K:Fg}{n:Nat}{H:Hp}{a pt:Addr}{lp:Pos}{qual:Str}{ns:List Int}(hl:ns.length<=n)(hP:H pt=some (.tbl #[]))(hS:SqL K H a (ns.map V.int)):spU K (cQp pt lp qual n) [.ref a] H (λv _=>v=.bl true) λ_ _ _=>False:=by
 have j:a≠pt\/SqL K (λ_=>none) a (ns.map V.int):=by
  rcases hS with r|z
  ·refine .inl λz=>?_;rcases r with r|⟨o,r⟩ <;> rw[z,hP] at r <;> cases r
  ·exact .inr (.inr z)
 refine⟨λ_=>False,λb=>if b=pt then some (.tb lp qual) else none,[.lst (ns.map D.int)],λd _=>d=.bl true,⟨λb o e=>?_,λ_ (h:False)=>h.elim⟩,RepL.cons ?_ RepL.nil,⟨ns,rfl,hl,if_pos rfl,λb i=>if_neg i,λ_=>rfl⟩,λv d H' S' _ _ h e=>by subst e;exact rbl h⟩
 ·by_cases i:b=pt
  ·rw[if_pos i] at e;cases e;subst i;exact⟨#[],hP,trivial,.inl rfl⟩
  ·rw[if_neg i] at e;cases e
 ·unfold RepV;refine⟨a,_,rfl,?_,eJw⟩;rcases j with j|z
  ·rcases hS with r|z
   ·exact .inl ⟨λz=>z.elim (λw=>w (if_neg j)) id,r⟩
   ·exact .inr (.inr z)
  ·exact .inr z
def cJx(K:au)(x:Str)(c:Addr):Prop:=∃f oc od fd sl,bD K aX x=some (some (.ref f))/\K.lookup f=some ⟨oc,od,.func fd,sl⟩/\fd.code=.ref c
theorem codeIn_mk{K:au}{x:Str}{c f:Addr}{oc:ad}{od:Option Addr}{fd:c8}{sl:Array (Option ad)}(a:bD K aX x=some (some (.ref f)))(l:K.lookup f=some ⟨oc,od,.func fd,sl⟩)(e:fd.code=.ref c):cJx K x c:=⟨f,oc,od,fd,sl,a,l,e⟩
theorem cJy{K:au}{h:bd}{mg:Str->Option ad}{x:Str}{c:Addr}(X:K.In h)(G:h.Ns aX mg)(ht:cJx K x c):bX8 K mg x c:=by
 obtain⟨v,oc,j,i,sl,a,l,e⟩:=ht;intro f o fd m lk hd;have e1:=jy X G a;rw[m] at e1;cases e1;rw[l] at lk;cases lk;cases hd;exact e
def fQj(st:Stmt):Pos:=match aQy st with
 |[.Return (some (.Call _ _ (⟨_,.Lambda _ _ _ p,_⟩::_) _)) _]=>p
 |_=>⟨0,0,0,0⟩
abbrev lamQual(x:Str):Str:=x ++ ".<locals>." ++ "<lambda>"
theorem walkT{l:PySem.W.OpenLaw}{q:aF}{loose:List Str}{XP:(Str->Option ad)->bd->Prop}{YP:aS->bd->Prop}{d:DefRec}{K:Params->au}{lp:Pos}{qual x:Str}{pt:Addr}(hn:l.most=some 63)(hdf:d.params.defaults=[])
  (hY:∀(w:aS) (h:bd),YP w h->(K w.params).In h/\h.get? pt=some (gh #[]))
  (R:∃ c:Addr,(∀ p,cJx (K p) x c)/\(∀ p,PySem.W.codeHdIn (K p) c pt=true)/\(∀ p,(K p).lookup pt=none) /\
   ∀(w:aS) (mg:Str->Option ad) (fa:Addr) (h:bd),(K w.params).In h->h.Ns aX mg->mg d.name=some (.ref fa)->bX8 (K w.params) mg x c ->
   ∃fd:c8,(∀(s:ak) (u:ad),BindsTo s fd ⟨[u],[]⟩ [("script",u)])/\∀base:bd,(K w.params).In base->base.Ns aX mg->TabF base mg c pt->FnOk l.prog w (K w.params) mg base CX0 50 fa fd ["script"] (spU (K w.params) (cQp pt lp qual 63))) :
  PySem.W.WalkO q loose XP YP l.row.toRowW d [] (λf vs=>PySem.call f vs):=by
 obtain⟨c,D,hh,v,F⟩:=R;refine Att.attach_call hn hdf λw s₀ B mg mb fa o pm cd doc a vs ns G Y ho hd N z i hints hlen L=>?_;obtain⟨j,J⟩:=hY w _ Y;obtain⟨fd,O,hF⟩:=F w mg fa _ j G.T.g z (cJy j G.T.g (D _));exact cJw j G.T.g G.T.b G.T.builtins G.T.nolimit L i hints (Nat.le_trans hlen (by decide)) ⟨rfl,by decide,by decide⟩ ⟨PySem.W.codeHd_of_K j (hh _),G.T.bmain⟩ J (v _) hF O λH Z U=>eZf hlen Z U
end L2
namespace Toy
open PySem L2
abbrev s_most_had:Stmt:=top 10
theorem bJl:FnScope ["sets", "names"] ["sets", "names"] (aQ3 s_most_had):=fsc
abbrev lposM:Pos:=fQj s_most_had
def bQ0(pt:Addr):SpD:=λds S Q=>∃(ts:List (List Str)) (ns:List Str),ds=[.tup (ts.map tupS),tupS ns]/\S pt=some (.tb lposM (lamQual "most_had"))/\ts.length<=1000/\ns≠[]/\Q (.str (mst ts ns)) S
section
variable{P:aF}{w:aS}{K:au}{mg:Str->Option ad}{base:bd}{pt cc:Addr}
theorem bJm(T:Tx K mg "most_had" s_most_had)(B:Bs mg)(CD:bX8 K mg "most_had" cc)(TF:TabF base mg cc pt)(d_how_many_have:Df P w K mg base 1 "how_many_have" ["sets", "name"] (spU K aZn)):Df P w K mg base 4 "most_had" ["sets", "names"] (spU K (bQ0 pt)):=by
 refine fQe T CD bJl (λF=>F.binds λ_ _ _ _ _ _=>us2 λ_ _=>rfl) ?_ λf A outer s H E J=>⟨_,(aQ6 (aQg (fQf (z:="sets") J rfl B.max TF (dv 1) ⟨rfl,rfl,rfl,rfl,by decide,(show("name":Str)∉[("sets":Str), "names"] from by decide),rfl,rfl⟩ (λ_ _ _ _ _=>aQa d_how_many_have (J.in1.deeper _) rfl (aQ0 (dv 1) (aQ0 (dv 0) aQ1)))))),?_⟩
 ·rintro ds S Q ⟨ts,ns,rfl,_⟩;rfl
 ·rintro ds S Q ⟨ts,ns,rfl,N,hl,L,q⟩;refine⟨N,ns.map D.str,λi=>(hmh ts (ns.getD i ⟨#[]⟩):Int),rfl,λz=>L (List.map_eq_nil_iff.mp z),λi x v=>?_,λx v=>?_⟩
  ·rw[aJ,bR] at v;obtain⟨n,j,rfl⟩:=v;refine⟨ts,n,rfl,hl,?_,rfl⟩;show D.int (hmh ts n:Nat)=D.int (hmh ts (ns.getD i ⟨#[]⟩):Nat);rw[ah,j];rfl
  ·rw[am,aJ,bR] at v;obtain⟨n,j,rfl⟩:=v;have e:mst ts ns=n:=by
    unfold mst;rw[ah,j];rfl
   rw[e] at q;exact aQi q
end
abbrev s_names_of:Stmt:=top 5
theorem sc_names_of:FnScope ["sets"] ["sets"] (aQ3 s_names_of):=fsc
def aJ1:SpD:=λds S Q=>∃(ts:List (List Str)),ds=[.tup (ts.map tupS)]/\ts.length<=9999/\ts.flatten.length<=240/\Q (tupS (nms ts)) S
section
variable{P:aF}{w:aS}{K:au}{mg:Str->Option ad}{base:bd}{pt cc:Addr}
theorem bJn(T:Tx K mg "names_of" s_names_of)(B:Bs mg):Df P w K mg base 1 "names_of" ["sets"] (spU K aJ1):=by
 refine aZu T sc_names_of (λF=>F.binds λ_ _ _ _ _ _=>us1 λ_=>rfl) ?_ λf cdv A outer s H E Y=>⟨_,(aQ6 (aQg (aZ0 rfl B.tuple (aQ0 (eQt (N':=["one", "name"]) (oc:=none) (b:=false) [0,1] [1] Y rfl B.sorted rfl sc_names_of.nd (λ_ _ _=>cZ8 _ _ _ _ _ _ _ _ _ _ _ _) (.own (.own .nil)) (aQj rfl) (aZo (dv 0)) (cg_name (i:=0)) (λ_ _ _ _ _=>aQf (i:=0) (nd_ ["one", "name"]) rfl (bA rfl) (.inr rfl)) (λ_ _ _ _ _=>aQp) (cJj (cg_name (i:=1)) fQa) (λ_ _ _ _ _ _=>dQf (m:=λacc=>emitOfS _ acc _) rfl rfl rfl (λ_=>cZ9 _ _ _ _ _ _ _ _ _ _ _ _) (by exact PID.o (aZo (dv 0))) (aQf (i:=1) (nd_ ["one", "name"]) rfl (bA rfl) (.inr rfl)) (aQp) (dZ6 (kn:=cZa _ _ _) rfl (lt10 Y) rfl rfl rfl (by exact PD.o (dv 1))) (λ_=>rfl) (λ_=>rfl) (λ_=>rfl) (λ_=>rfl) (λ_=>rfl))) aQ1)))),?_⟩
 ·rintro ds S Q ⟨ts,rfl,_⟩;rfl
 ·rintro ds S Q ⟨ts,rfl,hl,hs,q⟩;have sub:∀i:Nat,((ts.take i).flatten).length<=240:=λi=>by have e:=congrArg (λl:List (List Str)=>l.flatten.length) (bb i ts);simp only[dz,aA] at e;omega
  refine⟨ts.map tupS,rfl,aXb (λi acc S'=>S'=S/\acc=((ts.take i).flatten).map D.str) ⟨rfl,rfl⟩ ?_ ?_⟩
  ·rintro i x acc S' N z ⟨rfl,rfl⟩ hN;rw[aJ,bR] at z;obtain⟨t,U,rfl⟩:=z;refine⟨trivial,t.map D.str,rfl,aXb (λj acc L=>L=S'/\acc=((ts.take i).flatten++t.take j).map D.str) ⟨rfl,by rw[jp,bB]⟩ ?_ ?_⟩
   ·rintro j y acc L N2 O ⟨rfl,rfl⟩ J;rw[aJ,bR] at O;obtain⟨n,hn,rfl⟩:=O;refine⟨trivial,n,rfl,?_,J _ _ ⟨rfl,?_⟩⟩
    ·have b1:=sub (i+1);rw[bT,U,dz,aA] at b1;have b2:(t.take j).length<=(Option.some t).toList.flatten.length:=by
      show _<=[t].flatten.length;rw[aR];simp;omega
     rw[am,aA];omega
    ·rw[bT,hn];simp
   ·rintro acc L ⟨rfl,rfl⟩;rw[am,dJ];refine⟨trivial,hN _ _ ⟨rfl,?_⟩⟩;rw[bT,U,dz];simp
  ·rintro acc S' ⟨rfl,rfl⟩;rw[am,dJ];refine⟨trivial,ts.flatten,rfl,λout nd mem=>?_⟩;have v:∀x,x∈out↔∃t∈ts,x∈t:=λx=>(mem x).trans d4;refine⟨?_,λZ=>?_⟩
   ·have:out.length<=ts.flatten.length:=nd.length_le_of_subset λx z=>(mem x).mp z
    omega
   ·rw[fQc Z v];exact⟨_,rfl,aQi q⟩
end
abbrev s_has_all:Stmt:=top 1
theorem sc_has_all:FnScope ["one", "row"] ["one", "row"] (aQ3 s_has_all):=fsc
section
variable{P:aF}{w:aS}{K:au}{mg:Str->Option ad}{base:bd}{pt cc:Addr}
theorem cZd(T:Tx K mg "has_all" s_has_all)(B:Bs mg):Df P w K mg base 1 "has_all" ["one", "row"] (spU K bQj):=by
 refine aZu T sc_has_all (λF=>F.binds λ_ _ _ _ _ _=>us2 λ_ _=>rfl) ?_ λf L A outer s H E z=>⟨_,(aQ6 (aQg (fZk rfl B.all (aQ0 (aQv (N':=["name", "one"]) (oc:=none) (b:=false) [0] [] rfl sc_has_all.nd (λ_ _ _=>aQd ..) (.own (.cap (i:=0) rfl (by decide +kernel) .nil)) (aQj rfl) (aZo (dv 1)) (cg_name (i:=0)) (λ_ _ _ _ _=>aQf (i:=0) (nd_ ["name", "one"]) rfl (bA rfl) (.inr rfl)) (λ_ _ _ _ _=>aQp) aQm (λ_ _ _ _ _ _=>aQk rfl (by exact PD.o (e_in z (dv 0) (dv 1))))) aQ1)))),?_⟩
 ·rintro ds S Q ⟨α,dα,E,one,row,j,J,rfl,_⟩;rfl
 ·rintro ds S Q ⟨α,dα,E,one,row,j,J,rfl,N,h1,h2,hl,q⟩;have go:∀Q':List D->Sto->Prop,Q' (row.map λd=>D.bl (decide (d∈one))) S->aZ2 (aQu 0) dYes (aJ4 (dOp (inD false) (dVar 0) (dVar 1))) (λ_=>True) [none,some j] (row.map E.e) [] S Q':=λQ' v =>
   aZ3 (f:=λd=>D.bl (decide (d∈one))) (λd hd Q q=>in_e (neg:=false) (E:=E) (by omega) h1.sq q) (aQc (by show 0+row.length<=_;omega)) v
  have e:(row.map λd=>decide (d∈one)).all id=has one row:=by unfold has;rw[gP];rfl
  rw[<- e] at q;rcases h2 with rfl|rfl
  ·exact⟨row.map E.e,rfl,go _ ⟨row.map λd=>decide (d∈one),by show _=_;rw[bW];rfl,aQi q⟩⟩
  ·exact⟨row.map E.e,rfl,go _ ⟨row.map λd=>decide (d∈one),by show _=_;rw[bW];rfl,aQi q⟩⟩
end
abbrev s_without_names:Stmt:=top 3
theorem sc_without_names:FnScope ["one", "row"] ["one", "row"] (aQ3 s_without_names):=fsc
section
variable{P:aF}{w:aS}{K:au}{mg:Str->Option ad}{base:bd}{pt cc:Addr}
theorem aJ7(T:Tx K mg "without_names" s_without_names)(B:Bs mg):Df P w K mg base 1 "without_names" ["one", "row"] (spU K aZm):=by
 refine aZu T sc_without_names (λF=>F.binds λ_ _ _ _ _ _=>us2 λ_ _=>rfl) ?_ λf N A outer s H E J=>⟨_,(aQ6 (aQg (aZ0 rfl B.tuple (aQ0 (aQv (N':=["name", "row"]) (oc:=none) (b:=false) [0] [] rfl sc_without_names.nd (λ_ _ _=>aQd ..) (.own (.cap (i:=1) rfl (by decide +kernel) .nil)) (aQj rfl) (aZo (dv 0)) (cg_name (i:=0)) (λ_ _ _ _ _=>aQf (i:=0) (nd_ ["name", "row"]) rfl (bA rfl) (.inr rfl)) (λ_ _ _ _ _=>aXq (by exact(dX8 J (dv 0) (dv 1)))) aQm (λ_ _ _ _ _ _=>aQk rfl (by exact PD.o (dv 0)))) aQ1)))),?_⟩
 ·rintro ds S Q ⟨α,dα,E,one,row,L,j,rfl,_⟩;rfl
 ·rintro ds S Q ⟨α,dα,E,one,row,L,j,rfl,O,h1,h2,hl,q⟩;have go:∀Q':List D->Sto->Prop,Q' ((wo one row).map E.e) S->aZ2 (aQu 0) (aXn (dOp (inD true) (dVar 0) (dVar 1))) (aJ4 (dVar 0)) (λ_=>True) [none,some j] (one.map E.e) [] S Q':=λQ' v =>
   aZh (p:=λn=>!decide (n∈row)) (f:=E.e) (λx z Q q=>in_t (neg:=true) (E:=E) (by omega) h2.sq q) (λx z _ Q q=>q) (aQc (by show 0+one.length<=_;omega)) v
  rcases h1 with rfl|rfl
  ·exact⟨one.map E.e,rfl,go _ ⟨_,rfl,aQi q⟩⟩
  ·exact⟨one.map E.e,rfl,go _ ⟨_,rfl,aQi q⟩⟩
end
abbrev s_link_of:Stmt:=top 6
theorem sc_link_of:FnScope ["sets", "row"] ["sets", "row"] (aQ3 s_link_of):=fsc
def bQ1:SpD:=λds S Q=>∃(ts:List (List Str)) (row:List Str),ds=[.tup (ts.map tupS),tupS row]/\ts.length<=1000/\row.length<=9999/\(∀t∈ts,t.length<=9999)/\Q (.tup ((lnk ts row).map tupS)) S
section
variable{P:aF}{w:aS}{K:au}{mg:Str->Option ad}{base:bd}{pt cc:Addr}
theorem cZe(T:Tx K mg "link_of" s_link_of)(B:Bs mg)(d_has_all:Df P w K mg base 1 "has_all" ["one", "row"] (spU K bQj))(d_without_names:Df P w K mg base 1 "without_names" ["one", "row"] (spU K aZm)):Df P w K mg base 2 "link_of" ["sets", "row"] (spU K bQ1):=by
 refine aZu T sc_link_of (λF=>F.binds λ_ _ _ _ _ _=>us2 λ_ _=>rfl) ?_ λf z A outer s H E j=>⟨_,(aQ6 (aQg (aZ0 rfl B.tuple (aQ0 (aZ9 (b:=false) j rfl B.sorted (aQ0 (aQv (N':=["one", "row"]) (oc:=none) (b:=false) [0] [] rfl sc_link_of.nd (λ_ _ _=>aQd ..) (.own (.cap (i:=1) rfl (by decide +kernel) .nil)) (aQj rfl) (aZo (dv 0)) (cg_name (i:=0)) (λ_ _ _ _ _=>aQf (i:=0) (nd_ ["one", "row"]) rfl (bA rfl) (.inr rfl)) (λ_ _ _ _ _=>aXq (by exact(cQ8 (aQa d_has_all j rfl (aQ0 (dv 0) (aQ0 (dv 1) aQ1)))))) aQm (λ_ _ _ _ _ _=>aQk rfl (by exact PD.o (aQa d_without_names j rfl (aQ0 (dv 0) (aQ0 (dv 1) aQ1)))))) aQ1)) aQ1)))),?_⟩
 ·rintro ds S Q ⟨ts,row,rfl,_⟩;rfl
 ·rintro ds S Q ⟨ts,row,rfl,hl,j,he,q⟩;refine⟨_,rfl,aZh (p:=λt=>has t row) (f:=λt=>tupS (wo t row)) (λt v Q q=>⟨Str,inferInstance,strE,t,row,tupS t,tupS row,rfl,by decide,.inl rfl,.inl rfl,j,q⟩) (λt v _ Q q=>⟨Str,inferInstance,strE,t,row,tupS t,tupS row,rfl,by decide,.inl rfl,.inl rfl,he t v,q⟩) (aQc (by show 0+ts.length<=_;omega)) ?_⟩
  exact .inr (.inr ⟨(ts.filter λt=>has t row).map λt=>wo t row,by rw[bS,bW];rfl,_,rfl,aQi q⟩)
end
abbrev s_put_again:Stmt:=top 12
theorem sc_put_again:FnScope ["chosen", "taken"] ["chosen", "taken"] (aQ3 s_put_again):=fsc
def aJ2:SpD:=λds S Q=>∃(cs:List (List Str)) (tk:List Str),ds=[.tup (cs.map tupS),tupS tk]/\cs.length<=1000/\(∀t∈cs,t.length<=1000)/\tk.length<=1000/\Q (.tup ((pag cs tk).map tupS)) S
section
variable{P:aF}{w:aS}{K:au}{mg:Str->Option ad}{base:bd}{pt cc:Addr}
theorem bXe(T:Tx K mg "put_again" s_put_again)(B:Bs mg):Df P w K mg base 1 "put_again" ["chosen", "taken"] (spU K aJ2):=by
 refine aZu T sc_put_again (λF=>F.binds λ_ _ _ _ _ _=>us2 λ_ _=>rfl) ?_ λf z A outer s H E v=>⟨_,(aQ6 (aQg (aZ0 rfl B.tuple (aQ0 (aZ9 (b:=false) v rfl B.sorted (aQ0 (aQv (N':=["one", "taken"]) (oc:=none) (b:=false) [0] [] rfl sc_put_again.nd (λ_ _ _=>aQd ..) (.own (.cap (i:=1) rfl (by decide +kernel) .nil)) (aQj rfl) (aZo (dv 0)) (cg_name (i:=0)) (λ_ _ _ _ _=>aQf (i:=0) (nd_ ["one", "taken"]) rfl (bA rfl) (.inr rfl)) (λ_ _ _ _ _=>aQp) aQm (λ_ _ _ _ _ _=>aQk rfl (by exact PD.o (aZ0 rfl B.tuple (aQ0 (aZ9 (b:=false) v rfl B.sorted (aQ0 (aQs (k:=false) (dv 0) (dv 1)) aQ1)) aQ1))))) aQ1)) aQ1)))),?_⟩
 ·rintro ds S Q ⟨cs,j,rfl,_⟩;rfl
 ·rintro ds S Q ⟨cs,j,rfl,hl,he,D,q⟩;refine⟨_,rfl,aZ3 (f:=λt=>tupS (srS (t++j))) (λt h Q q=>⟨aQc (by rw[am,am];have:=he t h;omega),.inl ⟨t++j,by rw[cu];rfl,_,rfl,q⟩⟩) (aQc (by show 0+cs.length<=_;omega)) ?_⟩
  refine .inr (.inr ⟨cs.map λt=>srS (t++j),by rw[bS,bW];rfl,_,rfl,aQi q⟩)
end
end Toy
namespace L2
open PySem PySem.Spec PyProof.Rows
section
variable{prog:aF}{w:aS}{A:a4}{R:Result->ak->Prop}{s0:ak}{a I:Addr}{its:List ad}{bs:List Bool}
theorem cJz(hh:A.in1.handled=none)(haI:a≠I)(hI:s0.heap.objs.size<=I)(hl:bs.length=its.length)
  (tr:∀(i:Nat) v h,its[i]?=some v->Kp s0.heap h->∃b items,v=.ref b/\iA h b items/\(items.size:Int)<2^63/\bs[i]?=some (!items.isEmpty))
  (fin:∀h tk,Kp s0.heap h->R (.ok (.ret (.bool (bs.any id)))) {s0 with heap:=h,toks:=tk}) :
  ∀(left i:Nat) (h:bd) (tk:Nat),i+left=its.length->Kp s0.heap h->h.IsTupleIter I a i->h.IsTuple a its.toArray->(bs.take i).any id=false ->
   ew (aE prog w) A (.builtin "any.loop" ⟨[.ref I],[]⟩) R {s0 with heap:=h,toks:=tk}:=by
 have U:∀b o,s0.heap.get? b=some o->b∉[I]:=λb o e z=>absurd (aD e) (by rw[aU.mp z];exact Nat.not_lt.mpr hI)
 have W:=jq (prog:=prog) (w:=w) (A:=A.in1) hh I a haI its.toArray;have e1:its.toArray.size=its.length:=by simp
 rw[e1] at W;intro left
 induction left with
 |zero =>
  intro i h tk hi kp D B L;have e:i=its.length:=by omega
  subst e;rw[bi (by omega)] at L
  refine bM F.entry_any_loop ?_;rw[bq F.plain_any_loop _];show aG (aE prog w) A.in1 (eV (.ref I)>>=_) _ _ {s0 with heap:=h,toks:=tk}
  refine aa (W.done _ _ _ ⟨D,B⟩ λh1 j N=>aa (c7 (af ?_)))
  have:=fin h1 j λb o e=>N b o (U b o e) (kp b o e)
  rw[L] at this;exact this
 |succ left Z =>
  intro i h tk hi kp D B L;have O:i<its.length:=by omega
  refine bM F.entry_any_loop ?_;rw[bq F.plain_any_loop _];show aG (aE prog w) A.in1 (eV (.ref I)>>=_) _ _ {s0 with heap:=h,toks:=tk}
  refine aa (W.item i _ _ _ O ⟨D,B⟩ λv h1 j hv st N=>?_);have J:Kp s0.heap h1:=λb o e=>N b o (U b o e) (kp b o e);obtain⟨b,items,rfl,tb,hz,Y⟩:=tr i v h1 (by simpa using hv) J
  refine aa (bn (truthy_tuple tb hz (aa (ip ?_))));cases e:!items.isEmpty with
  |false =>
   rw[if_neg (by simp)]
   refine af ⟨cZ F.plain_any_loop _,Z (i+1) h1 _ (by omega) J st.1 st.2 ?_⟩
   rw[bT,Y,List.any_append,L,e];rfl
  |true =>
   rw[if_pos rfl];refine aa (c7 (af ?_))
   have:=fin h1 (j+1+1) J
   rw[show bs.any id=true from d3.mpr ⟨true,ao (by rw[Y,e]),rfl⟩] at this
   exact this
end
section
variable{X:Cx}{K:Fg}
theorem cZf(hK:X.K=K:=by rfl)(hc:X.calm=true:=by rfl):CallR X (.builtin "any") (λxs H Q=>∃a us,∃bs:List Bool,xs=[.ref a]/\SqT K H a us/\bs.length=us.length/\(∀(i:Nat) u,us[i]?=some u->∃b ys,u=.ref b/\SqT K H b ys/\bs[i]?=some (!ys.isEmpty))/\Q (.bl (bs.any id)) H):=by
 subst hK;intro pins s σ H xs us Q I r h;obtain⟨a,vs,bs,rfl,U,hl,O,q⟩:=h;obtain⟨u,rfl,rx⟩:=aZp r;cases rx;obtain⟨its,z,pl,_⟩:=I.tuple U;obtain⟨o,Y,_⟩:=id pl;have B:a<s.heap.objs.size:=aD Y;refine call_function_tree F.kind_any F.plain_any F.entry_any (F.args_any1 _) ?_;unfold cR.«any»;refine aa (m:=oneArg "any" _) (af ?_);refine aa (fM (show s.heap.IsTuple a its.toArray from pl) ?_)
 have D:Kp s.heap (s.heap.push {cls:=.type "tuple_iterator",data:=.fields #[.ref a,.int 0 0]}):=λb o e=>ae _ e;refine af ⟨cZ F.plain_any_loop _,cJz (s0:=s) (by have:=I.ok.hd hc;simp[this]) (Nat.ne_of_lt B) (Nat.le_refl _) (by rw[hl,z.length]) (λi v h J kp=>?_) (λh tk kp=>⟨.bl _,H,I.kept kp,rfl,q⟩) its.length 0 _ _ (Nat.zero_add _) D ⟨_,av _ rfl,rfl,rfl⟩ ((show s.heap.IsTuple a its.toArray from pl).at λo e=>D _ o e) rfl⟩
 have hi:i<vs.length:=by rw[z.length];exact(aC.mp J).1
 obtain⟨u,h1,h2⟩:=z.get (ag hi);rw[J] at h1;cases h1;obtain⟨b,ys,e,L,Z⟩:=O i _ (ag hi);rw[e] at h2;cases h2;obtain⟨ws,j,N,hw⟩:=(I.kept (t':=s.toks) kp).tuple L;have hn:=aJd;refine⟨b,ws.toArray,rfl,N,by simp only[ar];have:=j.length;omega,?_⟩
 rw[Z,aXg j]
def eZg:RCD:=λds S Q=>∃xs:List (List D),ds=[.tup (xs.map D.tup)]/\Q (.bl (xs.any λx=>!x.isEmpty)) S
variable{e:Expr}{t:AD}{p pos:Pos}
theorem eZh:aJr K (λxs H Q=>∃a us,∃bs:List Bool,xs=[.ref a]/\SqT K H a us/\bs.length=us.length/\(∀(i:Nat) u,us[i]?=some u->∃b ys,u=.ref b/\SqT K H b ys/\bs[i]?=some (!ys.isEmpty))/\Q (.bl (bs.any id)) H) eZg:=by
 intro F S H ds L Q QD r l h c;obtain⟨xs,rfl,q⟩:=h;obtain⟨v,rfl,j⟩:=l.one;unfold RepV at j;obtain⟨a,us,rfl,ta,l⟩:=j;have el:us.length=xs.length:=by rw[l.length,am]
 refine⟨a,us,xs.map λx=>!x.isEmpty,rfl,ta.sq,by rw[am,el],λi u J=>?_,?_⟩
 ·obtain⟨d,hd,z⟩:=l.get' J;rw[aJ,bR] at hd;obtain⟨x,D,rfl⟩:=hd;unfold RepV at z;obtain⟨b,ys,rfl,tb,B⟩:=z;refine⟨b,ys,rfl,tb.sq,?_⟩;rw[aJ,D]
  have:=B.length
  cases x <;> cases ys <;> first|rfl|simp at this
 ·rw[jb];exact c.bl r q
theorem fQk(hg:Gl X "any")(hm:X.mg "any"=none)(ha:PAD K X [e] t)(hK:X.K=K:=by rfl)(hc:X.calm=true:=by rfl)(he:az [e] X.env=(false,eval e X.env)::az [] X.env:=by rfl)(hpl:(cx pos (az [] X.env)).any (·.1)=false:=by rfl):PD K X (.Call (.Name "any" p) [e] [] pos) (dCB eZg t):=aZs (cZf hK hc) eZh hg hm dZt ha (by decide) (by decide) he hpl
end
end L2
namespace Toy
open PySem L2
abbrev s_flower_by_way:Stmt:=top 8
theorem sc_flower_by_way:FnScope ["sets", "many", "left", "taken", "trace", "chosen", "name"] ["sets", "many"] (aQ3 s_flower_by_way):=fsc
def dQ0(pt:Addr):SpD:=λds S Q=>∃(ts:List (List Str)) (m:Nat),ds=[.tup (ts.map tupS),.int m]/\S pt=some (.tb lposM (lamQual "most_had"))/\Wc 6 ts/\m<=60/\Q (wayD m ts) S
section
variable{P:aF}{w:aS}{K:au}{mg:Str->Option ad}{base:bd}{pt cc:Addr}
theorem aJ8(T:Tx K mg "flower_by_way" s_flower_by_way)(B:Bs mg)(d_chosen_of:Df P w K mg base 4 "chosen_of" ["sets"] (spU K aJ0))(d_most_had:Df P w K mg base 4 "most_had" ["sets", "names"] (spU K (bQ0 pt)))(d_names_of:Df P w K mg base 4 "names_of" ["sets"] (spU K aJ1))(d_link_of:Df P w K mg base 4 "link_of" ["sets", "row"] (spU K bQ1))(d_put_again:Df P w K mg base 4 "put_again" ["chosen", "taken"] (spU K aJ2)):Df P w K mg base 5 "flower_by_way" ["sets", "many"] (spU K (dQ0 pt)):=by
 refine aZu T sc_flower_by_way (λF=>F.binds λ_ _ _ _ _ _=>us2 λ_ _=>rfl) ?_ λf cdv A outer s H E N=>⟨_,(aQ2 (aQe (i:=2) sc_flower_by_way.nd rfl (bA rfl) (dv 0))
  (aQ2 (aQe (i:=3) sc_flower_by_way.nd rfl (bA rfl) (aZb aQ1))
  (aQ2 (aQe (i:=4) sc_flower_by_way.nd rfl (bA rfl) (bQ4 (b:=true) aQ1))
  (aQ2 (aQe (i:=5) sc_flower_by_way.nd rfl (bA rfl) (aQa d_chosen_of N rfl (aQ0 (dv 2) aQ1)))
  (aQ2 (cQa dE (PWD.pt (cXs (cXq N (aX0 rfl B.len (aQ0 (dv 5) aQ1)) (dv 1)) (bJ3 (cQ8 (fQk rfl B.any (aQ0 (dv 5) aQ1)))))) (aQ2 (aQe (i:=6) sc_flower_by_way.nd rfl (bA rfl) (aQa d_most_had N rfl (aQ0 (dv 2) (aQ0 (aQa d_names_of N rfl (aQ0 (dv 5) aQ1)) aQ1))))
  (aQ2 (bZ1 (bZ3 (dv 4) (aQ0 (aZb (aQ0 (aX0 rfl B.len (aQ0 (dv 5) aQ1)) (aQ0 (dv 6) (aQ0 (aX0 rfl B.len (aQ0 (dv 2) aQ1)) aQ1)))) aQ1)))
  (aQ2 (aQe (i:=3) sc_flower_by_way.nd rfl (bA rfl) (aQs (k:=false) (dv 3) (aZb (aQ0 (dv 6) aQ1))))
  (aQ2 (aQe (i:=2) sc_flower_by_way.nd rfl (bA rfl) (aQa d_link_of N rfl (aQ0 (dv 2) (aQ0 (aZb (aQ0 (dv 6) aQ1)) aQ1))))
  (aQ6 (aQe (i:=5) sc_flower_by_way.nd rfl (bA rfl) (aQa d_chosen_of N rfl (aQ0 (dv 2) aQ1)))))))))
  (aQ2 (bZ1 (bZ3 (dv 4) (aQ0 (aZb (aQ0 (aX0 rfl B.len (aQ0 (dv 5) aQ1)) (aQ0 cXm (aQ0 (aX0 rfl B.len (aQ0 (dv 2) aQ1)) aQ1)))) aQ1)))
  (aQ2 (aJs (cXq N (aX0 rfl B.len (aQ0 (dv 5) aQ1)) (dv 1)) (aQ6 (aQg (aZb (aQ0 cXm (aQ0 (aZ0 rfl B.tuple (aQ0 (dv 4) aQ1)) aQ1))))) aZ6)
  (aQ6 (aQg (aZb (aQ0 (aQa d_put_again N rfl (aQ0 (e_sl (b:=false) (dv 5) bZ0 (aXp (dv 1))) (aQ0 (dv 3) aQ1))) (aQ0 (aZ0 rfl B.tuple (aQ0 (dv 4) aQ1)) aQ1)))))))))))),?_⟩
 ·rintro ds S Q ⟨ts,m,rfl,_⟩;rfl
 ·rintro ds S Q ⟨ts,m,rfl,hP,hW,hm,q⟩;refine⟨aQc (by decide),aQc (by decide),λlp L=>?_⟩
  have hpl:pt≠lp:=by rintro rfl;rw[L] at hP;cases hP
  have lim:∀{k:Nat}{us:List (List Str)},Wc k us->k<=6->∀t∈us,t.length<=9999:=λh hk t O=>by have:=(h.each t O).2;omega
  refine⟨ts,rfl,by have:=hW.len;omega,lim hW (Nat.le_refl _),?_⟩
  refine⟨λf Γ S'=>∃ (us:List (List Str)) (j:List (Nat × Str × Nat)) (Z:Option D),Γ=[some (.tup (ts.map tupS)),some (.int m),some (.tup (us.map tupS)),some (tupS (j.map λs=>s.2.1)),some (.ref lp),some (.tup ((chs us).map tupS)),Z]/\S' lp=some (.lst (j.map stD))/\Wc f us/\f + j.length<=6/\wayS m 6 ts=(j++(wayS m f us).1,(wayS m f us).2)/\∀ b o,S b=some o->S' b=some o,
   ⟨6,ts,[],none,rfl,aQ5,hW,Nat.le_refl _,rfl,λb o e=>by rw[aQ8 (by rintro rfl;rw[L] at e;cases e)];exact e⟩,?_⟩
  rintro f Γ S' ⟨us,j,Z,rfl,Y,J,hf,hw,off⟩;have cl:(chs us).length<=130:=Nat.le_trans (aZv us).length_le J.len;have tst:∀Q:Bool->Sto->Prop,Q (goW m us) S'->dAnd (aXn (dOp ltD (dCB lenD (bXz (dVar 5) dNil)) (dVar 1))) (dTru (dCB eZg (bXz (dVar 5) dNil))) [some (.tup (ts.map tupS)),some (.int m),some (.tup (us.map tupS)),some (tupS (j.map λs=>s.2.1)),some (.ref lp),some (.tup ((chs us).map tupS)),Z] S' Q:=λQ v=>by
   refine⟨_,rfl,_,rfl,?_⟩;rw[am];have e1:decide (((chs us).length:Int)<(m:Int))=decide ((chs us).length<m):=decide_eq_decide.mpr (by omega)
   rw[e1];unfold goW at v;cases e:decide ((chs us).length<m) with
   |false =>
    rw[e] at v;exact ite2 (λh=>nomatch h) λ_=>v
   |true =>
    rw[e,iy] at v;refine ite2 (λ_=>⟨(chs us).map λt=>t.map D.str,by rw[bW];rfl,eZ6 ?_⟩) λh=>absurd rfl h
    have e2:((chs us).map λt=>t.map D.str).any (λx=>!x.isEmpty)=(chs us).any λt=>!t.isEmpty:=by
     rw[jb]
     congr 1
     funext t;cases t <;> rfl
    rw[e2];exact v
  refine tst _ (eZ7 (λg=>?_) λg=>?_)
  ·have gn:=cJq g;cases f with
   |zero=>rw[cJr J] at g;cases g
   |succ f =>
   have hl:=J.link (nmW us);have hn:=J.nms;refine⟨chs us,rfl,by omega,Nat.le_trans (dZh λt O=>(J.each t O).1) (by omega),us,nms (chs us),rfl,off _ _ hP,by have:=J.len;omega,gn,?_⟩
   refine⟨⟨_,Y⟩,_,rfl,_,rfl,aQc (by show 3<=9999;decide),_,Y,by rw[am,bf];omega,?_⟩
   refine⟨aQc (by show 1<=9999;decide),aQc (by rw[am,am];show j.length+1<=9999;omega),?_⟩
   refine⟨aQc (by show 1<=9999;decide),us,[nmW us],rfl,by have:=J.len;omega,by show 1<=9999;decide,lim J (by omega),?_⟩
   refine⟨lnk us [nmW us],rfl,by have:=hl.len;omega,lim hl (by omega),?_⟩
   refine⟨f,Nat.lt_succ_self f,lnk us [nmW us],j++[((chs us).length,nmW us,us.length)],some (.str (nmW us)),?_,?_,hl,by rw[aA];show f+(j.length+1)<=6;omega,?_,λb o e=>?_⟩
   ·rw[cu];unfold tupS;rw[cu];rfl
   ·rw[aQ5,cu,am,am];rfl
   ·rw[hw,bZe g,aV];rfl
   ·have e':=off b o e;rw[aQ8 (by rintro rfl;rw[L] at e;cases e)];exact e'
  ·have e:wayS m 6 ts=(j,us):=by rw[hw,aXc g,bB]
   refine⟨⟨_,Y⟩,_,rfl,_,rfl,aQc (by show 3<=9999;decide),_,Y,by rw[am,bf];omega,?_⟩
   have v:Q (.tup [opT (if (chs us).length<m then none else some (pag ((chs us).take m) (j.map λs=>s.2.1))),.tup (j.map stD++[laD us])]) S:=by
    have:=q
    unfold wayD flW trD tkW at this;rw[e] at this;exact this
   rw[am,am];have U:supd S' lp (.lst (j.map stD++[laD us])) lp=some (.lst (j.map stD++[laD us])):=aQ5;have back:∀a o,S a=some o->supd S' lp (.lst (j.map stD++[laD us])) a=some o:=λa o e=>by rw[aQ8 (by rintro rfl;rw[L] at e;cases e)];exact off a o e
   refine⟨_,rfl,_,rfl,ite2 (λc1=>?_) λc1=>?_⟩
   ·have c2:(chs us).length<m:=by have:=of_decide_eq_true c1;rw[am] at this;omega
    rw[if_pos c2] at v;refine⟨_,U,aQc (by show 2<=9999;decide),?_⟩
    exact aXs (S':=S) back v
   ·have c2:¬ (chs us).length<m:=λz=>c1 (decide_eq_true (by rw[am];omega))
    rw[if_neg c2] at v;have hm4:∀t∈(chs us).take m,t.length<=1000:=λt O=>by have:=(J.each t ((aZv us).subset (cL O))).2;omega
    refine⟨m,rfl,(chs us).take m,j.map λs:Nat×Str×Nat=>s.2.1,congrArg (λz:List D=>[D.tup z,tupS (j.map λs:Nat×Str×Nat=>s.2.1)]) (dZe (chs us) m),by rw[aR];omega,hm4,by rw[am];omega,_,U,aQc (by show 2<=9999;decide),aXs (S':=S) back v⟩
end
abbrev s_law_core:Stmt:=top 20
theorem sc_law_core:FnScope ["some", "shared", "k", "j"] ["some"] (aQ3 s_law_core):=fsc
def aXf:SpD:=λds S Q=>∃(ts:List (List Str)) (c:List Str),ds=[.tup (ts.map tupS)]/\2<=ts.length/\ts.length<=60/\(∀t∈ts,t.length<=60)/\Fm ts c/\Q (tupS c) S
section
variable{P:aF}{w:aS}{K:au}{mg:Str->Option ad}{base:bd}{pt cc:Addr}
theorem bJo(T:Tx K mg "_law_core" s_law_core)(B:Bs mg):Df P w K mg base 1 "_law_core" ["some"] (spU K aXf):=by
 refine aZu T sc_law_core (λF=>F.binds λ_ _ _ _ _ _=>us1 λ_=>rfl) ?_ λf cdv A outer s H E Y=>⟨_,(aQ2 (eQd (i:=1) rfl (bA rfl) (N':=["name", "some"]) (oc:=none) (b:=false) [0] [] rfl sc_law_core.nd (λ_ _ _=>aQd ..) (.own (.cap (i:=0) rfl (by decide +kernel) .nil)) (aQj rfl) (aZo (e_ix (dv 0) aQ4)) (cg_name (i:=0)) (λ_ _ _ _ _=>aQf (i:=0) (nd_ ["name", "some"]) rfl (bA rfl) (.inr rfl)) (λ_ _ _ _ _=>aXq (by exact(eQ3 Y (dv 0) (e_ix (dv 1) aQ4)))) aQm (λ_ _ _ _ _ _=>aQk rfl (by exact PD.o (dv 0))))
  (aQ2 (aJt dE rfl (aZg rfl B.range (aQ0 (aX0 rfl B.len (aQ0 (dv 0) aQ1)) aQ1)) (aZ1 (i:=2) sc_law_core.nd rfl (ic rfl)) (aQ6 (aJt dE rfl (aZg rfl B.range (aQ0 (dv 2) aQ1)) (aZ1 (i:=3) sc_law_core.nd rfl (bA rfl)) (aQ6 (aJs (cXp Y (aQv (N':=["name", "some", "k"]) (oc:=none) (b:=false) [0] [] rfl sc_law_core.nd (λ_ _ _=>aQd ..) (.own (.cap (i:=0) rfl (by decide +kernel) (.cap (i:=2) rfl (by decide +kernel) .nil))) (aQj rfl) (aZo (e_ix (dv 0) (dv 3))) (cg_name (i:=0)) (λ_ _ _ _ _=>aQf (i:=0) (nd_ ["name", "some", "k"]) rfl (bA rfl) (.inr rfl)) (λ_ _ _ _ _=>aXq (by exact(eQ3 Y (dv 0) (e_ix (dv 1) (dv 2))))) aQm (λ_ _ _ _ _ _=>aQk rfl (by exact PD.o (dv 0)))) (dv 1)) (aQ6 (aQg cXm)) aZ6)))))
  (aQ6 (aQg (aZ0 rfl B.tuple (aQ0 (dv 1) aQ1)))))),?_⟩
 ·rintro ds S Q ⟨ts,c,rfl,_⟩;rfl
 ·rintro ds S Q ⟨ts,c,rfl,h2,h60,he,hF,q⟩;have at':∀(j:Nat) t,ts[j]?=some t->atI (ts.map tupS) (j:Int)=some (tupS t):=λj t h=>aZi (by rw[aJ,h];rfl)
  have all:∀i j,i<j->∀(h:j<ts.length),∀a b,ts[i]?=some a->ts[j]?=some b->meG a b=c:=λi j hij h a b z v=>by
   obtain⟨h1,rfl⟩:=aC.mp z;obtain⟨h2,rfl⟩:=aC.mp v;exact bE.mp hF i j h1 h2 hij
  have has:∀j,j<ts.length->∃t,ts[j]?=some t/\t.length<=60:=λj L=>⟨ts[j],ag L,he _ (db L)⟩;have cl:c.length<=60:=by
   obtain⟨a,z,la⟩:=has 0 (by omega)
   obtain⟨b,v,lb⟩:=has 1 (by omega)
   rw[<- all 0 1 (by omega) (by omega) a b z v]
   exact Nat.le_trans (List.length_filter_le _ _) la
  have ok:okE 9 (.lst (c.map D.str)) (.lst (c.map D.str))=true:=by
   show((c.map D.str).zip (c.map D.str)).all (λp=>okE 8 p.1 p.2)=true;rw[bF];rintro⟨x,y⟩ hp;obtain⟨_,_,rfl⟩:=bI.mp (dA hp).1;obtain⟨_,_,rfl⟩:=bI.mp (dA hp).2
   rfl
  obtain⟨a,z,la⟩:=has 0 (by omega)
  obtain⟨b,v,lb⟩:=has 1 (by omega)
  refine⟨_,_,rfl,at' 0 a z,a.map D.str,rfl,aZh (p:=λn=>decide (n∈b)) (f:=D.str) (λn Z Q q=>?_) (λn Z _ Q q=>q) (aQc (by show 0+a.length<=9999;omega)) ?_⟩
  ·exact⟨_,_,rfl,at' 1 b v,in_t (E:=strE) (neg:=false) (by decide) rfl q⟩
  rw[bS,show(a.filter λn=>decide (n∈b))=c from all 0 1 (by omega) (by omega) a b z v]
  refine⟨_,rfl,⟨by omega,by rw[am];omega⟩,?_⟩
  rw[am,b8];refine aX4 (λi Γ S'=>∃(O J:Option D),Γ=[some (.tup (ts.map tupS)),some (.lst (c.map D.str)),O,J]/\S'=S) ⟨none,none,rfl,rfl⟩ ?_ ?_
  ·rintro i x Γ S' N U ⟨O,J,rfl,rfl⟩ hN;obtain⟨hi,rfl⟩:=bX4 U;refine⟨trivial,⟨by omega,by omega⟩,?_⟩
   rw[b8];refine aX4 (λj Γ S2=>∃(J:Option D),Γ=[some (.tup (ts.map tupS)),some (.lst (c.map D.str)),some (.int (i:Nat)),J]/\S2=S') ⟨J,rfl,rfl⟩ ?_ ?_
   ·rintro j x Γ S2 N2 U ⟨J,rfl,rfl⟩ hN2;obtain⟨L,rfl⟩:=bX4 U;obtain⟨a,z,la⟩:=has j (by omega)
    obtain⟨b,v,lb⟩:=has i (by omega)
    refine⟨trivial,_,_,rfl,at' j a z,a.map D.str,rfl,aZh (p:=λn=>decide (n∈b)) (f:=D.str) (λn Z Q q=>⟨_,_,rfl,at' i b v,in_t (E:=strE) (neg:=false) (by decide) rfl q⟩) (λn Z _ Q q=>q) (aQc (by show 0+a.length<=9999;omega)) ?_⟩
    rw[bS,show(a.filter λn=>decide (n∈b))=c from all j i L (by omega) a b z v]
    refine⟨ok,false,cJm rfl,?_⟩;exact ite2 (λh=>nomatch h) λ_=>hN2 _ _ ⟨_,rfl,rfl⟩
   ·rintro Γ S2 ⟨J,rfl,rfl⟩;exact⟨trivial,hN _ _ ⟨_,_,rfl,rfl⟩⟩
  ·rintro Γ S' ⟨O,J,rfl,rfl⟩;exact⟨trivial,_,rfl,aQi q⟩
end
end Toy
namespace L2
open PySem Toy
end L2
namespace Toy
open PySem L2
abbrev s_law_right:Stmt:=top 23
theorem sc_law_right:FnScope ["sets", "many", "found", "trace", "core"] ["sets", "many"] (aQ3 s_law_right):=fsc
def aX2(pt:Addr):SpD:=λds S Q=>∃(ts:List (List Str)) (m:Nat),ds=[.tup (ts.map tupS),.int m]/\S pt=some (.tb lposM (lamQual "most_had"))/\Wc 6 ts/\2<=m/\m<=6/\m<=(chs (wayS m 6 ts).2).length/\Q (.bl true) S
section
variable{P:aF}{w:aS}{K:au}{mg:Str->Option ad}{base:bd}{pt cc:Addr}
theorem bXf(T:Tx K mg "_law_right" s_law_right)(B:Bs mg)(d_flower_by_way:Df P w K mg base 5 "flower_by_way" ["sets", "many"] (spU K (dQ0 pt)))(d_law_core:Df P w K mg base 5 "_law_core" ["some"] (spU K aXf)):Df P w K mg base 6 "_law_right" ["sets", "many"] (spU K (aX2 pt)):=by
 refine aZu T sc_law_right (λF=>F.binds λ_ _ _ _ _ _=>us2 λ_ _=>rfl) ?_ λf cdv A outer s H E j=>⟨_,(aQ2 (aXv (aQa d_flower_by_way j rfl (aQ0 (dv 0) (aQ0 (dv 1) aQ1))) (cXx rfl (aZy (aZ1 (i:=2) sc_law_right.nd rfl (bA rfl)) (aZy (aZ1 (i:=3) sc_law_right.nd rfl (bA rfl)) bJ4))))
  (aQ2 (aJs (PWD.pt (dQw (fZe j (dv 2) cXm) (dQw (cXp j (aX0 rfl B.len (aQ0 (dv 2) aQ1)) (dv 1)) (dQw (cXp j (dXb (b:=false) rfl B.list (aQ0 (dv 2) aQ1)) (aZ9 (b:=false) j rfl B.sorted (aQ0 (dv 2) aQ1))) (dX9 (cXp j (fQ4 j rfl B.len rfl B.set (dv 2)) (dv 1))))))) (aQ6 (aQg e_bl)) aZ6)
  (aQ2 (aJs (cXp j (aQv (N':=["one", "sets"]) (oc:=none) (b:=false) [0] [] rfl sc_law_right.nd (λ_ _ _=>aQd ..) (.own (.cap (i:=0) rfl (by decide +kernel) .nil)) (aQj rfl) (aZo (dv 2)) (cg_name (i:=0)) (λ_ _ _ _ _=>aQf (i:=0) (nd_ ["one", "sets"]) rfl (bA rfl) (.inr rfl)) (λ_ _ _ _ _=>aXq (by exact(dX8 j (dv 0) (dv 1)))) aQm (λ_ _ _ _ _ _=>aQk rfl (by exact PD.o (dv 0)))) (bQ4 (b:=false) aQ1)) (aQ6 (aQg e_bl)) aZ6)
  (aQ2 (aQe (i:=4) sc_law_right.nd rfl (bA rfl) (aQa d_law_core j rfl (aQ0 (dv 2) aQ1)))
  (aQ6 (aQg (fZh (eJi j (dv 4) cXm) (fZg (e_eq j (dXb (b:=false) rfl B.list (aQ0 (dv 4) aQ1)) (aZ9 (b:=false) j rfl B.sorted (aQ0 (aQv (N':=["step"]) (oc:=none) (b:=false) [0] [] rfl sc_law_right.nd (λ_ _ _=>aQd ..) (.own .nil) (aQj rfl) (aZo (e_sl (b:=false) (dv 3) bZ0 (aXp (fZa aQ4)))) (cg_name (i:=0)) (λ_ _ _ _ _=>aQf (i:=0) (nd_ ["step"]) rfl (bA rfl) (.inr rfl)) (λ_ _ _ _ _=>aQp) aQm (λ_ _ _ _ _ _=>aQk rfl (by exact PD.o (e_ix (dv 0) aQ4)))) aQ1))))))))))),?_⟩
 ·rintro ds S Q ⟨ts,m,rfl,_⟩;rfl
 ·rintro ds S Q ⟨ts,m,rfl,hP,L,U,m6,hm,q⟩;have he:=λt v=>(L.each t v).1;refine⟨ts,m,rfl,hP,L,by omega,?_⟩
  have wl:=bJi (m:=m) 6 ts;have pg:=fQg (m:=m) (f:=6) L.srt he;have nd:=(cQm (m:=m) L.srt he 6).1;have eF:flW m (wayS m 6 ts)=some (pag ((chs (wayS m 6 ts).2).take m) (tkW (wayS m 6 ts))):=by unfold flW;rw[if_neg (by omega)]
  have cl:((chs (wayS m 6 ts).2).take m).length=m:=by rw[aR];omega
  show eQ6 _ _ (.tup [opT (flW m (wayS m 6 ts)),.tup ((wayS m 6 ts).1.map stD++[laD (wayS m 6 ts).2])]) _ S _;have tl:(tkW (wayS m 6 ts)).length=(wayS m 6 ts).1.length:=by unfold tkW;rw[am]
  rw[eF];refine⟨rfl,rfl,?_⟩;have z:=λt (v:t∈pag ((chs (wayS m 6 ts).2).take m) (tkW (wayS m 6 ts)))=>(pg.mem he v).1;have J:=pg.srt L.srt.nodup he;have hF:=(fQd (by rw[bJh,cl];exact U) J.nodup λt v=>he t (z t v)).mp (pg.core L.srt.nodup he (by rw[cl];exact U))
  have gl:(pag ((chs (wayS m 6 ts).2).take m) (tkW (wayS m 6 ts))).length=m:=by rw[bJh,cl]
  have eT:(wayS m 6 ts).1.map (λs=>s.2.1)=tkW (wayS m 6 ts):=rfl;generalize pag ((chs (wayS m 6 ts).2).take m) (tkW (wayS m 6 ts))=G at *
  generalize tkW (wayS m 6 ts)=T at *
  generalize wayS m 6 ts=W at *
  refine⟨false,rfl,ite2 (λh=>nomatch h) λ_=>?_⟩
  have Y:(((G.map tupS).length:Nat):Int)=m:=by rw[am,gl]
  refine⟨G.map tupS,rfl,rfl,false,cJm (congrArg D.int Y),ite2 (λh=>nomatch h) λ_=>?_⟩
  refine⟨G.map tupS,rfl,.inr (.inr ⟨G,rfl,?_⟩)⟩;rw[dXh J];have O:okE 9 (.lst (G.map tupS)) (.lst (G.map tupS))=true:=by
   show((G.map tupS).zip (G.map tupS)).all (λp=>okE 8 p.1 p.2)=true;rw[bF];rintro⟨x,y⟩ N;obtain⟨t,_,rfl⟩:=bI.mp (dA N).1;obtain⟨u,_,rfl⟩:=bI.mp (dA N).2;exact dZ9 t u
  refine⟨O,false,cJm rfl,ite2 (λh=>nomatch h) λ_=>?_⟩
  refine .inl ⟨G,rfl,by omega,λn Z=>?_⟩
  have en:n=m:=(Z.2.mpr J.nodup).trans gl;subst en;refine⟨rfl,false,cJm rfl,ite2 (λh=>nomatch h) λ_=>?_⟩
  refine⟨G.map tupS,rfl,aZh (p:=λt=>!decide (t∈ts)) (f:=tupS) (λt v Q q=>?_) (λt v _ Q q=>q) (aQc (by show 0+G.length<=9999;omega)) ?_⟩
  ·exact in_t (E:=setE) (neg:=true) (by decide) rfl q
  rw[bS,show(G.filter λt=>!decide (t∈ts))=[] from List.filter_eq_nil_iff.mpr λt v=>by simp[z t v]]
  refine⟨aQc (by decide),nilE _,false,cJm rfl,ite2 (λh=>nomatch h) λ_=>?_⟩
  refine⟨G,srS T,rfl,by omega,by omega,λt v=>Nat.le_trans (L.each t (z t v)).2 (by decide),hF,?_⟩
  refine⟨true,rfl,ite2 (λ_=>?_) λh=>absurd rfl h⟩;refine⟨(srS T).map D.str,rfl,?_⟩;refine⟨_,rfl,?_⟩;dsimp only[slD,cXv];rw[fQh];refine⟨W.1.map stD,rfl,aZ3 (f:=λs=>D.str s.2.1) (λs hs Q q=>⟨_,_,rfl,rfl,q⟩) (aQc (by show 0+W.1.length<=9999;omega)) ?_⟩
  refine .inl ⟨T,by rw[bS,<- eT,bW];rfl,?_⟩
  have ok:okE 9 (.lst ((srS T).map D.str)) (.lst ((srS T).map D.str))=true:=by
   show(((srS T).map D.str).zip ((srS T).map D.str)).all (λp=>okE 8 p.1 p.2)=true;rw[bF];rintro⟨x,y⟩ N;obtain⟨_,_,rfl⟩:=bI.mp (dA N).1;obtain⟨_,_,rfl⟩:=bI.mp (dA N).2
   rfl
  refine⟨ok,aQi ?_⟩;rw[if_neg (show ¬ (false=true) by decide),show decide (_=_)=true from decide_eq_true rfl]
  exact q
end
abbrev bZh:Stmt:=top 24
theorem sc_law:FnScope ["script", "pile", "turn", "k", "many", "sets"] ["script"] (aQ3 bZh):=fsc
section
variable{P:aF}{w:aS}{K:au}{mg:Str->Option ad}{base:bd}{pt cc:Addr}
theorem fQl{f:Addr}{fd:c8}(Fn:Fun K "law" "law" bZh f fd)(B:Bs mg)(d_law_pile:Df P w K mg base 49 "_law_pile" ["script"] (spU K aJw))(d_law_next:Df P w K mg base 49 "_law_next" ["pile", "most"] (spU K aZ7))(d_law_many_sets:Df P w K mg base 49 "_law_many_sets" ["pile", "k", "many"] (spU K aXe))(d_enough_sets:Df P w K mg base 49 "enough_sets" ["k", "many"] (spU K aZc))(d_law_right:Df P w K mg base 49 "_law_right" ["sets", "many"] (spU K (aX2 pt)))(d_flower_by_way:Df P w K mg base 49 "flower_by_way" ["sets", "many"] (spU K (dQ0 pt))):FnOk P w K mg base CX0 50 f fd ["script"] (spU K (cQp pt lposM (lamQual "most_had") 63)):=by
 refine e_fn Fn sc_law ?_ λcdv A outer s H E z=>⟨_,(aQ2 (aQe (i:=1) sc_law.nd rfl (bA rfl) (aQa d_law_pile z rfl (aQ0 (dv 0) aQ1)))
  (aQ2 (aJt dE rfl (aZg rfl B.range (aQ0 aQ4 aQ1)) (aZ1 (i:=2) sc_law.nd rfl (bA rfl)) (aQ2 (aXv (e_ix (bQ4 (b:=false) (aQ0 (aZb (aQ0 aQ4 (aQ0 aQ4 aQ1))) (aQ0 (aZb (aQ0 aQ4 (aQ0 aQ4 aQ1))) (aQ0 (aZb (aQ0 aQ4 (aQ0 aQ4 aQ1))) (aQ0 (aZb (aQ0 aQ4 (aQ0 aQ4 aQ1))) (aQ0 (aZb (aQ0 aQ4 (aQ0 aQ4 aQ1))) (aQ0 (aZb (aQ0 aQ4 (aQ0 aQ4 aQ1))) (aQ0 (aZb (aQ0 aQ4 (aQ0 aQ4 aQ1))) (aQ0 (aZb (aQ0 aQ4 (aQ0 aQ4 aQ1))) (aQ0 (aZb (aQ0 aQ4 (aQ0 aQ4 aQ1))) (aQ0 (aZb (aQ0 aQ4 (aQ0 aQ4 aQ1))) aQ1))))))))))) (aQa d_law_next z rfl (aQ0 (dv 1) (aQ0 aQ4 aQ1)))) (cXx rfl (aZy (aZ1 (i:=3) sc_law.nd rfl (bA rfl)) (aZy (aZ1 (i:=4) sc_law.nd rfl (bA rfl)) bJ4))))
  (aQ2 (aQe (i:=5) sc_law.nd rfl (bA rfl) (aQa d_law_many_sets z rfl (aQ0 (dv 1) (aQ0 (dv 3) (aQ0 (dv 4) aQ1)))))
  (aQ2 (aJs (PWD.pt (dQw (eJe z (aX0 rfl B.len (aQ0 (dv 5) aQ1)) (aQa d_enough_sets z rfl (aQ0 (dv 3) (aQ0 (dv 4) aQ1)))) (dX9 (dXa (cQ8 (aQa d_law_right z rfl (aQ0 (dv 5) (aQ0 (dv 4) aQ1)))))))) (aQ6 (aQg e_bl)) aZ6)
  (aQ6 (aJs (eJf z (aX0 rfl B.len (aQ0 (e_ix (aQa d_flower_by_way z rfl (aQ0 (dv 5) (aQ0 (dv 4) aQ1))) aQ4) aQ1)) (aQs (k:=false) (dv 3) aQ4)) (aQ6 (aQg e_bl)) aZ6))))))
  (aQ6 (aQg e_bl)))),?_⟩
 ·rintro ds S Q ⟨ns,rfl,_⟩;rfl
 ·rintro ds S Q ⟨ns,rfl,h63,hP,hS,q⟩;refine⟨ns,rfl,h63,λp S1 hp off dk=>⟨⟨by decide,by decide⟩,?_⟩⟩
  have O:pt≠p:=by rintro rfl;rw[hp] at hP;cases hP
  have hP1:S1 pt=some (.tb lposM (lamQual "most_had")):=(off pt O).trans hP;refine aX4 (λi Γ S'=>∃(x2 x3 x4 x5:Option D),Γ=[some (.lst (ns.map D.int)),some (.ref p),x2,x3,x4,x5]/\Pile S' p/\S' pt=some (.tb lposM (lamQual "most_had"))) ⟨none,none,none,none,rfl,dk,hP1⟩ ?_ ?_
  ·rintro i x Γ S2 N hx ⟨x2,x3,x4,x5,rfl,dk2,hP2⟩ hN;obtain⟨hi,rfl⟩:=bX4 hx;have J:([D.int 1,.int 1]:List D).length<=sizeLine:=aQc (by decide)
   refine⟨trivial,J,J,J,J,J,J,J,J,J,J,aQc (show 10<=9999 by decide),p,10,rfl,dk2,by decide,by decide,λr S3 r0 r1 off3 dk3=>?_⟩
   have z:r.toNat<kms.length:=by show r.toNat<10;omega
   have L:(kms[r.toNat].1,kms[r.toNat].2)∈kms:=db z;have U:atI (kms.map λp=>D.tup [.int (p.1:Nat),.int (p.2:Nat)]) r=some (.tup [.int (kms[r.toNat].1:Nat),.int (kms[r.toNat].2:Nat)]):=by
    have:=aZi (xs:=kms.map λp=>D.tup [.int (p.1:Nat),.int (p.2:Nat)]) (j:=r.toNat) (v:=.tup [.int (kms[r.toNat].1:Nat),.int (kms[r.toNat].2:Nat)]) (by rw[aJ,ag z];rfl)
    rwa [show((r.toNat:Nat):Int)=r by omega] at this
   generalize kms[r.toNat].1=k at L U
   generalize kms[r.toNat].2=m at L U
   obtain⟨k1,k4,m2,m6,e50⟩:=dXl _ L;dsimp only at k1 k4 m2 m6 e50;refine⟨_,_,rfl,U,rfl,rfl,p,k,m,rfl,dk3,L,λts S4 hs he hb l120 n24 Z dk4=>?_⟩;have hW:Wc 6 ts:=⟨hs,λt ht=>⟨(he t ht).1,by have:=(he t ht).2;omega⟩,by omega,by omega⟩
   have hWk:Wc k ts:=⟨hs,λt ht=>⟨(he t ht).1,by have:=(he t ht).2;omega⟩,by omega,by omega⟩
   have Y:S4 pt=some (.tb lposM (lamQual "most_had")):=by
    rw[Z pt O,off3 pt O];exact hP2
   have wk:=bX9 (m:=m) k 6 hWk (by omega)
   have wb:=cJs m2 k ts hs he hb;have wl:=bJi (m:=m) k ts;refine⟨_,rfl,k,m,rfl,by omega,m2,by omega,?_⟩
   refine⟨_,rfl,ite2 (λh=>?_) λ_=>?_⟩
   ·have h:=of_decide_eq_true h;rw[am] at h;omega
   refine⟨ts,m,rfl,Y,hW,m2,m6,by rw[wk];exact wb,eZ6 (ite2 (λh=>nomatch h) λ_=>?_)⟩
   refine⟨ts,m,rfl,Y,hW,by omega,?_⟩
   refine⟨[opT (flW m (wayS m 6 ts)),trD (wayS m 6 ts)],_,rfl,rfl,_,rfl,_,rfl,ite2 (λh=>?_) λ_=>hN _ _ ⟨_,_,_,_,rfl,dk4,Y⟩⟩;have h:=of_decide_eq_true h;rw[wk,aA,am] at h;have h:(k:Int)+1<(((wayS m k ts).1.length+1:Nat):Int):=h;omega
  ·rintro Γ S2 ⟨x2,x3,x4,x5,rfl,dk2,hP2⟩;exact⟨trivial,aXs (λ_ _ e=>e) (q _)⟩
end
end Toy
set_option maxHeartbeats 4000000
namespace Toy
open PySem L2
theorem fin{l:PySem.W.OpenLaw}{w:aS}{K:au}{h:bd}{mg:Str->Option ad}{fa f3:Addr}(X:K.In h)(G:h.Ns aX mg)(hfa:mg "law"=some (.ref fa))(B:Bs mg){cc pt:Addr}(CD:bX8 K mg "most_had" cc)(AB:mg "abs"=none)
  (T1:Tx K mg "has_all" s_has_all) (T2:Tx K mg "meets" s_meets) (T3:Tx K mg "without_names" s_without_names) (T4:Tx K mg "names_of" s_names_of) (T5:Tx K mg "link_of" s_link_of) (T6:Tx K mg "flower_by_way" s_flower_by_way) (T7:Tx K mg "chosen_of" s_chosen_of) (T8:Tx K mg "most_had" s_most_had) (T9:Tx K mg "how_many_have" s_how_many_have) (T10:Tx K mg "put_again" s_put_again) (T11:Tx K mg "enough_sets" s_enough_sets) (T12:Tx K mg "_law_pile" s_law_pile) (T13:Tx K mg "_law_next" s_law_next) (T14:Tx K mg "_law_names" s_law_names) (T15:Tx K mg "_law_core" s_law_core) (T16:Tx K mg "_law_all" s_law_all) (T17:Tx K mg "_law_many_sets" s_law_many_sets) (T18:Tx K mg "_law_right" s_law_right)
  {od3 an3:Option Addr}{sl3:Array (Option ad)}{oc3 kV3 dc3 pm3 cd3 ct3:ad}
  (a3:bD K aX "law"=some (some (.ref f3))) (l3:K.lookup f3=some ⟨oc3,od3,.func (eA "law" "law" (aX3 bZh) (aQy bZh) (aQ3 bZh) .none kV3 dc3 pm3 an3 cd3 ct3),sl3⟩) (c3:fW K cd3 "law"=true) (k3:fj K (.ref f3)=true) :
  ∃fd:c8,(∀(s:ak) (v:ad),BindsTo s fd ⟨[v],[]⟩ [("script",v)])/\∀base:bd,K.In base->base.Ns aX mg->TabF base mg cc pt->FnOk l.prog w K mg base CX0 50 fa fd ["script"] (spU K (cQp pt lposM (lamQual "most_had") 63)):=by
 have e:=hfa.symm.trans (jy X G a3);cases e;refine⟨eA "law" "law" (aX3 bZh) (aQy bZh) (aQ3 bZh) .none kV3 dc3 pm3 an3 cd3 ct3,λs v=>.of_eq rfl,λbase XB GB TF=>?_⟩;have F3:=dZp (st:=bZh) l3 c3 k3;have d_law_pile:=bJa (P:=l.prog) (w:=w) (base:=base) T12 B;have j:=bJb (P:=l.prog) (w:=w) (base:=base) T13 B AB;have z:=bQ5 (P:=l.prog) (w:=w) (base:=base) T11 B;have d_law_all:=cZc (P:=l.prog) (w:=w) (base:=base) T16 B;have U:=bXc (P:=l.prog) (w:=w) (base:=base) T14 B (j.mono (by decide))
 have J:=aJ5 (P:=l.prog) (w:=w) (base:=base) T17 B (z.mono (by decide)) (j.mono (by decide)) (d_law_all.mono (by decide)) (U.mono (by decide))
 have d_meets:=dZm (P:=l.prog) (w:=w) (base:=base) T2 B;have Y:=bXd (P:=l.prog) (w:=w) (base:=base) T7 B (d_meets.mono (by decide))
 have L:=aJ6 (P:=l.prog) (w:=w) (base:=base) T9 B;have d_most_had:=bJm (P:=l.prog) (w:=w) (base:=base) T8 B CD TF (L.mono (by decide))
 have Z:=bJn (P:=l.prog) (w:=w) (base:=base) T4 B;have d_has_all:=cZd (P:=l.prog) (w:=w) (base:=base) T1 B;have D:=aJ7 (P:=l.prog) (w:=w) (base:=base) T3 B;have d_link_of:=cZe (P:=l.prog) (w:=w) (base:=base) T5 B (d_has_all.mono (by decide)) (D.mono (by decide))
 have N:=bXe (P:=l.prog) (w:=w) (base:=base) T10 B;have i:=aJ8 (P:=l.prog) (w:=w) (base:=base) T6 B (Y.mono (by decide)) (d_most_had.mono (by decide)) (Z.mono (by decide)) (d_link_of.mono (by decide)) (N.mono (by decide))
 have d_law_core:=bJo (P:=l.prog) (w:=w) (base:=base) T15 B;have O:=bXf (P:=l.prog) (w:=w) (base:=base) T18 B (i.mono (by decide)) (d_law_core.mono (by decide))
 exact fQl F3 B (d_law_pile.mono (by decide)) (j.mono (by decide)) (J.mono (by decide)) (z.mono (by decide)) (O.mono (by decide)) (i.mono (by decide))
end Toy
namespace PySem.W.Fast
theorem tw1317858886369626810:True:=⟨⟩
theorem tw732939796221168367:True:=⟨⟩
theorem tw1842163620422271835:True:=⟨⟩
theorem tw9988379716022899626:True:=⟨⟩
theorem tw2299581149620026462:True:=⟨⟩
theorem tw737287329858072223:True:=⟨⟩
theorem tw7671052509860030720:True:=⟨⟩
theorem tw11974602850060903666:True:=⟨⟩
theorem tw4854480695373621424:True:=⟨⟩
theorem tw3719232064261323888:True:=⟨⟩
end PySem.W.Fast
open PySem PySem.W PyProof.Rows
set_option maxRecDepth 100000 in
set_option maxHeartbeats 0 in
theorem PySem.Challenge.cw_corepetals_k11_whole_enough_and_found_holds : PySem.Challenge.rw_corepetals_k11_whole_enough_and_found.Holds := by
 w_on;o_law;k_head;(case hw=>w_witness2)
 k_fill
 refine L2.walkT (l:=PySem.Challenge.rw_corepetals_k11_whole_enough_and_found) (x:="most_had") (lp:=Toy.lposM) (qual:=L2.lamQual "most_had") rfl rfl (λw h Y=>⟨PySem.W.km_in_of Y,PySem.W.km_tabs_of Y _ aq⟩) ?R;refine' ⟨_,?ht,?hh,?hno,?F⟩
 case ht =>
  intro p;refine' L2.codeIn_mk ?a ?l ?e
  (case a=>k_is);(case l=>k_is);(case e=>rfl)
 case hh=>intro p;kernel_rfl
 case hno=>intro p;first|rfl|kernel_rfl
 case F =>
  intro w mg fa h KX G hmg CD;have B:L2.Bs mg:=by
   refine' L2.bs_mk KX G (L2.bs_all ?z1 ?z2 ?z3 ?z4 ?z5 ?z6 ?z7 ?z8 ?z9 ?z10 ?z11 ?z12 ?z13 ?z14 ?z15 ?z16 ?z17) <;> k_is
  have AB:mg "abs"=none:=by
   refine' PySem.W.mg_none_of KX G ?z
   k_is
  have T1:L2.Tx (L2.KOf KX) mg "has_all" Toy.s_has_all:=by
   dsimp only[L2.KOf];exact L2.tx_mk KX G (by k_is) (by k_is) (by k_is) (by k_is)
  have T2:L2.Tx (L2.KOf KX) mg "meets" Toy.s_meets:=by
   dsimp only[L2.KOf];exact L2.tx_mk KX G (by k_is) (by k_is) (by k_is) (by k_is)
  have T3:L2.Tx (L2.KOf KX) mg "without_names" Toy.s_without_names:=by
   dsimp only[L2.KOf];exact L2.tx_mk KX G (by k_is) (by k_is) (by k_is) (by k_is)
  have T4:L2.Tx (L2.KOf KX) mg "names_of" Toy.s_names_of:=by
   dsimp only[L2.KOf];exact L2.tx_mk KX G (by k_is) (by k_is) (by k_is) (by k_is)
  have T5:L2.Tx (L2.KOf KX) mg "link_of" Toy.s_link_of:=by
   dsimp only[L2.KOf];exact L2.tx_mk KX G (by k_is) (by k_is) (by k_is) (by k_is)
  have T6:L2.Tx (L2.KOf KX) mg "flower_by_way" Toy.s_flower_by_way:=by
   dsimp only[L2.KOf];exact L2.tx_mk KX G (by k_is) (by k_is) (by k_is) (by k_is)
  have T7:L2.Tx (L2.KOf KX) mg "chosen_of" Toy.s_chosen_of:=by
   dsimp only[L2.KOf];exact L2.tx_mk KX G (by k_is) (by k_is) (by k_is) (by k_is)
  have T8:L2.Tx (L2.KOf KX) mg "most_had" Toy.s_most_had:=by
   dsimp only[L2.KOf];exact L2.tx_mk KX G (by k_is) (by k_is) (by k_is) (by k_is)
  have T9:L2.Tx (L2.KOf KX) mg "how_many_have" Toy.s_how_many_have:=by
   dsimp only[L2.KOf];exact L2.tx_mk KX G (by k_is) (by k_is) (by k_is) (by k_is)
  have T10:L2.Tx (L2.KOf KX) mg "put_again" Toy.s_put_again:=by
   dsimp only[L2.KOf];exact L2.tx_mk KX G (by k_is) (by k_is) (by k_is) (by k_is)
  have T11:L2.Tx (L2.KOf KX) mg "enough_sets" Toy.s_enough_sets:=by
   dsimp only[L2.KOf];exact L2.tx_mk KX G (by k_is) (by k_is) (by k_is) (by k_is)
  have T12:L2.Tx (L2.KOf KX) mg "_law_pile" Toy.s_law_pile:=by
   dsimp only[L2.KOf];exact L2.tx_mk KX G (by k_is) (by k_is) (by k_is) (by k_is)
  have T13:L2.Tx (L2.KOf KX) mg "_law_next" Toy.s_law_next:=by
   dsimp only[L2.KOf];exact L2.tx_mk KX G (by k_is) (by k_is) (by k_is) (by k_is)
  have T14:L2.Tx (L2.KOf KX) mg "_law_names" Toy.s_law_names:=by
   dsimp only[L2.KOf];exact L2.tx_mk KX G (by k_is) (by k_is) (by k_is) (by k_is)
  have T15:L2.Tx (L2.KOf KX) mg "_law_core" Toy.s_law_core:=by
   dsimp only[L2.KOf];exact L2.tx_mk KX G (by k_is) (by k_is) (by k_is) (by k_is)
  have T16:L2.Tx (L2.KOf KX) mg "_law_all" Toy.s_law_all:=by
   dsimp only[L2.KOf];exact L2.tx_mk KX G (by k_is) (by k_is) (by k_is) (by k_is)
  have T17:L2.Tx (L2.KOf KX) mg "_law_many_sets" Toy.s_law_many_sets:=by
   dsimp only[L2.KOf];exact L2.tx_mk KX G (by k_is) (by k_is) (by k_is) (by k_is)
  have T18:L2.Tx (L2.KOf KX) mg "_law_right" Toy.s_law_right:=by
   dsimp only[L2.KOf];exact L2.tx_mk KX G (by k_is) (by k_is) (by k_is) (by k_is)
  refine' Toy.fin KX G hmg B CD AB T1 T2 T3 T4 T5 T6 T7 T8 T9 T10 T11 T12 T13 T14 T15 T16 T17 T18 ?a ?l ?c ?k
  (case a=>k_is);(case l=>k_is);(case c=>k_is);(case k=>k_is)
