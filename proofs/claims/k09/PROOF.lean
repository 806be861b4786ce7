import PyProof.Rows.All
import Wide.All
import OpenK.AllK
import Wide.FinOn
import Lean
import PyProof.EqAt
import PyProof.EqKinds
import PyProof.TupleCall
import PySem.SetOps
import KE.KSortTup
import PyProof.Rows.SortShellK
import KE.KDictSum
import PyProof.Rows.StrJoin2
import PyProof.Rows.SumAny
import KE.KxText
import PyProof.ZipIter
import PyProof.Rows.FactsT2
import PyProof.Rows.ZipGen
import PyProof.StrOps2
import PyProof.ListRange
import PyProof.ListStr
import PyProof.FString5
import PyProof.AutoSeq1
import PyProof.MinMaxWalk
import PyProof.WalksMore
import PyProof.Rows.CallKwBuiltin
import KE.KMinKey
import KE.KLam
import PyProof.TupleIter
import PySem.Challenge.RW_corepetals_k09_found_by_the_way
open And renaming intro->iA
open Array renaming getElem?_toList->aT,length_toList->aJ,perm_iff_toList_perm->b9,size_append->dl,size_push->cZ,toList_append->cm,toList_inj->iJ,toList_push->ca,toList_reverse->eR,toList_setIfInBounds->gX
open Array.Perm renaming refl->i6
open Bool renaming and_eq_true->a4,eq_false_iff->fJ,eq_iff_iff->eA,false_eq_true->cA,false_ne_true->dI,not_eq_true'->bR,true_and->ga
open Classical renaming byContradiction->bi
open False renaming elim->cX
open ForInStep renaming done->bj,yield->bn
open Int renaming toNat_natCast->cv
open LawfulBEq renaming eq_of_beq->fY
open List renaming Perm->jl,all_cons->ir,all_eq_true->bI,all_map->fN,any_cons->dZ,any_eq_false->fD,any_eq_true->eX,any_map->iY,append_assoc->aS,append_nil->bY,count_eq_zero_of_not_mem->gh,drop_append->eY,drop_append_of_le_length->d8,drop_eq_getElem_cons->bN,drop_eq_nil_of_le->bF,drop_length->dE,drop_zero->jg,eq_nil_of_length_eq_zero->bL,ext_getElem->iK,ext_getElem?->eG,filterMap_cons->d3,filter_congr->ik,filter_cons->eZ,find?_cons->a9,flatten_append->bV,flatten_cons->fO,flatten_singleton->dz,forIn_cons->gj,getD_eq_getElem?_getD->ak,getElem?_append_left->e6,getElem?_append_right->cz,getElem?_cons_zero->iH,getElem?_eq_getElem->ag,getElem?_eq_none->bK,getElem?_eq_some_iff->aE,getElem?_map->aK,getElem?_set_ne->eK,getElem?_take_of_lt->im,getElem_drop->h9,getElem_map->iL,getElem_mem->db,getElem_of_mem->bE,getElem_take->ic,isEmpty_map->iN,isEmpty_nil->iD,length->jb,length_append->aB,length_cons->b7,length_drop->bz,length_eq_zero_iff->fA,length_eraseIdx_of_lt->gT,length_map->am,length_nil->dr,length_pos_iff->cY,length_range->ig,length_take->aV,lookup_cons->ci,lookup_cons_self->fX,mapM_cons->je,mapM_nil->jp,mapM_toArray->eJ,map_append->bq,map_cons->aX,map_map->bW,map_nil->d9,mem_append->aN,mem_append_left->dg,mem_append_right->bb,mem_cons->aQ,mem_cons_of_mem->au,mem_cons_self->aA,mem_filter->cF,mem_filterMap->fk,mem_flatten->dF,mem_map->bB,mem_of_getElem?->ao,mem_of_mem_drop->dY,mem_of_mem_take->cE,mem_range->bO,mem_reverse->iG,mem_singleton->aU,mergeSort_perm->gu,nil_append->bo,nodup_append->ii,nodup_cons->cG,nodup_nil->fR,not_mem_nil->eW,of_mem_zip->fi,pairwise_append->aZ,pairwise_cons->bD,pairwise_iff_getElem->c6,pairwise_map->dq,pairwise_mergeSort->fC,pairwise_reverse->fV,pairwise_singleton->b8,perm_append_comm->cO,range->bu,replicate->gM,reverse_perm->ie,size_toArray->aq,take_add_one->cw,take_append_drop->a6,take_append_of_le_length->cL,take_length->cT,take_of_length_le->bQ,take_sublist->hZ,take_zero->jf,zip_cons_cons->cb,zip_nil_left->eH,zip_nil_right->eg
open List.Pairwise renaming imp_of_mem->iu,nil->fH
open List.Perm renaming append_left->dN,append_right->dy,refl->dh
open MonadExcept renaming tryCatch->ji
open Ne renaming symm->cy
open Option renaming getD_none->iz,isSome_iff_exists->de,map_eq_some_iff->a8
open Option.some renaming inj->aM
open Or renaming inl->bf,inr->fw
open PyProof.Rows renaming AllBare->hJ,IntsAre->gw,IsTup->gH,Keyed->aG,SortKind->dJ,SortSt->cC,StrsAre->iU,arrOf->aH,callWith_type1->eE,elem'->dM,envOfC->gN,failedOf->eQ,get?_update_seq->dR,get?_update_seq->gp,keyLt'_oneType->gU,lt_int->jn,lt_str->jm,mirror->c5,oneLt_int->iW,oneLt_str->iX,oneType'->jd,pairsOf->fP,pairsOf_toList->fQ,pendingOf->br,reverseSlice'_eq->cU,seqObj->be,setArr->cx,setPending->eT,slot_tuple_getitem->bT,sortedHeap->fu,wpS_bind->ar,wpS_forRange->bA,wpS_get->gz,wpS_lift->gW,wpS_modify->cD,wpS_mono->cS,wpS_pure->ay
open PyProof.Rows.SortSt renaming mk'->gV
open PySem renaming Around->aO,Builtin->cK,Comprehension->eD,Fin->iI,FuncData->cR,Heap->aY,Keyword->fG,NameKind->er,Paired->bx,Program->aC,SetTable->cg,Shared->ah,Value->ad,World->aL,argBest->cM,attributeBase->fb,backTo->bZ,backToKw->gP,behindInMarks->dA,binaryOp->dU,bootBuiltins->bg,builtinsNs->gI,cLine->bU,call_meets->iS,cellsFrom->eV,closureFor->gQ,codeAmong->gF,codeAny->eF,codeAny_builtin->cH,compEnvC->iB,compTurn->eP,compareOp->cN,concat_meets->iQ,foldedSetIterable->cu,getItem->f6,holding->fg,keywordEach->eO,letOwnedTupleGo->ej,mainGlobals->aP,mem_of_lookup->du,model->az,noFill_tuple_add->iy,pickOrder->gE,plainId_quiet->cV,pushCells->gD,pyNext->fj,rawInt->d4,recursionLimit->gL,relayAll->iC,richCompare_meets_room->fL,setField->jc,setsByText->iT,sizeLine_eq->aW,sliceBounds->d7,standAt->fh,starEach->av,strKind->f9,swapsWith->ix,sysModules->dH,tupleKind->iw,tupleKind_room_in1->gZ,unsupported->gg,wpAny->aF,wpAny_Call_Name_kw->fq,wpAny_askSetting->da,wpAny_bind->aa,wpAny_callSpecial?_slot->fy,wpAny_callSpecialIfBound?_slot->fZ,wpAny_call_entry->dD,wpAny_execs_nil->gi,wpAny_holding->bM,wpAny_ite_split->gk,wpAny_letGo->ij,wpAny_loadPart'->bC,wpAny_mono->cr,wpAny_newObj_type->bd,wpAny_passesOwn->dQ,wpAny_pure->af,wpAny_pyIter_list->h8,wpAny_pyIter_tuple->gY,wpAny_rule->cJ,wpAny_seqItems->fM,wpAny_setField_rec->cB,wpAny_setState_of->dX,wpAny_standAt->e8,wpAny_truthy_bool->cW,wpAny_tryCatch->eU,wpAny_typeOf->gv,wpAny_updateSeq->eB
open PySem.Around renaming under_plainId->bH
open PySem.AutoSeq1 renaming sub_tuple_tuple->io
open PySem.Builtin.Builtins renaming bindParams->gA
open PySem.Builtin.Frozenset renaming addrOf->ip
open PySem.Builtin.List renaming listExtendWith->gy,listLengthHint->gx,listSameRef->iq,listTooLong->ff
open PySem.Builtin.Slice renaming sliceAdjust->e7,sliceApplied->eN,slicePlaces->dO
open PySem.Builtin.Str renaming strSliceIndices->bG
open PySem.Builtin.Tuple renaming tupleCompareSizes->fU,tupleExact->bS,tupleItemsOf->gO
open PySem.Calls renaming Name_function_global->gJ,callWith_builtin->iR,call_function_entry->g7,spliced_cons->fm,spliced_nil->hX
open PySem.Code renaming compLoop->f8,compStart->fK
open PySem.F renaming args_dict_get_3->iM,args_tuple_add_2->e9,args_tuple_lt_2->d6,entry_dict_get->iV,entry_extend_loop->g6,entry_tuple_add->fx,entry_tuple_lt->eh,plainAttrs_list->fB,plain_extend_loop->dP,plain_list_iadd->iE,slot_dict_get->fW,slot_set_iter->i9,slot_tuple_add->fF,slot_tuple_lt->c8
open PySem.Heap renaming SameBut->dw,get?_push_of_some->ae,get?_push_size->ax,get?_update_other->a7,get?_update_self->c7,lt_size->aD,size_push->d5
open PySem.Heap.SameBut renaming update->cj
open PySem.NameKind renaming cell->f7,free->aR
open PySem.Obj renaming mapSeq->ba,putSet->gR
open PySem.Paired renaming length->cQ
open PySem.PassesOwn renaming never->cI
open PySem.SeqAt renaming EqAt->cq,RcNeAt->cf
open PySem.SeqAt.EqAt renaming of_refs->jq,same->i7,str_str->gS
open PySem.SetTable renaming grown->dj
open PySem.Value renaming bool->gG,int->gC,isStrOf->eC,isStrOf_shape->gq,none->bJ,notImplemented->gb,ref->c9,str->jk,type->dG
open PySem.W renaming BoolBack->iF,Frag->ap,cellsFrom_some->iP,codeIn->fE,fnOf->dW,instObj->iZ,keepIn->eM,kia_one->bX,kitOne->gK,kitx_list->hU,kla_fn->jj,kla_obj->i8,lookIn->ja,methodObj->g9,mg_of->jo,nsIn->bh,tabObj->fT
open PySem.Walks renaming tuple->jh
open PySem.pickOrder renaming go->jr
open Sum renaming inl->iO,inr->g8
open True renaming intro->eL
set_option Elab.async false
set_option linter.all false
set_option maxRecDepth 100000
namespace L2
open PySem PySem.Spec PyProof.Rows
abbrev Key:=Sum Int Str
def bQt:Key->ad->Bool
 |.inl k,v=>ad.isInt k v
 |.inr x,v=>eC x v
def keyH(w:aL):Key->Int
 |.inl k=>hashInt k
 |.inr x=>hashStr w x
theorem aQg:∀{k:Key}{v:ad},bQt k v=true->(∃i t,k=iO i/\v=gC i t)\/(∃x t,k=g8 x/\v=jk x t)
 |.inl i,v,h=>by
  obtain⟨t,e⟩:=ad.isInt_shape (k:=i) (v:=v) h;exact .inl ⟨i,t,rfl,e⟩
 |.inr x,v,h=>by
  obtain⟨t,e⟩:=gq (x:=x) (v:=v) h;exact .inr ⟨x,t,rfl,e⟩
theorem bJv(i:Int)(t:Tok):bQt (.inl i) (.int i t)=true:=by simp[bQt,ad.isInt]
theorem bJw(x:Str)(t:Tok):bQt (.inr x) (.str x t)=true:=by simp[bQt,eC]
theorem dJh(a b:Int):decide ((iO a:Key)=iO b)=(a==b):=by
 by_cases e:a=b
 ·subst e;simp
 ·have h:¬ (iO a:Key)=iO b:=λq=>e (iO.inj q);rw[decide_eq_false h];exact(beq_eq_false_iff_ne.mpr e).symm
theorem dJi(a b:Str):decide ((g8 a:Key)=g8 b)=decide (a=b):=by
 by_cases e:a=b
 ·subst e;simp
 ·have h:¬ (g8 a:Key)=g8 b:=λq=>e (g8.inj q);rw[decide_eq_false h,decide_eq_false e]
theorem dJj(a:Int)(b:Str):decide ((iO a:Key)=g8 b)=false:=decide_eq_false (λq=>nomatch q)
theorem dJk(a:Str)(b:Int):decide ((g8 a:Key)=iO b)=false:=decide_eq_false (λq=>nomatch q)
def aQm(prog:aC)(w:aL):PySem.KeyKind prog w Key where
 is:=bQt
 hash:=keyH w
 inj:=λv a b ha hb=>by
  rcases aQg ha with⟨i,t,rfl,rfl⟩|⟨x,t,rfl,rfl⟩
  ·rcases aQg hb with⟨j,u,rfl,e⟩|⟨y,u,rfl,e⟩
   ·injection e with e1 _;rw[e1]
   ·exact nomatch e
  ·rcases aQg hb with⟨j,u,rfl,e⟩|⟨y,u,rfl,e⟩
   ·exact nomatch e
   ·injection e with e1 _;rw[e1]
 byValue:=λk v h=>by
  rcases aQg h with⟨i,t,rfl,rfl⟩|⟨x,t,rfl,rfl⟩ <;> rfl
 pyHash:=λhv h=>by
  rcases aQg hv with⟨i,t,rfl,rfl⟩|⟨x,t,rfl,rfl⟩
  ·exact wpAny_pyHash_int h
  ·exact wpAny_pyHash_str h
 eqBool:=λhu hv h=>by
  rcases aQg hu with⟨i,t,rfl,rfl⟩|⟨x,t,rfl,rfl⟩
  ·rcases aQg hv with⟨j,u,rfl,rfl⟩|⟨y,u,rfl,rfl⟩
   ·rw[dJh] at h;exact wpAny_eqBool_int h
   ·rw[dJj] at h;exact cq.int_str i t y u _ _ _ _ h
  ·rcases aQg hv with⟨j,u,rfl,rfl⟩|⟨y,u,rfl,rfl⟩
   ·rw[dJk] at h;exact cq.str_int x t j u _ _ _ _ h
   ·rw[dJi] at h;exact wpAny_eqBool_str h
 «strs»:=λk x t v h=>by
  rcases aQg h with⟨i,u,rfl,e⟩|⟨y,u,rfl,e⟩
  ·exact nomatch e
  ·injection e with e1 _
   subst e1;cases v <;> rfl
theorem bZq(prog:aC)(w:aL)(i:Int)(t:Tok):(aQm prog w).is (.inl i) (.int i t)=true:=bJv i t
theorem bZr(prog:aC)(w:aL)(x:Str)(t:Tok):(aQm prog w).is (.inr x) (.str x t)=true:=bJw x t
inductive V where
 |non|bl (b:Bool)|int (i:Int)|str (x:Str)|byt (b:Array UInt8)|flt (b:UInt64)|ref (a:Addr)|ty (n:String)
 deriving DecidableEq
def RelV:V->ad->Prop
 |.non,u=>u=bJ
 |.bl b,u=>u=gG b
 |.int i,u=>∃t,u=gC i t
 |.str x,u=>∃t,u=jk x t
 |.byt b,u=>∃t,u=ad.bytes b t
 |.flt b,u=>∃t,u=ad.float b t
 |.ref a,u=>u=c9 a
 |.ty n,u=>u=dG n
abbrev Vals:List V->List ad->Prop:=bx RelV
theorem Vals.length{xs:List V}{us:List ad}(r:Vals xs us):xs.length=us.length:=cQ r
theorem Vals.get:∀{xs:List V}{us:List ad}{i:Nat}{x:V},Vals xs us->xs[i]?=some x->∃u,us[i]?=some u/\RelV x u
 |_,_,_,_,.nil,e=>by simp at e
 |_,_,0,_,.cons r _,e=>by simp at e;subst e;exact⟨_,rfl,r⟩
 |_,_,i+1,x,.cons _ t,e=>by
  obtain⟨u,h1,h2⟩:=Vals.get (i:=i) (x:=x) t (by simpa using e)
  exact⟨u,by simpa using h1,h2⟩
theorem Vals.set{x:V}{u:ad}(r:RelV x u):∀{xs:List V}{us:List ad}(i:Nat),Vals xs us->Vals (xs.set i x) (us.set i u)
 |_,_,_,.nil=>.nil
 |_,_,0,.cons _ t=>.cons r t
 |_,_,i+1,.cons q t=>.cons q (Vals.set r i t)
theorem Vals.append:∀{xs ys:List V}{us ws:List ad},Vals xs us->Vals ys ws->Vals (xs++ys) (us++ws)
 |_,_,_,_,.nil,s=>s
 |_,_,_,_,.cons r t,s=>.cons r (Vals.append t s)
theorem Vals.take:∀{xs:List V}{us:List ad}(n:Nat),Vals xs us->Vals (xs.take n) (us.take n)
 |_,_,0,_=>.nil
 |_,_,_+1,.nil=>.nil
 |_,_,n+1,.cons r t=>.cons r (Vals.take n t)
theorem Vals.drop:∀{xs:List V}{us:List ad}(n:Nat),Vals xs us->Vals (xs.drop n) (us.drop n)
 |_,_,0,r=>r
 |_,_,_+1,.nil=>.nil
 |_,_,n+1,.cons _ t=>Vals.drop n t
def RelO:Option V->Option ad->Prop
 |some v,some u=>RelV v u
 |none,none=>True
 |_,_=>False
def KV{κ:Type}:List (κ×V)->List (κ×ad)->Prop:=bx λ(p:κ×V) (q:κ×ad)=>p.1=q.1/\RelV p.2 q.2
def kV:Key->V
 |.inl i=>.int i
 |.inr x=>.str x
inductive HO where
 |lst (xs:List V)
 |tup (xs:List V)
 |dK (kvs:List (Key×V))|dT (kvs:List (List Key×V))
 |set (S:Int->Bool) (n:Nat)
 |ins (C dx:Addr) (fs:List (Str×V))
 |own (x:Addr)
 |xd (fs:List (Str×V))
 |met (f x:Addr)
 |rng (lo hi:Int)
 |frz (o:Obj) (u:HO)
 |tbl (ps:Array ad)
 |ext (φ:aY->Prop)
abbrev Hp:=Addr->Option HO
def upd(H:Hp)(a:Addr)(o:HO):Hp:=λb=>if b=a then some o else H b
theorem aQ7{H:Hp}{a:Addr}{o:HO}:upd H a o a=some o:=by unfold upd;rw[if_pos rfl]
theorem upd_ne{H:Hp}{a b:Addr}{o:HO}(h:b≠a):upd H a o b=H b:=by unfold upd;rw[if_neg h]
theorem eJ3{H:Hp}{a b:Addr}{o u:HO}(h:H a=some o)(h':H b=some u)(d:o≠u):a≠b:=by
 intro e;subst e;rw[h] at h';exact d (aM h')
theorem ne_of_none{H:Hp}{a b:Addr}{o:HO}(h:H a=some o)(h':H b=none):a≠b:=by
 intro e;subst e;rw[h] at h';cases h'
section
variable(P:aC)(w:aL)
def ObjOk(H:Hp)(h:aY)(a:Addr):HO->Prop
 |.lst xs=>xs.length<=sizeLine/\∃(its:List ad) (n:Nat),Vals xs its/\h.get? a=some {cls:=.type "list",data:=.seq its.toArray n}
 |.tup xs=>xs.length<=sizeLine/\∃its:List ad,Vals xs its/\gH h a its.toArray/\∀o,h.get? a=some o->o.dict=none
 |.dK kvs=>kvs.length<=sizeLine/\(a==dH)=false/\∃vs,KV kvs vs/\h.DictOf (aQm P w) a vs
 |.dT kvs=>kvs.length<=sizeLine/\(a==dH)=false/\∃xs:List (List Key×Addr×ad),
   bx (λ(p:List Key×V) (q:List Key×Addr×ad)=>p.1=q.1/\H q.2.1=some (.tup (p.1.map kV))/\RelV p.2 q.2.2) kvs xs /\
   ∃o es ep,h.get? a=some o/\o.ExactDict/\o.data=.dict es ep/\es.toList=xs.map (entryOfKey (iw (aQm P w)))/\(xs.map (·.1)).Nodup
 |.set S n=>h.SetOf (intKind P w) a S n
 |.ins C dx fs=>H dx=some (.own a)/\fs.length<=1000/\dx≠a/\h.get? a=some (iZ C dx) /\
   ∃mA,h.Ns1 dx mA/\(∀f,RelO (fs.lookup f) (mA f))/\PySem.Within mA (fs.map (·.1))
 |.own _=>∃o,h.get? a=some o
 |.xd fs=>∃mA,h.Ns1 a mA/\∀f,RelO (fs.lookup f) (mA f)
 |.rng lo hi=>∃t u v,h.get? a=some {cls:=.type "range",data:=.fields #[.int lo t,.int hi u,.int 1 v]}
 |.frz o u=>h.get? a=some o/\ObjOk H h a u
 |.tbl ps=>h.get? a=some {cls:=.none,data:=.fields ps}
 |.met f x=>h.get? a=some (g9 (.ref f) (.ref x))
 |.ext φ=>φ h/\(∃o,h.get? a=some o)/\∀h1 h2:aY,φ h1->(∀o,h1.get? a=some o->h2.get? a=some o)->φ h2
def HOk(H:Hp)(h:aY):Prop:=∀a o,H a=some o->ObjOk P w H h a o
end
section
variable{P:aC}{w:aL}{H H':Hp}{h h':aY}{a:Addr}{o:HO}
theorem ObjOk.lt(x:ObjOk P w H h a o):a<h.objs.size:=by
 cases o with
 |lst xs=>obtain⟨_,_,_,_,e⟩:=x;exact aD e
 |tup xs=>obtain⟨_,_,_,p⟩:=x;exact p.1.lt
 |dK j=>obtain⟨_,_,_,_,o,_,_,e,_⟩:=x;exact aD e
 |dT j=>obtain⟨_,_,_,_,o,_,_,e,_⟩:=x;exact aD e
 |set S n=>obtain⟨o,_,_,_,e,_⟩:=x;exact aD e
 |ins C dx fs=>obtain⟨_,_,_,e,_⟩:=x;exact aD e
 |own y=>obtain⟨_,e⟩:=x;exact aD e
 |xd fs=>obtain⟨_,⟨_,_,_,e,_⟩,_⟩:=x;exact aD e
 |rng lo hi=>obtain⟨_,_,_,e⟩:=x;exact aD e
 |frz z u=>obtain⟨e,_⟩:=x;exact aD e
 |tbl ps=>exact aD (show h.get? a=some _ from x)
 |met f y=>exact aD (show h.get? a=some _ from x)
 |ext φ=>obtain⟨_,⟨_,e⟩,_⟩:=x;exact aD e
theorem Paired.mapP{α β:Type}{F G:α->β->Prop}:∀{l₁:List α}{l₂:List β},bx F l₁ l₂->(∀a b,F a b->G a b)->bx G l₁ l₂
 |_,_,.nil,_=>.nil
 |_,_,.cons r t,f=>.cons (f _ _ r) (Paired.mapP t f)
theorem ObjOk.stay(x:ObjOk P w H h a o)(k:∀b u,(b=a\/H b=some (.own a))->h.get? b=some u->h'.get? b=some u)
  (ho:∀b,H b=some (.own a)->H' b=some (.own a)) (ht:∀b xs,H b=some (.tup xs)->H' b=some (.tup xs)):ObjOk P w H' h' a o:=by
 induction o with
 |lst xs=>obtain⟨z,its,n,r,e⟩:=x;exact⟨z,its,n,r,k _ _ (.inl rfl) e⟩
 |tup xs =>
  obtain⟨z,its,r,⟨j,e,c⟩,nd⟩:=x;exact⟨z,its,r,⟨j,k _ _ (.inl rfl) e,c⟩,λo q=>by rw[k _ _ (.inl rfl) e] at q;cases q;exact nd _ e⟩
 |dK L=>obtain⟨z,y,N,r,j,es,B,e,c⟩:=x;exact⟨z,y,N,r,j,es,B,k _ _ (.inl rfl) e,c⟩
 |dT L =>
  obtain⟨z,y,xs,r,j,es,B,e,c⟩:=x;exact⟨z,y,xs,Paired.mapP r λp q z=>⟨z.1,ht _ _ z.2.1,z.2.2⟩,j,es,B,k _ _ (.inl rfl) e,c⟩
 |set S n=>obtain⟨j,es,B,t,e,c⟩:=x;exact⟨j,es,B,t,k _ _ (.inl rfl) e,c⟩
 |ins C dx fs =>
  obtain⟨d,z,ne,e,J,⟨D,es,B,U,c⟩,r⟩:=x;exact⟨ho _ d,z,ne,k _ _ (.inl rfl) e,J,⟨D,es,B,k _ _ (.inr d) U,c⟩,r⟩
 |own y=>obtain⟨j,e⟩:=x;exact⟨j,k _ _ (.inl rfl) e⟩
 |xd fs=>obtain⟨J,⟨D,es,B,e,c⟩,r⟩:=x;exact⟨J,⟨D,es,B,k _ _ (.inl rfl) e,c⟩,r⟩
 |rng lo hi=>obtain⟨t,u,v,e⟩:=x;exact⟨t,u,v,k _ _ (.inl rfl) e⟩
 |frz j u O=>obtain⟨e,q⟩:=x;exact⟨k _ _ (.inl rfl) e,O q⟩
 |tbl ps =>
  have e:h.get? a=some {cls:=.none,data:=.fields ps}:=x;show h'.get? a=some {cls:=.none,data:=.fields ps};exact k a _ (.inl rfl) e
 |met f y =>
  have e:h.get? a=some (g9 (.ref f) (.ref y)):=x;show h'.get? a=some (g9 (.ref f) (.ref y));exact k a _ (.inl rfl) e
 |ext φ=>obtain⟨p,⟨o,e⟩,st⟩:=x;exact⟨st _ _ p λo q=>k _ _ (.inl rfl) q,⟨o,k _ _ (.inl rfl) e⟩,st⟩
theorem bXe{g:aY}{arr:Array ad}{n:Nat}:∀o,(g.push {cls:=.type "tuple",data:=.seq arr n}).get? g.objs.size=some o->o.dict=none:=λo e=>by
 rw[ax _ rfl] at e;cases e;rfl
theorem HOk.lt(x:HOk P w H h)(e:H a=some o):a<h.objs.size:=(x a o e).lt
theorem HOk.fresh(x:HOk P w H h)(e:h.objs.size<=a):H a=none:=by
 cases q:H a with
 |none=>rfl
 |some u=>exact absurd (Nat.lt_of_lt_of_le (x.lt q) e) (Nat.lt_irrefl _)
theorem HOk.kept(x:HOk P w H h)(k:∀b u,h.get? b=some u->h'.get? b=some u):HOk P w H h':=λa o e =>
 (x a o e).stay (λb u _ q=>k b u q) (λ_ q=>q) λ_ _ q=>q
theorem HOk.laid(x:HOk P w H h)(k:∀b u,h.get? b=some u->h'.get? b=some u)(hp:h.objs.size<=a)(new:ObjOk P w (upd H a o) h' a o):HOk P w (upd H a o) h':=λb u e=>by
 have j:=x.fresh hp
 by_cases z:b=a
 ·subst z;rw[aQ7] at e;cases e;exact new
 ·rw[upd_ne z] at e;exact(x b u e).stay (λc v _ q=>k c v q) (λc q=>by rw[upd_ne (ne_of_none q j)];exact q) λc xs q=>by rw[upd_ne (ne_of_none q j)];exact q
end
def Rd(H:Hp)(a:Addr)(u:HO):Prop:=H a=some u\/∃o,H a=some (.frz o u)
theorem Rd.ok{P:aC}{w:aL}{H:Hp}{h:aY}{a:Addr}{u:HO}(r:Rd H a u)(x:HOk P w H h):ObjOk P w H h a u:=by
 rcases r with r|⟨o,r⟩
 ·exact x a u r
 ·obtain⟨_,q⟩:=x a _ r;exact q
def Mut:Option HO->Prop
 |some (.lst _)=>True
 |some (.dK _)=>True
 |some (.dT _)=>True
 |some (.set _ _)=>True
 |some (.ins _ _ _)=>True
 |some (.ext _)=>True
 |_=>False
section
variable{P:aC}{w:aL}{H:Hp}{h h':aY}{x e:Addr}{o':HO}
theorem HOk.write(ok:HOk P w H h)(mu:Mut (H x))(he:e=x\/H e=some (.own x))(k:∀b u,b≠e->h.get? b=some u->h'.get? b=some u)(heo:∃u,h'.get? e=some u)
  (new:ObjOk P w (upd H x o') h' x o'):HOk P w (upd H x o') h':=λb u q=>by
 have B:∀c y,H c=some (.own y)->c≠x:=λc y r z=>by subst z;rw[r] at mu;exact mu
 have ntup:∀c xs,H c=some (.tup xs)->c≠x:=λc xs r z=>by subst z;rw[r] at mu;exact mu
 by_cases J:b=x
 ·subst J;rw[aQ7] at q;cases q;exact new
 ·rw[upd_ne J] at q
  by_cases j:b=e
  ·have q':H b=some (.own x):=by
    rcases he with z|z
    ·exact absurd (j.trans z) J
    ·rw[j];exact z
   rw[q] at q';cases q';obtain⟨v,L⟩:=heo;exact⟨v,by rw[j];exact L⟩
  ·refine(ok b u q).stay (λc v D r=>k c v ?_ r) (λc r=>by rw[upd_ne (B c b r)];exact r) λc xs r=>by rw[upd_ne (ntup c xs r)];exact r
   rcases D with rfl|D
   ·exact j
   ·rintro rfl;rcases he with z|z
    ·exact B c b D z
    ·rw[D] at z;cases z;exact J rfl
end
structure Un(fs ex:List Addr)(H H':Hp)(h h':aY):Prop where
 keep:∀b o,h.get? b=some o->H b=none->b∉fs->b∉ex->h'.get? b=some o
 slot:∀b o,h.get? b=some o->H b=none->b∈fs->b∉ex->∃sl,h'.get? b=some {o with slots:=sl}
 free:∀b o,h.get? b=some o->H b=none->b∉ex->H' b=none
 there:∀b o,h.get? b=some o->b∉ex->∃o',h'.get? b=some o'
 tups:∀b xs,H b=some (.tup xs)->H' b=some (.tup xs)
 frzs:∀b o u,H b=some (.frz o u)->H' b=some (.frz o u)
 tbls:∀b ps,H b=some (.tbl ps)->∃more,H' b=some (.tbl (ps++more))
section
variable{fs fs' ex ex':List Addr}{H H1 H2:Hp}{h h1 h2 h':aY}{a x e:Addr}{o:HO}
theorem Un.any(u:Un fs ex H H1 h h1){b:Addr}{ob:Obj}(q:h.get? b=some ob)(n:H b=none)(hx:b∉ex):∃sl,h1.get? b=some {ob with slots:=sl}:=by
 by_cases j:b∈fs
 ·exact u.slot b ob q n j hx
 ·exact⟨ob.slots,u.keep b ob q n j hx⟩
theorem Un.kept(k:∀b u,h.get? b=some u->h'.get? b=some u):Un fs ex H H h h' :=
 ⟨λb j q _ _ _=>k b j q,λb j q _ _ _=>⟨j.slots,k b j q⟩,λ_ _ _ n _=>n,λb j q _=>⟨j,k b j q⟩,λ_ _ q=>q,λ_ _ _ q=>q,λ_ ps q=>⟨#[],by rw[q];simp⟩⟩
theorem Un.refl:Un fs ex H H h h:=Un.kept λ_ _ q=>q
theorem Un.laid(k:∀b u,h.get? b=some u->h'.get? b=some u)(hp:h.objs.size<=a)(hn:H a=none):Un fs ex H (upd H a o) h h' where
 keep:=λb u q _ _ _=>k b u q
 slot:=λb u q _ _ _=>⟨u.slots,k b u q⟩
 free:=λb u q n _=>by rw[upd_ne (Nat.ne_of_lt (Nat.lt_of_lt_of_le (aD q) hp))];exact n
 there:=λb u q _=>⟨u,k b u q⟩
 tups:=λb xs q=>by rw[upd_ne (ne_of_none q hn)];exact q
 frzs:=λb u xs q=>by rw[upd_ne (ne_of_none q hn)];exact q
 tbls:=λb ps q=>⟨#[],by rw[upd_ne (ne_of_none q hn),q];simp⟩
theorem Un.write(mu:Mut (H x))(he:e=x\/H e=some (.own x))(k:∀b u,b≠e->h.get? b=some u->h'.get? b=some u)(heo:∃u,h'.get? e=some u):Un fs ex H (upd H x o) h h':=by
 have B:∀b,H b=none->b≠x:=λb n z=>by subst z;rw[n] at mu;exact mu
 have D:∀b,H b=none->b≠e:=λb n z=>by
  subst z;rcases he with r|r
  ·exact B b n r
  ·rw[n] at r;cases r
 have hm:∀b u,H b=some u->¬ Mut (some u)->b≠x:=λb u q nm z=>by subst z;rw[q] at mu;exact nm mu
 refine⟨λb u q n _ _=>k b u (D b n) q,λb u q n _ _=>⟨u.slots,k b u (D b n) q⟩,λb u q n _=>by rw[upd_ne (B b n)];exact n,λb u q _=>?_,
  λb xs q=>by rw[upd_ne (hm b _ q λz=>z)];exact q,λb u xs q=>by rw[upd_ne (hm b _ q λz=>z)];exact q,λb ps q=>⟨#[],by rw[upd_ne (hm b _ q λz=>z),q];simp⟩⟩
 by_cases j:b=e
 ·subst j;exact heo
 ·exact⟨u,k b u j q⟩
end
def trk(h:aY)(H:Hp):List Addr:=(bu h.objs.size).filter λa=>(H a).isSome
def hidT(h:aY)(H:Hp):aY:=PySem.W.hideAll h (trk h H)
theorem bJx(h:aY)(H:Hp):(hidT h H).objs.size=h.objs.size:=PySem.W.hideAll_size _ _
theorem cXs{h:aY}{H:Hp}{b:Addr}{o:Obj}(e:h.get? b=some o)(n:H b=none):(hidT h H).get? b=some o :=
 PySem.W.hideAll_get _ e λhm=>by
  have q:(H b).isSome=true:=(cF.mp hm).2;rw[n] at q;simp at q
theorem dQy{h:aY}{H:Hp}{b:Addr}{o:Obj}(e:(hidT h H).get? b=some o):h.get? b=some o/\H b=none:=by
 have j:h.get? b=some o:=PySem.W.of_hideAll (trk h H) e;refine⟨j,?_⟩;cases q:H b with
 |none=>rfl
 |some x =>
  have hm:b∈trk h H:=cF.mpr ⟨bO.mpr (aD j),by simp[q]⟩
  have z:(hidT h H).get? b=none:=PySem.W.hideAll_none (trk h H) hm;rw[z] at e;cases e
structure Mod(K:ap)(mg:Str->Option ad)(base:aY):Prop where
 kin:K.In base
 glob:base.Ns aP mg
 blt:∃mb,base.Ns gI mb/\∀x:Str,x ≠ "__name__"->mb x=bg x
 nolimit:base.NoLimit
structure Cx where
 prog:aC
 w:aL
 K:ap
 mg:Str->Option ad
 base:aY
 A:aO
 N:List Str
 s₀:ah
 H₀:Hp
 env:Env
 outer:List Env
 stack:List Env
 ex:List Addr
 fn:Str->Bool
 calm:Bool
 pn:List (Addr×Obj)
 xe:ad->ah->Prop
def frs(l:List Env):List Addr:=l.filterMap (·.frame)
abbrev Cx.fs(X:Cx):List Addr:=frs X.outer
def Vis(sc:Scope)(x:Str):Prop:=sc.names.lookup x=some .local\/sc.names.lookup x=some .cell\/sc.names.lookup x=some .free
def Loc(sc:Scope)(x:Str):Prop:=sc.names.lookup x=some .local\/sc.names.lookup x=some .cell
def Look(env:Env)(h:aY)(m:Str->Option ad)(x:Str)(u:ad):Prop :=
 (env.kindOf x=some .local/\m x=some u)\/((env.kindOf x=some .cell\/env.kindOf x=some .free)/\∃c,env.cells.lookup x=some c/\h.IsCell c (some u))
structure Cx.Ok(X:Cx):Prop where
 mod:Mod X.K X.mg X.base
 kind:X.env.scope.kind=.function
 glob:X.env.globals=aP
 blt:X.env.builtins=gI
 above:X.s₀.heap.objs.size<=X.env.locals
 inj:∀x y c,X.env.cells.lookup x=some c->X.env.cells.lookup y=some c->x=y
 has:∀x,(X.env.kindOf x=some .cell\/X.env.kindOf x=some .free)->∃c,X.env.cells.lookup x=some c
 cab:∀x c,X.fn x=true->X.env.cells.lookup x=some c->X.s₀.heap.objs.size<=c
 hd:X.calm=true->X.A.handled=none
 frames:X.A.frames=some X.stack
 gd:X.A.guards=some []
 stk:X.stack=X.outer\/(X.stack=X.env::X.outer/\X.env.frame=some X.env.locals)
 exf:∀b∈X.ex,b≠X.env.locals/\∀x c,X.env.cells.lookup x=some c->c≠b
 bs:∀b o,X.base.get? b=some o->X.s₀.heap.get? b=some o/\X.H₀ b=none
 bsz:X.base.objs.size<=X.s₀.heap.objs.size
 noex:∀b o,X.base.get? b=some o->b∉X.ex
 exfs:∀b∈X.ex,b∉X.fs
 funs:X.s₀.heap.FunFrames X.base X.outer
 frf:∀b∈X.fs,X.H₀ b=none
structure Inv(X:Cx)(pins:List (Addr×Obj))(σ:List (Option V))(H:Hp)(s:ah):Prop where
 ok:X.Ok
 os:s.os=X.s₀.os
 bare:hJ s.gens
 base:Un X.fs X.ex X.H₀ H X.s₀.heap s.heap
 loc:∃m,s.heap.Ns X.env.locals m/\∀(i:Nat) (x:Str) (v:V),X.N[i]?=some x->σ[i]?=some (some v)->Vis X.env.scope x->∃u,RelV v u/\Look X.env s.heap m x u
 cell:∀x c,X.env.cells.lookup x=some c->∃v,s.heap.IsCell c v
 free:H X.env.locals=none
 freeC:∀x c,X.env.cells.lookup x=some c->H c=none
 pin:∀p∈X.pn++pins,s.heap.get? p.1=some p.2/\H p.1=none/\p.1≠X.env.locals/\p.1∉X.fs/\∀v,p.2.data≠.cell v
 hok:HOk X.prog X.w H s.heap
 len:σ.length=X.N.length
section
variable{X:Cx}{pins:List (Addr×Obj)}{σ:List (Option V)}{H H':Hp}{s:ah}{h':aY}
theorem Cx.Ok.nofr(ok:X.Ok){b:Addr}{o:Obj}(e:X.base.get? b=some o):b∉X.fs:=λj=>by
 have:=(ok.funs.mem j).1
 rw[e] at this;cases this
theorem Inv.bs(I:Inv X pins σ H s):∀b o,X.base.get? b=some o->s.heap.get? b=some o/\H b=none:=λb o e =>
 ⟨I.base.keep b o (I.ok.bs b o e).1 (I.ok.bs b o e).2 (I.ok.nofr e) (I.ok.noex b o e),I.base.free b o (I.ok.bs b o e).1 (I.ok.bs b o e).2 (I.ok.noex b o e)⟩
theorem Inv.bk(I:Inv X pins σ H s):∀b o,X.base.get? b=some o->s.heap.get? b=some o:=λb o e=>(I.bs b o e).1
theorem Inv.mod(I:Inv X pins σ H s):Mod X.K X.mg X.base:=I.ok.mod
theorem Inv.kIn(I:Inv X pins σ H s):X.K.In s.heap:=I.ok.mod.kin.keeps I.bk
theorem Inv.nolimit(I:Inv X pins σ H s):s.heap.NoLimit:=I.ok.mod.nolimit.keeps I.bk
theorem Inv.lt(I:Inv X pins σ H s):X.env.locals<s.heap.objs.size:=let ⟨_,j,_⟩:=I.loc;j.lt
theorem Inv.sz(I:Inv X pins σ H s):X.s₀.heap.objs.size<=s.heap.objs.size:=Nat.le_trans I.ok.above (Nat.le_of_lt I.lt)
theorem Inv.nofs(I:Inv X pins σ H s){a:Addr}(h:s.heap.objs.size<=a):a∉X.fs:=λz=>by
 obtain⟨_,o,j,_⟩:=I.ok.funs.mem z;exact absurd (Nat.lt_of_lt_of_le (aD j) (Nat.le_trans I.sz h)) (Nat.lt_irrefl _)
theorem Inv.cne(I:Inv X pins σ H s):∀x c,X.env.cells.lookup x=some c->c≠X.env.locals:=λx c e z=>by
 obtain⟨v,o,ho,hd⟩:=I.cell x c e;obtain⟨m,⟨o',es,D,j,B,_⟩,_⟩:=I.loc;rw[z,j] at ho;cases ho;rw[B] at hd;cases hd
theorem Inv.funs(I:Inv X pins σ H s):s.heap.FunFrames X.base X.outer:=by
 have all:∀(l:List Env),(∀b∈frs l,b∈X.fs)->X.s₀.heap.FunFrames X.base l->s.heap.FunFrames X.base l:=by
  intro l
  induction l with
  |nil=>intro _ _;trivial
  |cons env r J =>
   intro D Y;obtain⟨Z,⟨L,o,hf,U,O,hd⟩,N⟩:=Y;have B:L∈X.fs:=D L (by unfold frs;rw[d3,hf];exact aA)
   obtain⟨sl,e⟩:=I.base.slot L o O (I.ok.frf L B) B λz=>I.ok.exfs L z B;exact⟨Z,⟨L,_,hf,U,e,hd⟩,J (λb j=>D b (by unfold frs;rw[d3,hf];exact au _ j)) N⟩
 exact all X.outer (λ_ j=>j) I.ok.funs
theorem Inv.stack(I:Inv X pins σ H s):s.heap.FunFrames X.base X.stack:=by
 rcases I.ok.stk with e|⟨e,hf⟩
 ·rw[e];exact I.funs
 ·rw[e];obtain⟨m,j,_⟩:=I.loc;refine .cons (by rw[I.ok.kind];decide) hf j ?_ I.funs
  exact aY.get?_none_of_le (Nat.le_trans I.ok.bsz I.ok.above)
theorem Inv.stkSub(I:Inv X pins σ H s):∀b∈frs X.stack,b∈X.env.locals::X.fs:=λb j=>by
 rcases I.ok.stk with e|⟨e,hf⟩
 ·rw[e] at j;exact au _ j
 ·rw[e] at j;unfold frs at j;rw[d3,hf] at j;exact j
theorem Inv.stkFree(I:Inv X pins σ H s):∀b∈frs X.stack,H b=none:=λb j=>by
 rcases aQ.mp (I.stkSub b j) with e|j
 ·rw[e];exact I.free
 ·obtain⟨_,o,B,_⟩:=I.ok.funs.mem j;exact I.base.free b o B (I.ok.frf b j) λz=>I.ok.exfs b z j
theorem Inv.step{g':Array GenState}{t':Nat}{d':Drawn}{ch:List Addr}(I:Inv X pins σ H s)
  (hch:∀b∈ch,(b∈X.ex\/X.s₀.heap.objs.size<=b)/\b≠X.env.locals/\(∀x c,X.env.cells.lookup x=some c->c≠b)/\∀p∈X.pn++pins,p.1≠b)
  (keep:∀b o,b≠X.env.locals->b∉X.fs->b∉ch->s.heap.get? b=some o->H b=none->h'.get? b=some o)
  (slot:∀b o,b≠X.env.locals->b∈X.fs->b∉ch->s.heap.get? b=some o->H b=none->∃sl,h'.get? b=some {o with slots:=sl}) (free:∀b o,b∉ch->s.heap.get? b=some o->H b=none->H' b=none)
  (there:∀b o,b∉ch->s.heap.get? b=some o->∃o',h'.get? b=some o')
  (tups:∀b xs,H b=some (.tup xs)->H' b=some (.tup xs)) (frzs:∀b o u,H b=some (.frz o u)->H' b=some (.frz o u)) (tbls:∀b ps,H b=some (.tbl ps)->∃more,H' b=some (.tbl (ps++more)))
  (ns:∀m,s.heap.Ns X.env.locals m->h'.Ns X.env.locals m) (hok:HOk X.prog X.w H' h') (hg:hJ g') :
  Inv X pins σ H' {s with heap:=h',gens:=g',drawn:=d',toks:=t'}:=by
 have O:∀b o,X.s₀.heap.get? b=some o->b≠X.env.locals:=λb o e=>Nat.ne_of_lt (Nat.lt_of_lt_of_le (aD e) I.ok.above);have D:∀b o,X.s₀.heap.get? b=some o->b∉X.ex->b∉ch:=λb o e j L=>by
  rcases(hch b L).1 with z|z
  ·exact j z
  ·exact absurd (Nat.lt_of_lt_of_le (aD e) z) (Nat.lt_irrefl _)
 have cellK:∀x c,X.env.cells.lookup x=some c->∀v,s.heap.IsCell c v->h'.IsCell c v:=λx c e v ⟨o,N,hd⟩=>by
  have B:c∉ch:=λz=>(hch c z).2.2.1 x c e rfl
  by_cases hc:c∈X.fs
  ·obtain⟨sl,q⟩:=slot c o (I.cne x c e) hc B N (I.freeC x c e);exact⟨_,q,hd⟩
  ·exact⟨o,keep c o (I.cne x c e) hc B N (I.freeC x c e),hd⟩
 refine⟨I.ok,I.os,hg,⟨λb o e n L j=>?_,λb o e n L j=>?_,λb o e n j=>?_,λb o e j=>?_,λb xs e=>tups b xs (I.base.tups b xs e),λb o xs e=>frzs b o xs (I.base.frzs b o xs e),λb ps e=>?_⟩,?_,λx c e=>?_,?_,λx c e=>?_,λp hp=>?_,hok,I.len⟩
 ·exact keep b o (O b o e) L (D b o e j) (I.base.keep b o e n L j) (I.base.free b o e n j)
 ·obtain⟨sl,J⟩:=I.base.slot b o e n L j;obtain⟨Y,U⟩:=slot b _ (O b o e) L (D b o e j) J (I.base.free b o e n j);exact⟨Y,U⟩
 ·obtain⟨o',J⟩:=I.base.there b o e j;exact free b o' (D b o e j) J (I.base.free b o e n j)
 ·obtain⟨o',J⟩:=I.base.there b o e j;exact there b o' (D b o e j) J
 ·obtain⟨m1,J⟩:=I.base.tbls b ps e;obtain⟨m2,U⟩:=tbls b _ J;exact⟨m1++m2,by rw[U,Array.append_assoc]⟩
 ·obtain⟨m,hn,hl⟩:=I.loc;refine⟨m,ns m hn,λi x v J U e3=>?_⟩;obtain⟨u,r,l⟩:=hl i x v J U e3;refine⟨u,r,?_⟩;rcases l with l|⟨k,c,e,z⟩
  ·exact .inl l
  ·exact .inr ⟨k,c,e,cellK x c e _ z⟩
 ·obtain⟨v,z⟩:=I.cell x c e;exact⟨v,cellK x c e v z⟩
 ·obtain⟨m,⟨o,_,_,N,_⟩,_⟩:=I.loc;exact free _ o (λz=>(hch _ z).2.1 rfl) N I.free
 ·obtain⟨v,o,N,hd⟩:=I.cell x c e;exact free c o (λz=>(hch c z).2.2.1 x c e rfl) N (I.freeC x c e)
 ·obtain⟨e,n,ne,Z,d⟩:=I.pin p hp;have B:p.1∉ch:=λz=>(hch p.1 z).2.2.2 p hp rfl;exact⟨keep p.1 p.2 ne Z B e n,free p.1 p.2 B e n,ne,Z,d⟩
theorem Inv.un{t':Nat}(I:Inv X pins σ H s)(u:Un X.fs [] H H' s.heap h')(hok:HOk X.prog X.w H' h'):Inv X pins σ H' {s with heap:=h',toks:=t'}:=by
 obtain⟨m,⟨o,es,U,J,r⟩,_⟩:=id I.loc;obtain⟨sl,N⟩:=u.any J I.free (by simp)
 exact I.step (g':=s.gens) (d':=s.drawn) (ch:=[]) (λ_ z=>nomatch z) (λb o _ j _ e n=>u.keep b o e n j (by simp)) (λb o _ j _ e n=>u.slot b o e n j (by simp)) (λb o _ e n=>u.free b o e n (by simp)) (λb o _ e=>u.there b o e (by simp)) u.tups u.frzs u.tbls (λO hm=>by
  obtain⟨o',B,D,ho',L⟩:=hm;rw[J] at ho';cases ho';exact⟨_,B,D,N,L⟩) hok I.bare
theorem Inv.call{g':Array GenState}{t':Nat}{d':Drawn}{ch:List Addr}(I:Inv X pins σ H s)(u:Un (frs X.stack) ch H H' s.heap h')(hok:HOk X.prog X.w H' h')(hg:hJ g')
  (hch:∀b∈ch,(b∈X.ex\/X.s₀.heap.objs.size<=b)/\b≠X.env.locals/\(∀x c,X.env.cells.lookup x=some c->c≠b)/\∀p∈X.pn++pins,p.1≠b) :
  Inv X pins σ H' {s with heap:=h',gens:=g',drawn:=d',toks:=t'}:=by
 obtain⟨m,⟨o,es,Y,L,r⟩,_⟩:=id I.loc;obtain⟨sl,B⟩:=u.any L I.free λz=>(hch _ z).2.1 rfl;exact I.step (ch:=ch) hch (λb o B O j e n=>u.keep b o e n (λz=>(aQ.mp (I.stkSub b z)).elim B O) j) (λb o _ _ j e n=>u.any e n j) (λb o j e n=>u.free b o e n j) (λb o j e=>u.there b o e j) u.tups u.frzs u.tbls (λU hm=>by
  obtain⟨o',D,J,ho',N⟩:=hm;rw[L] at ho';cases ho';exact⟨_,D,J,B,N⟩) hok hg
theorem Inv.turned{t':Nat}{it:Addr}(I:Inv X pins σ H s)(k:∀b o,b≠it->s.heap.get? b=some o->h'.get? b=some o)(hn:H it=none)(hL:it≠X.env.locals)
  (h1:it∈X.ex\/X.s₀.heap.objs.size<=it) (h2:∀x c,X.env.cells.lookup x=some c->c≠it) (h3:∀p∈X.pn++pins,p.1≠it):Inv X pins σ H {s with heap:=h',toks:=t'}:=by
 have B:∀b u,H b=some u->b≠it:=λb u e z=>by rw[z,hn] at e;cases e
 refine I.step (g':=s.gens) (d':=s.drawn) (ch:=[it]) (λb J=>?_) (λb o _ _ j e _=>k b o (λz=>j (by simp[z])) e) (λb o _ _ j e _=>⟨o.slots,k b o (λz=>j (by simp[z])) e⟩) (λ_ _ _ _ n=>n)
  (λb o j e=>⟨o,k b o (λz=>j (by simp[z])) e⟩) (λ_ _ e=>e) (λ_ _ _ e=>e) (λb ps e=>⟨#[],by rw[e];simp⟩) (λm hm=>?_) (λb u e=>?_) I.bare
 ·have e:b=it:=by simpa using J
  subst e;exact⟨h1,hL,h2,h3⟩
 ·obtain⟨o,es,L,D,r⟩:=hm;exact⟨o,es,L,k _ o (cy hL) D,r⟩
 ·refine(I.hok b u e).stay (λc v j q=>k c v ?_ q) (λ_ q=>q) λ_ _ q=>q;rcases j with z|z
  ·rw[z];exact B b u e
  ·exact B c _ z
theorem Inv.tok(I:Inv X pins σ H s)(t:Nat):Inv X pins σ H {s with toks:=t}:=I.un (h':=s.heap) (t':=t) Un.refl I.hok
theorem Inv.kept{t':Nat}(I:Inv X pins σ H s)(k:∀b u,s.heap.get? b=some u->h'.get? b=some u):Inv X pins σ H {s with heap:=h',toks:=t'}:=I.un (Un.kept k) (I.hok.kept k)
theorem Inv.laid{a:Addr}{o:HO}{t':Nat}(I:Inv X pins σ H s)(k:∀b u,s.heap.get? b=some u->h'.get? b=some u)(hp:s.heap.objs.size<=a)(new:ObjOk X.prog X.w (upd H a o) h' a o) :
  Inv X pins σ (upd H a o) {s with heap:=h',toks:=t'}:=I.un (Un.laid k hp (I.hok.fresh hp)) (I.hok.laid k hp new)
theorem Inv.write{x e:Addr}{o:HO}{t':Nat}(I:Inv X pins σ H s)(mu:Mut (H x))(he:e=x\/H e=some (.own x))(k:∀b u,b≠e->s.heap.get? b=some u->h'.get? b=some u)(heo:∃u,h'.get? e=some u)
  (new:ObjOk X.prog X.w (upd H x o) h' x o):Inv X pins σ (upd H x o) {s with heap:=h',toks:=t'}:=I.un (Un.write mu he k heo) (I.hok.write mu he k heo new)
theorem Inv.weak{σ':List (Option V)}(I:Inv X pins σ H s)(hl:σ'.length=σ.length)(w:∀(i:Nat) v,σ'[i]?=some (some v)->σ[i]?=some (some v)):Inv X pins σ' H s :=
 ⟨I.ok,I.os,I.bare,I.base,let ⟨m,z,j⟩:=I.loc;⟨m,z,λi x v J D B=>j i x v J (w i v D) B⟩,I.cell,I.free,I.freeC,I.pin,I.hok,hl.trans I.len⟩
theorem Inv.pins_of{pins':List (Addr×Obj)}(I:Inv X pins σ H s)(h:∀p∈pins',s.heap.get? p.1=some p.2/\H p.1=none/\p.1≠X.env.locals/\p.1∉X.fs/\∀v,p.2.data≠.cell v):Inv X pins' σ H s :=
 ⟨I.ok,I.os,I.bare,I.base,I.loc,I.cell,I.free,I.freeC,λp j=>(aN.mp j).elim (λz=>I.pin p (dg _ z)) (h p),I.hok,I.len⟩
theorem nodup_ix{N:List Str}(hN:N.Nodup){i j:Nat}{x:Str}(a:N[i]?=some x)(b:N[j]?=some x):i=j:=by
 obtain⟨h1,B⟩:=aE.mp a;obtain⟨h2,z⟩:=aE.mp b;exact(List.getElem_inj hN).mp (B.trans z.symm)
theorem bJy{M:Model}{A:aO}{E:ad->ah->Prop}{i:Nat}{x:Str}{v:V}{u:ad}{Q:Unit->ah->Prop}(I:Inv X pins σ H s)(hN:X.N.Nodup)(hi:X.N[i]?=some x)(hx:Loc X.env.scope x)(r:RelV v u)
  (h:∀s',Inv X pins (σ.set i (some v)) H s'->(∃a,dw a s.heap s'.heap/\(a=X.env.locals\/X.env.cells.lookup x=some a))->Q () s') (hf:X.fn x=true\/X.env.scope.names.lookup x=some .local:=by first|exact .inl rfl|exact .inr rfl|assumption):aF M A (storeName X.env x u) Q E s:=by
 obtain⟨m,hn,hl⟩:=id I.loc;have Z:(X.env.scope.kind ==.class||(X.env.scope.kind ==.module&&X.env.locals !=X.env.globals))=false:=by rw[I.ok.kind];rfl
 have hiσ:i<σ.length:=by rw[I.len];exact(aE.mp hi).1
 have cne:=I.cne;have tracked:∀{a:Addr}{h':aY},(∃o,s.heap.get? a=some o/\H a=none)->dw a s.heap h'->HOk X.prog X.w H h':=λ{a h'} ha B b ob e=>by
  obtain⟨_,_,D⟩:=ha;refine(I.hok b ob e).stay (λc w' hc q=>(B.2 c ?_).trans q) (λ_ q=>q) λ_ _ q=>q;rintro rfl;rcases hc with rfl|hc
  ·rw[D] at e;cases e
  ·rw[D] at hc;cases hc
 rcases hx with hk|hk
 ·refine wpAny_storeName_local hk hn (λh' hn' B=>?_) Z;obtain⟨oL,_,_,hoL,_⟩:=id hn;refine h _ ⟨I.ok,I.os,I.bare,⟨λb o e n O hx=>?_,λb o e n O hx=>?_,I.base.free,λb o e hx=>?_,I.base.tups,I.base.frzs,I.base.tbls⟩,⟨_,hn',λj y v' e1 e2 e3=>?_⟩,λy c e=>?_,I.free,I.freeC,λp hp=>?_,tracked ⟨oL,hoL,I.free⟩ B,by simpa using I.len⟩ ⟨_,B,.inl rfl⟩
  ·exact(B.2 b (Nat.ne_of_lt (Nat.lt_of_lt_of_le (aD e) I.ok.above))).trans (I.base.keep b o e n O hx)
  ·obtain⟨sl,e1⟩:=I.base.slot b o e n O hx;exact⟨sl,(B.2 b (Nat.ne_of_lt (Nat.lt_of_lt_of_le (aD e) I.ok.above))).trans e1⟩
  ·obtain⟨o',e1⟩:=I.base.there b o e hx;exact⟨o',(B.2 b (Nat.ne_of_lt (Nat.lt_of_lt_of_le (aD e) I.ok.above))).trans e1⟩
  ·by_cases J:j=i
   ·subst J;rw[hi] at e1;cases e1;rw[List.getElem?_set_self hiσ] at e2;cases e2;exact⟨u,r,.inl ⟨hk,by simp⟩⟩
   ·rw[eK (cy J)] at e2;obtain⟨u',r',q⟩:=hl j y v' e1 e2 e3;refine⟨u',r',?_⟩;rcases q with⟨k,e⟩|⟨k,c,e,z⟩
    ·refine .inl ⟨k,?_⟩
     have:y≠x:=λe=>J (nodup_ix hN e1 (e▸hi))
     simp[this,e]
    ·exact .inr ⟨k,c,e,z.sameBut B (cne y c e)⟩
  ·obtain⟨w',z⟩:=I.cell y c e;exact⟨w',z.sameBut B (cne y c e)⟩
  ·obtain⟨e,n,ne,nf,d⟩:=I.pin p hp;exact⟨(B.2 p.1 ne).trans e,n,ne,nf,d⟩
 ·have L:X.fn x=true:=by
   rcases hf with z|z
   ·exact z
   ·rw[z] at hk;cases hk
  obtain⟨c,hc⟩:=I.ok.has x (.inl hk);obtain⟨w',z⟩:=I.cell x c hc;refine wpAny_storeName_cell I.ok.kind hk hc z (λh' hc' B=>?_);obtain⟨oc,Y,U⟩:=id z;refine h {s with heap:=h'} ⟨I.ok,I.os,I.bare,⟨λb o e n O hx=>?_,λb o e n O hx=>?_,I.base.free,λb o e hx=>?_,I.base.tups,I.base.frzs,I.base.tbls⟩,⟨m,hn.sameBut B (cy (cne x c hc)),λj y v' e1 e2 e3=>?_⟩,λy c' e=>?_,I.free,I.freeC,λp hp=>?_,tracked ⟨oc,Y,I.freeC x c hc⟩ B,by simpa using I.len⟩ ⟨c,B,.inr hc⟩
  ·exact(B.2 b (Nat.ne_of_lt (Nat.lt_of_lt_of_le (aD e) (I.ok.cab x c L hc)))).trans (I.base.keep b o e n O hx)
  ·obtain⟨sl,e1⟩:=I.base.slot b o e n O hx;exact⟨sl,(B.2 b (Nat.ne_of_lt (Nat.lt_of_lt_of_le (aD e) (I.ok.cab x c L hc)))).trans e1⟩
  ·obtain⟨o',e1⟩:=I.base.there b o e hx;exact⟨o',(B.2 b (Nat.ne_of_lt (Nat.lt_of_lt_of_le (aD e) (I.ok.cab x c L hc)))).trans e1⟩
  ·by_cases J:j=i
   ·subst J;rw[hi] at e1;cases e1;rw[List.getElem?_set_self hiσ] at e2;cases e2;exact⟨u,r,.inr ⟨.inl hk,c,hc,hc'⟩⟩
   ·rw[eK (cy J)] at e2;obtain⟨u',r',q⟩:=hl j y v' e1 e2 e3;refine⟨u',r',?_⟩;rcases q with q|⟨k,c',e,z'⟩
    ·exact .inl q
    ·refine .inr ⟨k,c',e,z'.sameBut B ?_⟩;rintro rfl;exact J (nodup_ix hN e1 (I.ok.inj _ _ _ e hc▸hi))
  ·by_cases hcc:c'=c
   ·subst hcc;exact⟨_,hc'⟩
   ·obtain⟨w2,z2⟩:=I.cell y c' e;exact⟨w2,z2.sameBut B hcc⟩
  ·obtain⟨e,n,ne,nf,d⟩:=I.pin p hp;refine⟨(B.2 p.1 ?_).trans e,n,ne,nf,d⟩;intro q;rw[q,Y] at e;have q':oc=p.2:=aM e;exact d w' (by rw[<- q'];exact U)
theorem store_ok{M:Model}{A:aO}{E:ad->ah->Prop}{i:Nat}{x:Str}{v:V}{u:ad}{Q:Unit->ah->Prop}(I:Inv X pins σ H s)(hN:X.N.Nodup)(hi:X.N[i]?=some x)(hx:Loc X.env.scope x)(r:RelV v u)
  (h:∀s',Inv X pins (σ.set i (some v)) H s'->Q () s') (hf:X.fn x=true\/X.env.scope.names.lookup x=some .local:=by first|exact .inl rfl|exact .inr rfl|assumption):aF M A (storeName X.env x u) Q E s :=
 bJy I hN hi hx r (λs' j _=>h s' j) hf
theorem Inv.call'{s':ah}{ch:List Addr}(I:Inv X pins σ H s)(ho:s'.os=s.os)(u:Un (frs X.stack) ch H H' s.heap s'.heap)(hok:HOk X.prog X.w H' s'.heap)(hg:hJ s'.gens)
  (hch:∀b∈ch,(b∈X.ex\/X.s₀.heap.objs.size<=b)/\b≠X.env.locals/\(∀x c,X.env.cells.lookup x=some c->c≠b)/\∀p∈X.pn++pins,p.1≠b):Inv X pins σ H' s':=by
 obtain⟨h',g',d',t',o'⟩:=s';have e:o'=s.os:=ho;subst e;exact I.call (g':=g') (t':=t') (d':=d') u hok hg hch
end
abbrev XK:=ad->Option Addr->Hp->Prop
abbrev St:=List (Option V)
abbrev VK:=V->Hp->Prop
abbrev TE:=St->Hp->VK->Prop
abbrev TT:=St->Hp->(Bool->Hp->Prop)->Prop
abbrev TA:=St->Hp->(List V->Hp->Prop)->Prop
structure Ends where
 nx:St->Hp->Prop
 rt:VK
 bk:St->Hp->Prop:=λ_ _=>False
 ct:St->Hp->Prop:=λ_ _=>False
abbrev TS:=Ends->St->Hp->Prop
def EP(X:Cx)(pins:List (Addr×Obj))(σ:St)(Q:VK)(u:ad)(s':ah):Prop:=∃v H',Inv X pins σ H' s'/\RelV v u/\Q v H'
def TP(X:Cx)(pins:List (Addr×Obj))(σ:St)(Q:Bool->Hp->Prop)(b:Bool)(s':ah):Prop:=∃H',Inv X pins σ H' s'/\Q b H'
def AP(X:Cx)(pins:List (Addr×Obj))(σ:St)(Q:List V->Hp->Prop)(us:List ad)(s':ah):Prop:=∃vs H',Inv X pins σ H' s'/\Vals vs us/\Q vs H'
def SP(X:Cx)(pins:List (Addr×Obj))(D:Ends)(f:Flow)(s':ah):Prop :=
 match f with
 |.next=>∃σ' H',Inv X pins σ' H' s'/\D.nx σ' H'
 |.brk=>∃σ' H',Inv X pins σ' H' s'/\D.bk σ' H'
 |.cont=>∃σ' H',Inv X pins σ' H' s'/\D.ct σ' H'
 |.ret u=>∃v σ' H',Inv X pins σ' H' s'/\RelV v u/\D.rt v H'
def PE(X:Cx)(e:Expr)(t:TE):Prop :=
 ∀(pins:List (Addr×Obj)) (s:ah) (σ:St) (H:Hp) (Q:VK),Inv X pins σ H s->t σ H Q->aF (az X.prog X.w) X.A (eval e X.env) (EP X pins σ Q) X.xe s
def PT(X:Cx)(e:Expr)(t:TT):Prop :=
 ∀(pins:List (Addr×Obj)) (s:ah) (σ:St) (H:Hp) (Q:Bool->Hp->Prop),Inv X pins σ H s->t σ H Q->aF (az X.prog X.w) X.A (isTrue e X.env (eval e X.env)) (TP X pins σ Q) X.xe s
def PW(X:Cx)(e:Expr)(t:TT):Prop :=
 ∀(whole:Sem ad) (pins:List (Addr×Obj)) (s:ah) (σ:St) (H:Hp) (Q:Bool->Hp->Prop),Inv X pins σ H s->t σ H Q->aF (az X.prog X.w) X.A (isTrue e X.env whole) (TP X pins σ Q) X.xe s
theorem PW.pt{X:Cx}{e:Expr}{t:TT}(h:PW X e t):PT X e t:=h _
def PA(X:Cx)(es:List Expr)(t:TA):Prop :=
 ∀(pos:Pos) (pins:List (Addr×Obj)) (s:ah) (σ:St) (H:Hp) (Q:List V->Hp->Prop),Inv X pins σ H s->t σ H Q->aF (az X.prog X.w) X.A (spliced (bZ pos (av es X.env))) (AP X pins σ Q) X.xe s
def PS(X:Cx)(st:Stmt)(t:TS):Prop :=
 ∀(pins:List (Addr×Obj)) (s:ah) (σ:St) (H:Hp) (D:Ends),Inv X pins σ H s->t D σ H->aF (az X.prog X.w) X.A (exec st X.env) (SP X pins D) X.xe s
def PSs(X:Cx)(st:List Stmt)(t:TS):Prop :=
 ∀(pins:List (Addr×Obj)) (s:ah) (σ:St) (H:Hp) (D:Ends),Inv X pins σ H s->t D σ H->aF (az X.prog X.w) X.A (execs st X.env) (SP X pins D) X.xe s
theorem thn{α:Type}{t:Sem α}{Q Q':α->ah->Prop}{M:Model}{A:aO}{E:ad->ah->Prop}{s:ah}(h:aF M A t Q E s)(hQ:∀a s,Q a s->Q' a s):aF M A t Q' E s:=cr h hQ λ_ _ x=>x
section
variable{X:Cx}
def tVar(i:Nat):TE:=fun σ H Q=>∃v,σ[i]?=some (some v)/\Q v H
def tC(v:V):TE:=λ_ H Q=>Q v H
theorem dJl{i:Nat}{x:Str}{pos:Pos}(hN:X.N[i]?=some x)(hv:Vis X.env.scope x)(hd:(x==("__debug__":Str))=false:=by decide)(hcd:(x==("__classdict__":Str))=false:=by decide):PE X (.Name x pos) (tVar i):=by
 intro pins s σ H Q I h;obtain⟨v,e,h⟩:=h;obtain⟨m,D,J⟩:=I.loc;obtain⟨u,r,l⟩:=J i x v hN e hv;have fin:EP X pins σ Q u s:=⟨v,H,I,r,h⟩;rcases l with⟨z,hm⟩|⟨z,c,B,j⟩
 ·exact wpAny_Name (wpAny_loadName_local I.ok.kind z D hm fin) hd
 ·rcases z with z|z
  ·exact wpAny_Name (wpAny_loadName_cell I.ok.kind z B j fin) hd
  ·exact wpAny_Name (wpAny_loadName_free I.ok.kind z B j fin hcd) hd
theorem dJm{i j pos}:PE X (.Constant (.int i) j pos) (tC (.int i)):=λ_ _ _ H _ I h=>wpAny_Constant_int ⟨.int i,H,I.tok _,⟨_,rfl⟩,h⟩
theorem eJ4{b j pos}:PE X (.Constant (.bool b) j pos) (tC (.bl b)):=λ_ _ _ H _ I h=>Constant_bool ⟨.bl b,H,I,rfl,h⟩
theorem dJn{j pos}:PE X (.Constant .none j pos) (tC .non):=λ_ _ _ H _ I h=>Constant_none ⟨.non,H,I,rfl,h⟩
theorem dJo{x j pos}:PE X (.Constant (.str x) j pos) (tC (.str x)):=λ_ _ _ H _ I h=>Calls.Constant_str ⟨.str x,H,I.tok _,⟨_,rfl⟩,h⟩
def Gl(X:Cx)(x:Str):Prop:=X.env.kindOf x=some .globalImplicit
theorem ld_glob{E:ad->ah->Prop}{pins:List (Addr×Obj)}{s:ah}{σ:St}{H:Hp}{x:Str}{u:ad}{pos:Pos}{Q:ad->ah->Prop}(I:Inv X pins σ H s)(hg:Gl X x)(hm:X.mg x=some u)(h:Q u s)
  (hd:(x==("__debug__":Str))=false:=by decide):aF (az X.prog X.w) X.A (eval (.Name x pos) X.env) Q E s :=
 gJ I.ok.kind hg (Calls.loadGlobal_global (by rw[I.ok.glob];exact I.mod.glob.keeps I.bk) hm h) hd
theorem ld_blt{E:ad->ah->Prop}{pins:List (Addr×Obj)}{s:ah}{σ:St}{H:Hp}{x:Str}{u:ad}{pos:Pos}{Q:ad->ah->Prop}(I:Inv X pins σ H s)(hg:Gl X x)(hm:X.mg x=none)(hv:bg x=some u)(h:Q u s)
  (hn:x ≠ "__name__":=by decide) (hd:(x==("__debug__":Str))=false:=by decide):aF (az X.prog X.w) X.A (eval (.Name x pos) X.env) Q E s:=by
 obtain⟨j,h1,h2⟩:=I.mod.blt;exact gJ I.ok.kind hg (Calls.loadGlobal_builtin (by rw[I.ok.glob];exact I.mod.glob.keeps I.bk) hm (by rw[I.ok.blt];exact h1.keeps I.bk) ((h2 x hn).trans hv) h) hd
theorem dQz{x:Str}{v:V}{u:ad}{pos:Pos}(hg:Gl X x)(hm:X.mg x=none)(hv:bg x=some u)(r:RelV v u)(hn:x ≠ "__name__":=by decide)(hd:(x==("__debug__":Str))=false:=by decide):PE X (.Name x pos) (tC v) :=
 λ_ _ _ H _ I h=>ld_blt I hg hm hv ⟨v,H,I,r,h⟩ hn hd
variable{a b:Expr}{ta tb:TE}{pos:Pos}
variable{tA tB':TT}{rest:List Expr}
def tAnd(t u:TT):TT:=fun σ H Q=>t σ H λc H1=>if c=true then u σ H1 Q else Q false H1
def tOr(t u:TT):TT:=fun σ H Q=>t σ H λc H1=>if c=true then Q true H1 else u σ H1 Q
def tNot(t:TT):TT:=fun σ H Q=>t σ H λc H1=>Q (!c) H1
theorem dZ0(ha:PT X a tA):PW X (.BoolOp .And [a] pos) tA:=by
 intro j pins s σ H Q I h;refine isTrue_and (thn (ha pins s σ H Q I h) λc s1 e=>?_);cases c with
 |true=>exact isTrue_and_nil e
 |false=>exact e
theorem dJp(ha:PT X a tA):PW X (.BoolOp .Or [a] pos) tA:=by
 intro j pins s σ H Q I h;refine isTrue_or (thn (ha pins s σ H Q I h) λc s1 e=>?_);cases c with
 |false=>exact isTrue_or_nil e
 |true=>exact e
theorem dJq(ha:PT X a tA)(hb:PW X (.BoolOp .And (b::rest) pos) tB'):PW X (.BoolOp .And (a::b::rest) pos) (tAnd tA tB'):=by
 intro B pins s σ H Q I h;refine isTrue_and (thn (ha pins s σ H _ I h) λc s1 ⟨H1,z,j⟩=>?_);cases c with
 |true=>exact hb B pins s1 σ H1 Q z j
 |false=>exact⟨H1,z,j⟩
theorem eJ5(ha:PT X a tA)(hb:PW X (.BoolOp .Or (b::rest) pos) tB'):PW X (.BoolOp .Or (a::b::rest) pos) (tOr tA tB'):=by
 intro B pins s σ H Q I h;refine isTrue_or (thn (ha pins s σ H _ I h) λc s1 ⟨H1,z,j⟩=>?_);cases c with
 |true=>exact⟨H1,z,j⟩
 |false=>exact hb B pins s1 σ H1 Q z j
theorem dJr(ha:PT X a tA):PT X (.UnaryOp .Not a pos) (tNot tA):=by
 intro pins s σ H Q I h;exact isTrue_not (ha pins s σ H (λc H1=>Q (!c) H1) I h)
def eJ6(ta tb:TE):TE:=fun σ H Q=>ta σ H λx H1=>∃c,x=.bl c/\if c=true then tb σ H1 Q else Q (.bl false) H1
theorem dJs{op}{t:TE}(h:PE X a t):PE X (.BoolOp op [a] pos) t:=λpins s σ H Q I hw=>BoolOp_one (h pins s σ H Q I hw)
theorem dJt(ha:PE X a ta)(hb:PE X (.BoolOp .And (b::rest) pos) tb):PE X (.BoolOp .And (a::b::rest) pos) (eJ6 ta tb):=by
 intro pins s σ H Q I h;refine BoolOp_and (thn (ha pins s σ H _ I h) λv s1 ⟨x,H1,z,r1,j⟩=>?_);obtain⟨c,rfl,j⟩:=j;cases r1;refine cW ?_;cases c with
 |true=>exact hb pins s1 σ H1 Q z j
 |false=>exact⟨.bl false,H1,z,rfl,j⟩
end
def SqL(K:ap)(H:Hp)(a:Addr)(xs:List V):Prop :=
 Rd H a (.lst xs) \/
  ∃(o:Obj) (its:Array ad) (n:Nat),K.lookup a=some o/\o.cls=.type "list"/\o.dict=none/\o.data=.seq its n/\its.size<=sizeLine/\Vals xs its.toList
def SqT(K:ap)(H:Hp)(a:Addr)(xs:List V):Prop :=
 Rd H a (.tup xs) \/
  ∃(o:Obj) (its:Array ad) (n:Nat),K.lookup a=some o/\o.cls=.type "tuple"/\o.dict=none/\o.data=.seq its n/\its.size<=sizeLine/\Vals xs its.toList
def absV:ad->Option V
 |.none=>some .non
 |.bool b=>some (.bl b)
 |.int i _=>some (.int i)
 |.str x _=>some (.str x)
 |.bytes b _=>some (.byt b)
 |.float b _=>some (.flt b)
 |.ref a=>some (.ref a)
 |.type n=>some (.ty n)
 |_=>none
theorem RelV.abs{x:V}{u:ad}(r:RelV x u):absV u=some x:=by
 cases x with
 |non=>cases r;rfl
 |bl _=>cases r;rfl
 |int _=>obtain⟨t,rfl⟩:=r;rfl
 |str _=>obtain⟨t,rfl⟩:=r;rfl
 |byt _=>obtain⟨t,rfl⟩:=r;rfl
 |flt _=>obtain⟨t,rfl⟩:=r;rfl
 |ref _=>cases r;rfl
 |ty _=>cases r;rfl
theorem RelV.inj{x y:V}{u:ad}(r:RelV x u)(q:RelV y u):x=y:=aM (r.abs.symm.trans q.abs)
theorem Vals.inj:∀{xs ys:List V}{us:List ad},Vals xs us->Vals ys us->xs=ys
 |_,_,_,.nil,.nil=>rfl
 |_,_,_,.cons r t,.cons z j=>by rw[r.inj z,Vals.inj t j]
section
variable{X:Cx}{pins:List (Addr×Obj)}{σ:St}{H:Hp}{s:ah}{a:Addr}{xs ys:List V}
theorem SqL.of{K:ap}(h:H a=some (.lst xs)):SqL K H a xs:=.inl (.inl h)
theorem Inv.list(I:Inv X pins σ H s)(h:SqL X.K H a xs):∃its:List ad,Vals xs its/\PlainL s.heap a its.toArray/\xs.length<=sizeLine:=by
 rcases h with h|⟨o,its,n,B,D,hd,j,J,r⟩
 ·obtain⟨z,its,n,r,e⟩:=h.ok I.hok;exact⟨its,r,⟨_,n,e,rfl,rfl,rfl⟩,z⟩
 ·refine⟨its.toList,r,⟨o,n,I.kIn a o B,D,hd,by simpa using j⟩,?_⟩
  have e:=r.length;simp only[aJ] at e;omega
theorem Inv.tuple(I:Inv X pins σ H s)(h:SqT X.K H a xs):∃its:List ad,Vals xs its/\gH s.heap a its.toArray/\xs.length<=sizeLine:=by
 rcases h with h|⟨o,its,n,B,D,_,j,J,r⟩
 ·obtain⟨z,its,r,p,_⟩:=h.ok I.hok;exact⟨its,r,p,z⟩
 ·refine⟨its.toList,r,⟨o,I.kIn a o B,D,n,by simpa using j⟩,?_⟩
  have e:=r.length;simp only[aJ] at e;omega
theorem Inv.list_inj(I:Inv X pins σ H s)(h:SqL X.K H a xs)(h':SqL X.K H a ys):xs=ys:=by
 obtain⟨its,r,⟨o,n,e,_,_,d⟩,_⟩:=I.list h;obtain⟨its',z,⟨o',D,e',_,_,j⟩,_⟩:=I.list h';rw[e] at e';cases e';rw[d] at j;injection j with B _
 have:its=its':=by simpa using congrArg Array.toList B
 subst this;exact r.inj z
theorem Inv.tuple_inj(I:Inv X pins σ H s)(h:SqT X.K H a xs)(h':SqT X.K H a ys):xs=ys:=by
 obtain⟨its,r,⟨o,e,_,n,d⟩,_⟩:=I.tuple h;obtain⟨its',z,⟨o',e',_,D,j⟩,_⟩:=I.tuple h';rw[e] at e';cases e';rw[d] at j;injection j with B _
 have:its=its':=by simpa using congrArg Array.toList B
 subst this;exact r.inj z
end
abbrev Cx.wish(X:Cx)(E:ad->ah->Prop):Cx:={X with xe:=E}
abbrev Cx.nox(X:Cx):Cx:=X.wish λ_ _=>False
theorem Cx.Ok.wish{X:Cx}(ok:X.Ok)(E:ad->ah->Prop):(X.wish E).Ok :=
 ⟨ok.mod,ok.kind,ok.glob,ok.blt,ok.above,ok.inj,ok.has,ok.cab,ok.hd,ok.frames,ok.gd,ok.stk,ok.exf,ok.bs,ok.bsz,ok.noex,ok.exfs,ok.funs,ok.frf⟩
theorem Cx.Ok.unwish{X:Cx}{E:ad->ah->Prop}(ok:(X.wish E).Ok):X.Ok :=
 ⟨ok.mod,ok.kind,ok.glob,ok.blt,ok.above,ok.inj,ok.has,ok.cab,ok.hd,ok.frames,ok.gd,ok.stk,ok.exf,ok.bs,ok.bsz,ok.noex,ok.exfs,ok.funs,ok.frf⟩
section
variable{X:Cx}{pins:List (Addr×Obj)}{σ:St}{H:Hp}{s:ah}{E:ad->ah->Prop}
theorem Inv.wish(I:Inv X pins σ H s)(E:ad->ah->Prop):Inv (X.wish E) pins σ H s:=⟨I.ok.wish E,I.os,I.bare,I.base,I.loc,I.cell,I.free,I.freeC,I.pin,I.hok,I.len⟩
theorem Inv.unwish(I:Inv (X.wish E) pins σ H s):Inv X pins σ H s:=⟨I.ok.unwish,I.os,I.bare,I.base,I.loc,I.cell,I.free,I.freeC,I.pin,I.hok,I.len⟩
theorem SP.unwish{D:Ends}{f:Flow}{s':ah}(h:SP (X.wish E) pins D f s'):SP X pins D f s':=by
 cases f with
 |next=>obtain⟨σ',H',I,q⟩:=h;exact⟨σ',H',I.unwish,q⟩
 |brk=>obtain⟨σ',H',I,q⟩:=h;exact⟨σ',H',I.unwish,q⟩
 |cont=>obtain⟨σ',H',I,q⟩:=h;exact⟨σ',H',I.unwish,q⟩
 |ret u=>obtain⟨v,σ',H',I,r,q⟩:=h;exact⟨v,σ',H',I.unwish,r,q⟩
theorem PSs.nox{st:List Stmt}{t:TS}(h:PSs X.nox st t):PSs X st t:=λpins s σ H D I hw =>
 cr (h pins s σ H D (I.wish _) hw) (λ_ _ q=>q.unwish) λ_ _ z=>cX z
end
section
variable{X:Cx}{st:Stmt}{rest:List Stmt}{t u:TS}{e:Expr}{te:TE}{pos:Pos}
def eJ7:TS:=λD σ H=>D.nx σ H
def tSeq(t u:TS):TS:=λD σ H=>t {D with nx:=u D} σ H
theorem dZ1:PSs X [] eJ7:=λ_ _ σ H _ I h=>gi ⟨σ,H,I,h⟩
theorem bXf(h1:PS X st t)(h2:PSs X rest u):PSs X (st::rest) (tSeq t u):=by
 intro pins s σ H D I h;refine wpAny_execs_cons (thn (h1 pins s σ H {D with nx:=u D} I h) λf s1 q=>?_)
 cases f with
 |next =>
  obtain⟨σ',H',j,q⟩:=q;exact h2 pins s1 σ' H' D j q
 |ret v=>exact q
 |brk=>exact q
 |cont=>exact q
theorem dZ2(h1:PS X st t):PSs X [st] t:=by
 intro pins s σ H D I h;refine wpAny_execs_cons (thn (h1 pins s σ H D I h) λf s1 q=>?_);cases f with
 |next=>exact gi q
 |ret v=>exact q
 |brk=>exact q
 |cont=>exact q
def dJu:TS:=λD σ H=>D.bk σ H
theorem cXt:PS X (.Break pos) dJu:=λ_ _ σ H _ I h=>wpAny_Break ⟨σ,H,I,h⟩
theorem Inv.quiet{pins:List (Addr×Obj)}{σ:St}{H:Hp}{s:ah}(I:Inv X pins σ H s):interactive X.env=false:=by simp[interactive,I.ok.kind]
def eJ8(te:TE):TS:=λD σ H=>te σ H λ_ H1=>D.nx σ H1
theorem dZ3(he:PE X e te)(hs:ix e none pos.line X.env=pure false:=by rfl):PS X (.Expr e pos) (eJ8 te):=by
 intro pins s σ H D I h;exact wpAny_Expr_any (thn (he pins s σ H _ I h) λv s1 ⟨x,H1,z,B,j⟩=>⟨σ,H1,z,j⟩) I.quiet hs
def tRet(te:TE):TS:=λD σ H=>te σ H D.rt
theorem dJv(he:PE X e te):PS X (.Return (some e) pos) (tRet te):=by
 intro pins s σ H D I h;exact wpAny_Return_some (thn (he pins s σ H _ I h) λv s1 ⟨x,H1,B,j,z⟩=>⟨x,σ,H1,B,j,z⟩)
def tIfS(c:TT)(t u:TS):TS:=λD σ H=>c σ H λb H1=>if b=true then t D σ H1 else u D σ H1
theorem eJ9{c:Expr}{a b:List Stmt}{tc:TT}(hc:PT X c tc)(ha:PSs X a t)(hb:PSs X b u):PS X (.If c a b pos) (tIfS tc t u):=by
 intro pins s σ H D I h;refine wpAny_If (thn (hc pins s σ H _ I h) λd s1 ⟨H1,z,j⟩=>?_);cases d with
 |true=>exact ha pins s1 σ H1 D z j
 |false=>exact hb pins s1 σ H1 D z j
end
abbrev TG:=V->St->Hp->(St->Hp->Prop)->Prop
def PG(X:Cx)(target:Expr)(t:TG):Prop :=
 ∀(pins:List (Addr×Obj)) (s:ah) (σ:St) (H:Hp) (v:V) (u:ad) (Q:St->Hp->Prop),Inv X pins σ H s->RelV v u->t v σ H Q ->
  aF (az X.prog X.w) X.A (assign target X.env u) (λ_ s'=>∃σ' H',Inv X pins σ' H' s'/\Q σ' H') X.xe s
abbrev TSet:=V->V->V->Hp->(Hp->Prop)->Prop
def PSet(X:Cx)(t:TSet):Prop :=
 ∀(pins:List (Addr×Obj)) (s:ah) (σ:St) (H:Hp) (o i v:V) (ov iv u:ad) (Q:Hp->Prop),Inv X pins σ H s->RelV o ov->RelV i iv->RelV v u->t o i v H Q ->
  aF (az X.prog X.w) X.A (setItem ov iv u) (λ_ s'=>∃H',Inv X pins σ H' s'/\Q H') X.xe s
section
variable{X:Cx}{pos:Pos}
def cXu(i:Nat):TG:=λv σ H Q=>Q (σ.set i (some v)) H
theorem aQe{i:Nat}{x:Str}(hN:X.N.Nodup)(hi:X.N[i]?=some x)(hx:Loc X.env.scope x)(hf:X.fn x=true\/X.env.scope.names.lookup x=some .local:=by first|exact .inl rfl|exact .inr rfl|assumption):PG X (.Name x pos) (cXu i):=by
 intro pins s σ H v u Q I r h;exact wpAny_assign_Name (store_ok I hN hi hx r (λs' j=>⟨_,H,j,h⟩) hf)
def gSub(to ti:TE)(t:TSet):TG:=λv σ H Q=>to σ H λo H1=>ti σ H1 λi H2=>t o i v H2 λH3=>Q σ H3
theorem dJw{o i:Expr}{to ti:TE}{t:TSet}(ho:PE X o to)(hi:PE X i ti)(hs:PSet X t)
  (ha:∀ v,assign (.Subscript o i pos) X.env v=(do
   let ov <- fg [v] (eval o X.env)
   let iv <- fg [v,ov] (eval i X.env)
   fh pos
   fg [v,ov,iv] (setItem ov iv v)
   release [v,ov,iv] []):=by intro _;rfl):PG X (.Subscript o i pos) (gSub to ti t):=by
 intro pins s σ H v u Q I r h;rw[ha];refine aa (bM (thn (ho pins s σ H _ I h) λov s1 ⟨x,H1,O,z,J⟩=>?_));refine aa (bM (thn (hi pins s1 σ H1 _ O J) λiv s2 ⟨y,H2,N,j,D⟩=>?_));refine aa (e8 (aa (bM (thn (hs pins s2 σ H2 x y v ov iv u _ N z j r D) λ_ s3 ⟨U,L,B⟩=>?_))));exact wpAny_release ⟨σ,U,L,B⟩
def tAsg(te:TE)(g:TG):TS:=λD σ H=>te σ H λx H1=>g x σ H1 D.nx
theorem dJx{tg e:Expr}{te:TE}{g:TG}(he:PE X e te)(hg:PG X tg g)(hs:swapsWithSole [tg] e pos.line X.env=pure false:=by rfl)(hw:swappedStores [tg] e X.env=pure none:=by rfl)
  (h1:(assignEach [tg] X.env).map (·.2)=[assign tg X.env]:=by rfl):PS X (.Assign [tg] e pos) (tAsg te g):=by
 intro pins s σ H D I h;refine wpAny_Assign_stores (thn (he pins s σ H _ I h) λv s1 ⟨x,H1,B,j,z⟩=>?_) hs hw;rw[h1];exact thn (hg pins s1 σ H1 x v _ B j z) λ_ s2 q=>q
theorem dJy{i:Nat}{x:Str}{e:Expr}{te:TE}{pos':Pos}(hN:X.N.Nodup)(hi:X.N[i]?=some x)(hx:Loc X.env.scope x)(he:PE X e te)(hs:ix e (some (.Name x pos')) pos.line X.env=pure false:=by rfl)(hf:X.fn x=true\/X.env.scope.names.lookup x=some .local:=by first|exact .inl rfl|exact .inr rfl|assumption) :
  PS X (.Assign [.Name x pos'] e pos) (tAsg te (cXu i)):=by
 intro pins s σ H D I h;refine wpAny_Assign_Name (thn (he pins s σ H _ I h) λv s1 ⟨y,H1,J,j,z⟩=>?_) hs;exact store_ok J hN hi hx j (λs2 B=>⟨_,H1,B,z⟩) hf
end
section
variable{X:Cx}{pos:Pos}
def dJz(c:TT)(tb:TS):TS:=λD σ H=>∃W:Nat->St->Hp->Prop,(∃m,W m σ H)/\∀m σ H,W m σ H ->
 c σ H λb H1=>if b=true then ∃N:St->Hp->Prop,(∀σ' H',N σ' H'->∃m',m'<m/\W m' σ' H')/\tb {D with nx:=N,ct:=N,bk:=D.nx} σ H1 else D.nx σ H1
theorem cXv{c:Expr}{body:List Stmt}{tc:TT}{tb:TS}(hp:PassesOwn (az X.prog X.w) X.A X.env X.xe)(hc:PT X c tc)(hb:PSs X body tb):PS X (.While c body [] pos) (dJz tc tb):=by
 intro pins s σ H D I h;obtain⟨W,⟨m0,w0⟩,turn⟩:=h;refine wpAny_While (codeAny_whileLoop (λn s'=>∃σ' H',Inv X pins σ' H' s'/\W n σ' H') ?_ m0 ⟨σ,H,I,w0⟩);rintro n s1 ⟨σ1,H1,I1,w1⟩;refine dQ hp (thn (hc pins s1 σ1 H1 _ I1 (turn n σ1 H1 w1)) λb s2 ⟨H2,Z,B⟩=>?_);cases b with
 |true =>
  obtain⟨N,Y,B⟩:=B;rw[if_pos rfl];refine dQ hp (thn (hb pins s2 σ1 H2 _ Z B) λf s3 z=>?_);cases f with
  |next =>
   obtain⟨σ3,j,U,L⟩:=z;obtain⟨O,hm,J⟩:=Y σ3 j L;exact⟨O,hm,σ3,j,U,J⟩
  |cont =>
   obtain⟨σ3,j,U,L⟩:=z;obtain⟨O,hm,J⟩:=Y σ3 j L;exact⟨O,hm,σ3,j,U,J⟩
  |brk=>exact z
  |ret v=>exact z
 |false =>
  rw[if_neg dI];exact gi ⟨σ1,H2,Z,B⟩
end
structure It where
 go:Nat->Hp->Prop
 yld:Nat->Hp->V->Hp->Prop
 stop:Nat->Hp->Prop
def FpOk(X:Cx)(pins:List (Addr×Obj))(H:Hp)(b:Addr):Prop :=
 H b=none/\b≠X.env.locals/\b∉X.fs/\(b∈X.ex\/X.s₀.heap.objs.size<=b)/\(∀x c,X.env.cells.lookup x=some c->c≠b)/\∀p∈X.pn++pins,p.1≠b
theorem Inv.fpOk{X:Cx}{pins:List (Addr×Obj)}{σ:St}{H H':Hp}{s:ah}{b:Addr}(I:Inv X pins σ H s)(hb:s.heap.objs.size<=b)(hn:H' b=none):FpOk X pins H' b:=by
 refine⟨hn,Nat.ne_of_gt (Nat.lt_of_lt_of_le I.lt hb),I.nofs hb,.inr (Nat.le_trans I.sz hb),λx c e z=>?_,λp j z=>?_⟩
 ·obtain⟨v,q⟩:=I.cell x c e;exact absurd (Nat.lt_of_lt_of_le q.lt (by rw[z];exact hb)) (Nat.lt_irrefl _)
 ·exact absurd (Nat.lt_of_lt_of_le (aD (I.pin p j).1) (by rw[z];exact hb)) (Nat.lt_irrefl _)
structure Turn(P:aC)(w:aL)(K:ap)(tg:Expr)(J:It)(fp:List Addr)(it:Addr)(tn:Nat->aY->Prop):Prop where
 mem:it∈fp
 obj:∀i h,tn i h->∀b∈fp,∃o,h.get? b=some o/\∀v,o.data≠.cell v
 keep:∀i h h',tn i h->(∀b∈fp,∀o,h.get? b=some o->h'.get? b=some o)->tn i h'
 item:∀(X:Cx),X.prog=P->X.w=w->X.K=K->X.calm=true->∀(i:Nat) (pins:List (Addr×Obj)) (s:ah) (σ:St) (H:Hp) (E:ad->ah->Prop),Inv X pins σ H s->(∀b∈fp,FpOk X pins H b)->tn i s.heap->J.go i H ->
  aF (az P w) X.A (fj (.ref it)) (λr s1=>∃ u,r=some u /\
   aF (az P w) X.A (ej tg (.ref it) u) (λ_ s2=>∃x H',Inv X pins σ H' s2/\RelV x u/\J.yld i H x H'/\tn (i+1) s2.heap/\∀b∈fp,H' b=none) E s1) E s
 done:∀(X:Cx),X.prog=P->X.w=w->X.K=K->X.calm=true->∀(i:Nat) (pins:List (Addr×Obj)) (s:ah) (σ:St) (H:Hp) (E:ad->ah->Prop),Inv X pins σ H s->(∀b∈fp,FpOk X pins H b)->tn i s.heap->J.stop i H ->
  aF (az P w) X.A (fj (.ref it)) (λr s1=>r=none/\Inv X pins σ H s1) E s
 self:∀(A:aO) (i:Nat) (s:ah) (Q:ad->ah->Prop) (E:ad->ah->Prop),tn i s.heap->Q (.ref it) s->aF (az P w) A (pyIter (.ref it)) Q E s
abbrev TI:=St->Hp->(It->Hp->Prop)->Prop
def PIE(X:Cx)(pins:List (Addr×Obj))(σ:St)(tg:Expr)(R:It->Hp->Prop)(itv:ad)(s2:ah):Prop :=
 ∃(it:Addr) (fp:List Addr) (tn:Nat->aY->Prop) (J:It) (H':Hp),itv=.ref it/\Inv X pins σ H' s2/\Turn X.prog X.w X.K tg J fp it tn/\tn 0 s2.heap/\(∀b∈fp,FpOk X pins H' b)/\R J H'
def PI(X:Cx)(tg iter:Expr)(wi:TI):Prop :=
 ∀(pins:List (Addr×Obj)) (s:ah) (σ:St) (H:Hp) (R:It->Hp->Prop),Inv X pins σ H s->wi σ H R ->
  aF (az X.prog X.w) X.A (eval iter X.env) (λv s1=>aF (az X.prog X.w) X.A (pyIter v) (PIE X pins σ tg R) X.xe s1) X.xe s
theorem cXw{M:Model}{A:aO}{E:ad->ah->Prop}{s:ah}{tg:Expr}{it:Addr}{u:ad}{o:Obj}{n:String}{vs:Array ad}{Q:Unit->ah->Prop}(ho:s.heap.get? it=some o)(hc:o.cls=.type n)(hd:o.data=.fields vs)
    (hn:["enumerate", "zip", "dict_itemiterator", "dict_reverseitemiterator", "odict_iterator", "itertools.zip_longest", "itertools.pairwise"].contains n=false) (hQ:Q () s):aF M A (ej tg (.ref it) u) Q E s:=by
  unfold ej;cases tg <;> first
    |exact af hQ
    | (cases u <;> first
        |exact af hQ
        | (refine aa (wpAny_load ho ?_)
           rw [hc,hd];show aF M A (if (["enumerate", "zip", "dict_itemiterator", "dict_reverseitemiterator", "odict_iterator", "itertools.zip_longest", "itertools.pairwise"].contains n&&vs[0]?==some (d4 _))=true then _ else _) Q E s
           rw [if_neg (by intro h; rw [hn,Bool.false_and] at h; cases h)]
           exact af hQ))
def Itl(K:ap)(a:Addr):It :=
 ⟨λi H=>∃xs x,SqL K H a xs/\xs[i]?=some x,λi H x H'=>H'=H/\∀xs,SqL K H a xs->xs[i]?=some x,λi H=>∃xs,SqL K H a xs/\xs.length<=i⟩
def Itt(K:ap)(a:Addr):It :=
 ⟨λi H=>∃xs x,SqT K H a xs/\xs[i]?=some x,λi H x H'=>H'=H/\∀xs,SqT K H a xs->xs[i]?=some x,λi H=>∃xs,SqT K H a xs/\xs.length<=i⟩
def Itr(lo:Int)(n:Nat):It:=⟨λi _=>i<n,λi H x H'=>H'=H/\x=.int (lo+i),λi _=>n<=i⟩
theorem bJz{P:aC}{w:aL}{K:ap}{tg:Expr}(a it:Addr):Turn P w K tg (Itl K a) [it] it (λi h=>h.IsListIter it a i) where
 mem:=by simp
 obj:=λi h st b j=>by
  have e:b=it:=by simpa using j
  subst e;obtain⟨o,e,c,d⟩:=st;exact⟨o,e,λv z=>by rw[d] at z;cases z⟩
 keep:=λi h h' st k=>st.at λo e=>k it (by simp) o e
 item:=by
  intro X O hw U Z i pins s σ H E I hf st N;subst O hw U;obtain⟨xs,x,D,L⟩:=N;obtain⟨its,J,p,hz⟩:=I.list D;obtain⟨u,hu,ru⟩:=J.get L;obtain⟨f0,f1,f2,Y,f4,f5⟩:=hf it (by simp)
  refine wpAny_pyNext_list_item st p.isList (x:=u) (by simpa using hu) λh' B sb=>?_
  have I1:Inv X pins σ H {s with heap:=h'}:=I.turned (t':=s.toks) (λb o j e=>(sb.2 b j).trans e) f0 f1 Y f4 f5
  obtain⟨o,e,c,d⟩:=id B;exact⟨u,rfl,cXw (s:={s with heap:=h'}) e c d (by decide) ⟨x,H,I1,ru,⟨rfl,λys hy=>by rw[I.list_inj hy D];exact L⟩,B,λb j=>(hf b j).1⟩⟩
 done:=by
  intro X O hw U Z i pins s σ H E I hf st N;subst O hw U;obtain⟨xs,D,L⟩:=N;obtain⟨its,J,p,hz⟩:=I.list D;obtain⟨f0,f1,f2,Y,f4,f5⟩:=hf it (by simp)
  have hl:=J.length;exact wpAny_pyNext_list_end (I.ok.hd Z) st p.isList (by simp;omega) λh' eb=>⟨rfl,I.turned (t':=s.toks) (λb o j e=>eb b o j e) f0 f1 Y f4 f5⟩
 self:=λ_ _ _ _ _ st h=>wpAny_pyIter_listiter st h
theorem bJa{P:aC}{w:aL}{K:ap}{tg:Expr}(a it:Addr):Turn P w K tg (Itt K a) [it] it (λi h=>h.IsTupleIter it a i) where
 mem:=by simp
 obj:=λi h st b j=>by
  have e:b=it:=by simpa using j
  subst e;obtain⟨o,e,c,d⟩:=st;exact⟨o,e,λv z=>by rw[d] at z;cases z⟩
 keep:=λi h h' st k=>st.at λo e=>k it (by simp) o e
 item:=by
  intro X O hw U Z i pins s σ H E I hf st N;subst O hw U;obtain⟨xs,x,D,L⟩:=N;obtain⟨its,J,p,hz⟩:=I.tuple D;obtain⟨u,hu,ru⟩:=J.get L;obtain⟨f0,f1,f2,Y,f4,f5⟩:=hf it (by simp)
  refine wpAny_pyNext_tuple_item st (show s.heap.IsTuple a its.toArray from p) (x:=u) (by simpa using hu) λh' B sb=>?_
  have I1:Inv X pins σ H {s with heap:=h'}:=I.turned (t':=s.toks) (λb o j e=>(sb.2 b j).trans e) f0 f1 Y f4 f5
  obtain⟨o,e,c,d⟩:=id B;exact⟨u,rfl,cXw (s:={s with heap:=h'}) e c d (by decide) ⟨x,H,I1,ru,⟨rfl,λys hy=>by rw[I.tuple_inj hy D];exact L⟩,B,λb j=>(hf b j).1⟩⟩
 done:=by
  intro X O hw U Z i pins s σ H E I hf st N;subst O hw U;obtain⟨xs,D,L⟩:=N;obtain⟨its,J,p,hz⟩:=I.tuple D;obtain⟨f0,f1,f2,Y,f4,f5⟩:=hf it (by simp)
  have hl:=J.length;exact wpAny_pyNext_tuple_end (I.ok.hd Z) st (show s.heap.IsTuple a its.toArray from p) (by simp;omega) λh' eb=>⟨rfl,I.turned (t':=s.toks) (λb o j e=>eb b o j e) f0 f1 Y f4 f5⟩
 self:=λ_ _ _ _ _ st h=>wpAny_pyIter_tupleiter st h
theorem bJb{P:aC}{w:aL}{K:ap}{tg:Expr}(it:Addr)(lo:Int)(n:Nat):Turn P w K tg (Itr lo n) [it] it (λi h=>IsRangeIter h it (lo+(i:Nat)*1) ((n:Int)-(i:Nat)) 1) where
 mem:=by simp
 obj:=λi h st b j=>by
  have e:b=it:=by simpa using j
  subst e;exact⟨_,st,λv z=>by
   have z':Data.fields _=Data.cell v:=z;cases z'⟩
 keep:=λi h h' st k=>k it (by simp) _ st
 item:=by
  intro X L hw N J i pins s σ H E I hf st D;subst L hw N;obtain⟨f0,f1,f2,O,f4,f5⟩:=hf it (by simp)
  have W:=Walks.range (prog:=X.prog) (w:=X.w) (I.ok.hd J) it lo 1 n;refine W.item i s _ _ D st λv h' U Z B Y=>?_;obtain⟨t,rfl⟩:=Z;have I1:Inv X pins σ H {s with heap:=h',toks:=U}:=I.turned (λb o j e=>Y b o (by simpa using j) e) f0 f1 O f4 f5
  refine⟨_,rfl,cXw (s:={s with heap:=h',toks:=U}) (n:="range_iterator") B rfl rfl (by decide) ⟨.int (lo+i),H,I1,⟨t,?_⟩,⟨rfl,rfl⟩,B,λb j=>(hf b j).1⟩⟩
  rw[Int.mul_one]
 done:=by
  intro X L hw N J i pins s σ H E I hf st D;subst L hw N;obtain⟨f0,f1,f2,O,f4,f5⟩:=hf it (by simp)
  exact wpAny_pyNext_range_end (I.ok.hd J) st (by have:n<=i:=D;omega) λh' eb=>⟨rfl,I.turned (t':=s.toks) (λb o j e=>eb b o j e) f0 f1 O f4 f5⟩
 self:=λ_ _ _ _ _ st h=>wpAny_pyIter_rangeiter st h
section
variable{X:Cx}{tg:Expr}
theorem bXg{pins:List (Addr×Obj)}{σ:St}{H:Hp}{s:ah}{R:It->Hp->Prop}{E:ad->ah->Prop}{lo hi:Int}{t u v:Tok}{tk:Nat}(I:Inv X pins σ H s)(h1:-(2^62)<=lo)(h2:lo<2^62)(h3:-(2^62)<=hi)(h4:hi<2^62)
  (q:R (Itr lo (hi-lo).toNat) H):aF (az X.prog X.w) X.A (pyIter (.ref s.heap.objs.size)) (PIE X pins σ tg R) E {s with heap:=s.heap.push {cls:=.type "range",data:=.fields #[.int lo t,.int hi u,.int 1 v]},toks:=tk}:=by
 refine wpAny_pyIter_range (IsRange.new ..) (small_one h1 h2 h3 h4) ?_;have j:Inv X pins σ H {s with heap:=s.heap.push {cls:=.type "range",data:=.fields #[.int lo t,.int hi u,.int 1 v]},toks:=tk}:=I.kept λb o e=>ae _ e
 refine⟨(s.heap.push { cls:=.type "range",data:=.fields #[.int lo t,.int hi u,.int 1 v] }).objs.size,[(s.heap.push { cls:=.type "range",data:=.fields #[.int lo t,.int hi u,.int 1 v] }).objs.size],_,_,H,rfl,
  j.kept (t':=tk) λb o e=>ae _ e,bJb _ lo (hi-lo).toNat,?_,λb z=>?_,q⟩
 ·have D:lo+((0:Nat):Int)*1=lo:=by simp
  have B:(((hi-lo).toNat:Nat):Int)-((0:Nat):Int)=cK.Range.rangeSize lo hi 1:=by rw[rangeSize_one];split <;> omega
  show IsRangeIter _ _ (lo+((0:Nat):Int)*1) ((((hi-lo).toNat:Nat):Int)-((0:Nat):Int)) 1;rw[D,B];exact ax _ rfl
 ·have e:b=(s.heap.push {cls:=.type "range",data:=.fields #[.int lo t,.int hi u,.int 1 v]}).objs.size:=by simpa using z
  subst e;exact j.fpOk (Nat.le_refl _) (j.hok.fresh (Nat.le_refl _))
def eJa(ta:TA):TI:=fun σ H R=>ta σ H λvs H1=>∃j:Int,vs=[.int j]/\-(2^62)<=j/\j<2^62/\R (Itr 0 j.toNat) H1
def eJb(ta:TA):TI:=fun σ H R=>ta σ H λvs H1=>∃i j:Int,vs=[.int i,.int j]/\(-(2^62)<=i/\i<2^62/\-(2^62)<=j/\j<2^62)/\R (Itr i (j-i).toNat) H1
theorem cQ0{a:Expr}{ta:TA}{p pos:Pos}(hg:Gl X "range")(hm:X.mg "range"=none)(ha:PA X [a] ta)(hs:av [a] X.env=[(false,eval a X.env)]:=by rfl):PI X tg (.Call (.Name "range" p) [a] [] pos) (eJa ta):=by
 intro pins s σ H R I h;refine Call_ (ld_blt I hg hm boot_range (eE (thn (ha pos pins s σ H _ I h) λus s1 ⟨J,H1,D,r1,z⟩=>?_) hs rfl));obtain⟨j,e,z,B,q⟩:=z;subst e;cases r1 with
 |cons r rr =>
  cases rr;obtain⟨t,rfl⟩:=r;exact call_range_1 (bXg D (by omega) (by omega) z B (by simpa using q))
theorem cQ1{a b:Expr}{ta:TA}{p pos:Pos}(hg:Gl X "range")(hm:X.mg "range"=none)(ha:PA X [a,b] ta)(hs:av [a,b] X.env=[(false,eval a X.env),(false,eval b X.env)]:=by rfl)(hs2:av [b] X.env=[(false,eval b X.env)]:=by rfl) :
  PI X tg (.Call (.Name "range" p) [a,b] [] pos) (eJb ta):=by
 intro pins s σ H R I h;refine Call_ (ld_blt I hg hm boot_range (eE (thn (ha pos pins s σ H _ I h) λus s1 ⟨O,H1,N,r1,z⟩=>?_) (by rw[hs,hs2]) (by rw[hs2];rfl)))
 obtain⟨i,j,e,⟨z,L,J,D⟩,q⟩:=z;subst e;cases r1 with
 |cons r rr =>
  cases rr with
  |cons B rr =>
   cases rr;obtain⟨t,rfl⟩:=r;obtain⟨U,rfl⟩:=B;exact call_range_2 (bXg N z L J D q)
def tFor(wi:TI)(g:TG)(tb:TS):TS:=λD σ H=>wi σ H λJ H1=>∃W:Nat->Nat->St->Hp->Prop,(∃m,W 0 m σ H1)/\∀i m σ H,W i m σ H ->
 (J.stop i H/\D.nx σ H)\/(J.go i H/\∃N:St->Hp->Prop,(∀σ' H',N σ' H'->∃m',m'<m/\W (i+1) m' σ' H')/\∀x H',J.yld i H x H'->g x σ H' fun σ2 H2=>tb {D with nx:=N,ct:=N,bk:=D.nx} σ2 H2)
def bQu(fp:List Addr)(h:aY):List (Addr×Obj):=fp.filterMap λb=>(h.get? b).map λo=>(b,o)
theorem aZr{fp:List Addr}{h:aY}{b:Addr}{o:Obj}(hb:b∈fp)(e:h.get? b=some o):(b,o)∈bQu fp h:=fk.mpr ⟨b,hb,by rw[e];rfl⟩
theorem cQ2{fp:List Addr}{h:aY}{p:Addr×Obj}(hp:p∈bQu fp h):p.1∈fp/\h.get? p.1=some p.2:=by
 obtain⟨b,j,e⟩:=fk.mp hp;cases q:h.get? b with
 |none=>rw[q] at e;cases e
 |some o =>
  rw[q] at e;have z:(b,o)=p:=aM e;subst z;exact⟨j,q⟩
theorem Inv.pinned{pins:List (Addr×Obj)}{σ:St}{H:Hp}{s:ah}{fp:List Addr}(I:Inv X pins σ H s)(hf:∀b∈fp,FpOk X pins H b)(ho:∀b∈fp,∃o,s.heap.get? b=some o/\∀v,o.data≠.cell v):Inv X (pins++bQu fp s.heap) σ H s :=
 I.pins_of λp B=>(aN.mp B).elim (λz=>I.pin p (bb _ z)) λz=>by
  obtain⟨j,e⟩:=cQ2 z;obtain⟨f0,f1,f2,_⟩:=hf p.1 j;obtain⟨o,e',d⟩:=ho p.1 j;rw[e] at e';cases e';exact⟨e,f0,f1,f2,d⟩
theorem Inv.unpinned{pins pl:List (Addr×Obj)}{σ:St}{H:Hp}{s:ah}(I:Inv X (pins++pl) σ H s):Inv X pins σ H s:=I.pins_of λp j=>I.pin p (bb _ (dg _ j))
theorem eQ0{iter:Expr}{body:List Stmt}{wi:TI}{g:TG}{tb:TS}{pos:Pos}(hp:PassesOwn (az X.prog X.w) X.A X.env X.xe)(hc:X.calm=true)(hi:PI X tg iter wi)(hg:PG X tg g)(hb:PSs X body tb)
  (hs:∀x,cu iter X.env x=pure x:=by intro _;rfl):PS X (.For tg iter body [] pos) (tFor wi g tb):=by
 intro pins s σ H D I h;refine wpAny_For (thn (hi pins s σ H _ I h) λv s1 h1=>thn h1 λitv s2 h2=>?_) hs;obtain⟨it,fp,tn,J,H2,e,I2,T,st2,f2,W,⟨m0,w0⟩,turn⟩:=h2;subst e;have j:∀{H':Hp},(∀b∈fp,H' b=none)->∀b∈fp,FpOk X pins H' b:=λhn b hb=>⟨hn b hb,(f2 b hb).2⟩;refine codeAny_forLoop_any (λn s'=>∃i σ' H',Inv X pins σ' H' s'/\tn i s'.heap/\(∀b∈fp,H' b=none)/\W i n σ' H') ?_ m0 ⟨0,σ,H2,I2,st2,λb hb=>(f2 b hb).1,w0⟩;rintro n s3 ⟨i,σ3,H3,I3,U,Z,w3⟩;rcases turn i n σ3 H3 w3 with⟨stop,qn⟩|⟨go,N,hN,step⟩
 ·refine dQ hp (thn (T.done X rfl rfl rfl hc i pins s3 σ3 H3 X.xe I3 (j Z) U stop) λr s4 ⟨hr,I4⟩=>?_);subst hr;exact gi ⟨σ3,H3,I4,qn⟩
 ·refine dQ hp (thn (T.item X rfl rfl rfl hc i pins s3 σ3 H3 X.xe I3 (j Z) U go) λr s4 ⟨u,hr,h4⟩=>?_);subst hr;refine dQ hp (thn h4 λ_ s5 ⟨x,H5,I5,r5,y5,O,fr5⟩=>?_);have I5':=I5.pinned (j fr5) (T.obj _ _ O);refine dQ hp (thn (hg _ s5 σ3 H5 x u _ I5' r5 (step x H5 y5)) λ_ s6 ⟨σ6,H6,I6,q6⟩=>?_);refine dQ hp (thn (hb _ s6 σ6 H6 _ I6 q6) λf s7 L=>?_);have again:∀{σ7:St}{B:Hp},Inv X (pins++bQu fp s5.heap) σ7 B s7->N σ7 B->∃m,m<n/\∃i σ' H',Inv X pins σ' H' s7/\tn i s7.heap/\(∀b∈fp,H' b=none)/\W i m σ' H':=λ{σ7 B} z Y=>by
   obtain⟨m',hm,w7⟩:=hN σ7 B Y;refine⟨m',hm,i+1,σ7,B,z.unpinned,T.keep _ _ _ O λb hb o e=>(z.pin (b,o) (bb _ (bb _ (aZr hb e)))).1,λb hb=>?_,w7⟩;obtain⟨o,e,d⟩:=T.obj _ _ O b hb;exact(z.pin (b,o) (bb _ (bb _ (aZr hb e)))).2.1
  cases f with
  |next=>obtain⟨σ7,B,z,Y⟩:=L;exact again z Y
  |cont=>obtain⟨σ7,B,z,Y⟩:=L;exact again z Y
  |brk=>obtain⟨σ7,B,z,L⟩:=L;exact⟨σ7,B,z.unpinned,L⟩
  |ret v=>obtain⟨x7,σ7,B,z,r7,L⟩:=L;exact⟨x7,σ7,B,z.unpinned,r7,L⟩
end
abbrev R2:=V->V->Hp->VK->Prop
def OpR(X:Cx)(f:ad->ad->Sem ad)(r:R2):Prop :=
 ∀(pins:List (Addr×Obj)) (s:ah) (σ:St) (H:Hp) (x y:V) (v u:ad) (Q:VK),Inv X pins σ H s->RelV x v->RelV y u->r x y H Q ->
  aF (az X.prog X.w) X.A (f v u) (EP X pins σ Q) X.xe s
def CallR(X:Cx)(f:ad)(r:List V->Hp->VK->Prop):Prop :=
 ∀(pins:List (Addr×Obj)) (s:ah) (σ:St) (H:Hp) (xs:List V) (us:List ad) (Q:VK),Inv X pins σ H s->Vals xs us->r xs H Q ->
  aF (az X.prog X.w) X.A (call f us) (EP X pins σ Q) X.xe s
def TruR(X:Cx)(r:V->Hp->(Bool->Hp->Prop)->Prop):Prop :=
 ∀(pins:List (Addr×Obj)) (s:ah) (σ:St) (H:Hp) (x:V) (v:ad) (Q:Bool->Hp->Prop),Inv X pins σ H s->RelV x v->r x H Q ->
  aF (az X.prog X.w) X.A (truthy v) (TP X pins σ Q) X.xe s
def tOp(r:R2)(ta tb:TE):TE:=fun σ H Q=>ta σ H λx H1=>tb σ H1 λy H2=>r x y H2 Q
def rI(C:Int->Int->Prop)(g:Int->Int->V):R2:=λx y H Q=>∃i j,x=.int i/\y=.int j/\C i j/\Q (g i j) H
def rI0(g:Int->Int->V):R2:=λx y H Q=>∃i j,x=.int i/\y=.int j/\Q (g i j) H
section
variable{X:Cx}{a b c:Expr}{ta tb tc:TE}{pos:Pos}
theorem binT(ha:PE X a ta)(hb:PE X b tb){pins:List (Addr×Obj)}{s:ah}{σ:St}{H:Hp}{R:V->V->Hp->Prop}(I:Inv X pins σ H s)
  (h:ta σ H λx H1=>tb σ H1 λy H2=>R x y H2) {Q:ad->ah->Prop}{f:ad->ad->Sem ad}
  (hf:∀v u s2 x y H2,Inv X pins σ H2 s2->RelV x v->RelV y u->R x y H2->aF (az X.prog X.w) X.A (f v u) Q X.xe s2) :
  aF (az X.prog X.w) X.A (eval a X.env) (λv s₁=>aF (az X.prog X.w) X.A (eval b X.env) (λu s₂=>aF (az X.prog X.w) X.A (f v u) Q X.xe s₂) X.xe s₁) X.xe s:=by
 refine thn (ha pins s σ H _ I h) λv s1 ⟨x,H1,L,z,D⟩=>?_;refine thn (hb pins s1 σ H1 _ L D) λu s2 ⟨y,H2,J,j,B⟩=>?_;exact hf v u s2 x y H2 J z j B
theorem eJc{op:Operator}{r:R2}(ho:OpR X (dU op) r)(ha:PE X a ta)(hb:PE X b tb):PE X (.BinOp a op b pos) (tOp r ta tb):=by
 intro pins s σ H Q I h;exact wpAny_BinOp (binT ha hb I h λv u s2 x y H2 B z j q=>ho pins s2 σ H2 x y v u Q B z j q)
theorem opI{f:ad->ad->Sem ad}{C:Int->Int->Prop}{g:Int->Int->Int}
  (rule:∀(i j:Int) (t u:Tok) (s:ah) (Q:ad->ah->Prop) (E:ad->ah->Prop),C i j->Q (.int (g i j) s.toks) {s with toks:=s.toks+1}->aF (az X.prog X.w) X.A (f (.int i t) (.int j u)) Q E s) :
  OpR X f (rI C λi j=>.int (g i j)):=by
 intro pins s σ H x y v u Q I D B h;obtain⟨i,j,rfl,rfl,J,q⟩:=h;obtain⟨t,rfl⟩:=D;obtain⟨z,rfl⟩:=B;exact rule i j t z s _ _ J ⟨.int (g i j),H,I.tok _,⟨_,rfl⟩,q⟩
theorem opI0{f:ad->ad->Sem ad}{g:Int->Int->Int}
  (rule:∀(i j:Int) (t u:Tok) (s:ah) (Q:ad->ah->Prop) (E:ad->ah->Prop),Q (.int (g i j) s.toks) {s with toks:=s.toks+1}->aF (az X.prog X.w) X.A (f (.int i t) (.int j u)) Q E s) :
  OpR X f (rI0 λi j=>.int (g i j)):=by
 intro pins s σ H x y v u Q I D B h;obtain⟨i,j,rfl,rfl,q⟩:=h;obtain⟨t,rfl⟩:=D;obtain⟨z,rfl⟩:=B;exact rule i j t z s _ _ ⟨.int (g i j),H,I.tok _,⟨_,rfl⟩,q⟩
theorem opB0{f:ad->ad->Sem ad}{g:Int->Int->Bool}
  (rule:∀(i j:Int) (t u:Tok) (s:ah) (Q:ad->ah->Prop) (E:ad->ah->Prop),Q (.bool (g i j)) s->aF (az X.prog X.w) X.A (f (.int i t) (.int j u)) Q E s) :
  OpR X f (rI0 λi j=>.bl (g i j)):=by
 intro pins s σ H x y v u Q I D B h;obtain⟨i,j,rfl,rfl,q⟩:=h;obtain⟨t,rfl⟩:=D;obtain⟨z,rfl⟩:=B;exact rule i j t z s _ _ ⟨.bl (g i j),H,I,rfl,q⟩
def CDiv(i j:Int):Prop:=0<j/\j<1073741824
def CPow(i j:Int):Prop:=0<=j/\j<=1000000/\i.natAbs<2^64
def CMul(i j:Int):Prop:=(-(2^64)<i/\i<2^64)\/(-(2^64)<j/\j<2^64)
theorem CMul.ok{i j:Int}(h:CMul i j):IntMulOk i j:=by
 rcases h with⟨h1,h2⟩|⟨h1,h2⟩
 ·exact .of_left (intBits_le_64 h1 h2)
 ·exact .of_right (intBits_le_64 h1 h2)
theorem op_add:OpR X (dU .Add) (rI0 λi j=>.int (i+j)):=opI0 λ_ _ _ _ _ _ _ q=>add_int q
theorem eQ1:OpR X (dU .Sub) (rI0 λi j=>.int (i-j)):=opI0 λ_ _ _ _ _ _ _ q=>sub_int q
theorem eQ2:OpR X (dU .Mult) (rI CMul λi j=>.int (i*j)):=opI λ_ _ _ _ _ _ _ z q=>mul_int q z.ok
theorem dZ4:OpR X (dU .FloorDiv) (rI CDiv λi j=>.int (i/j)):=opI λi j _ _ _ _ _ z q=>by
 have h1:(0:Int)<j:=z.1;have h2:j<1073741824:=z.2;exact floordiv_int (by omega) (by rw[Int.fdiv_eq_ediv_of_nonneg i (by omega)];exact q) (.inl (PyProof.noPylong_small (by omega)))
theorem eQ3:OpR X (dU .Mod) (rI (λ_ j=>0<j) λi j=>.int (i%j)):=opI λi j _ _ _ _ _ z q=>by
 have h1:(0:Int)<j:=z;exact mod_int' (by omega) (by rw[Int.fmod_eq_emod_of_nonneg i (by omega)];exact q)
theorem eQ4:OpR X (dU .Pow) (rI CPow λi j=>.int (i^j.toNat)):=opI λ_ _ _ _ _ _ _ z q=>pow_int_small z.1 z.2.1 z.2.2 q
end
section
variable{X:Cx}{a b c:Expr}{ta tb tc:TE}{pos:Pos}
theorem eQ5{pins:List (Addr×Obj)}{σ:St}{H:Hp}{s:ah}{Q:VK}{k k':Bool}(I:Inv X pins σ H s)(q:Q (.bl k) H)(e:k=k'):EP X pins σ Q (.bool k') s:=by
 subst e;exact⟨.bl k,H,I,rfl,q⟩
theorem op_lt:OpR X (cN .Lt) (rI0 λi j=>.bl (decide (i<j))):=opB0 λ_ _ _ _ _ _ _ q=>lt_int q
theorem eJd:OpR X (cN .Gt) (rI0 λi j=>.bl (decide (j<i))):=opB0 λ_ _ _ _ _ _ _ q=>gt_int q
theorem eJe:OpR X (cN .GtE) (rI0 λi j=>.bl (decide (j<=i))):=opB0 λ_ _ _ _ _ _ _ q=>ge_int q
theorem op_lt_str:OpR X (cN .Lt) (λx y H Q=>∃i j,x=.str i/\y=.str j/\Q (.bl (decide (i.cps.toList<j.cps.toList))) H):=by
 intro pins s σ H x y v u Q I B z h;obtain⟨i,j,rfl,rfl,q⟩:=h;obtain⟨t,rfl⟩:=B;obtain⟨D,rfl⟩:=z;exact lt_str (eQ5 I q rfl)
theorem OpR.or{f:ad->ad->Sem ad}{r r':R2}(h:OpR X f r)(h':OpR X f r'):OpR X f (λx y H Q=>r x y H Q\/r' x y H Q):=by
 intro pins s σ H x y v u Q I z j q;rcases q with q|q
 ·exact h pins s σ H x y v u Q I z j q
 ·exact h' pins s σ H x y v u Q I z j q
theorem nomark(b:Expr){op:CmpOp}(h:op≠.In:=by decide)(h2:op≠.NotIn:=by decide):dA op b=false:=by
 have z:(op==CmpOp.In)=false:=by cases op <;> first|rfl|exact absurd rfl h
 have j:(op==CmpOp.NotIn)=false:=by cases op <;> first|rfl|exact absurd rfl h2
 cases b <;> simp[dA,z,j]
theorem dZ5{op:CmpOp}{r:R2}(ho:OpR X (cN op) r)(ha:PE X a ta)(hb:PE X b tb)(hm:dA op b=false):PE X (.Compare a [op] [b] pos) (tOp r ta tb):=by
 intro pins s σ H Q I h;exact wpAny_Compare1 (binT ha hb I h λv u s2 x y H2 B z j q=>ho pins s2 σ H2 x y v u Q B z j q) hm
def eQ6(t:TE):TT:=fun σ H Q=>t σ H λx H'=>∃k,x=.bl k/\Q k H'
theorem dZ6{op:CmpOp}{r:R2}(ho:OpR X (cN op) r)(ha:PE X a ta)(hb:PE X b tb)(hm:dA op b=false):PT X (.Compare a [op] [b] pos) (eQ6 (tOp r ta tb)):=by
 intro pins s σ H Q I h;refine wpAny_isTrue_Compare1 (thn (ha pins s σ H _ I h) λv s1 ⟨x,H1,U,B,L⟩=>thn (hb pins s1 σ H1 _ U L) λu s2 ⟨y,H2,O,j,J⟩ =>
  thn (ho pins s2 σ H2 x y v u _ O B j J) λc s3 ⟨z,Y,N,r3,k,e,D⟩=>?_) hm
 subst e;cases r3;exact cW ⟨Y,N,D⟩
def TruV(K:ap)(x:V)(H:Hp)(k:Bool):Prop :=
 match x with
 |.non=>k=false
 |.bl b=>k=b
 |.int i=>k=(i !=0)
 |.str y=>y.length<=sizeLine/\k=((y.length:Int) !=0)
 |.byt y=>y.size<=sizeLine/\k=((y.size:Int) !=0)
 |.ref p=>(∃xs,SqL K H p xs/\k=!xs.isEmpty)\/(∃xs,SqT K H p xs/\k=!xs.isEmpty)\/∃kvs,H p=some (.dK kvs)/\k=!kvs.isEmpty
 |_=>False
theorem bJc{κ:Type}{kvs:List (κ×V)}{vs:List (κ×ad)}(r:KV kvs vs):(!vs.isEmpty)=!kvs.isEmpty:=by
 cases r <;> rfl
theorem aX9{xs:List V}{its:List ad}(r:Vals xs its):(!its.toArray.isEmpty)=!xs.isEmpty:=by
 cases r <;> simp
theorem aJ5:(sizeLine:Nat)<2^63:=by rw[aW];decide
theorem eQ7:TruR X (λx H Q=>∃k,TruV X.K x H k/\Q k H):=by
 intro pins s σ H x v Q I rx h;obtain⟨k,e,q⟩:=h;have N:=aJ5;have L:sizeLine=16777216:=aW;cases x with
 |non =>
  cases rx;have j:k=false:=e;subst j;exact truthy_none ⟨H,I,q⟩
 |bl b =>
  cases rx;have j:k=b:=e;subst j;exact cW ⟨H,I,q⟩
 |int i =>
  obtain⟨t,rfl⟩:=rx;have j:k=(i !=0):=e;subst j;exact PySem.P.truthy_int ⟨H,I,q⟩
 |str y =>
  obtain⟨t,rfl⟩:=rx;obtain⟨D,j⟩:y.length<=sizeLine/\k=((y.length:Int) !=0):=e;subst j;exact PySem.P.truthy_str (by omega) ⟨H,I.tok _,q⟩
 |byt y =>
  obtain⟨t,rfl⟩:=rx;obtain⟨D,j⟩:y.size<=sizeLine/\k=((y.size:Int) !=0):=e;subst j;exact PySem.W.truthy_bytes (by omega) ⟨H,I.tok _,q⟩
 |ref p =>
  cases rx;have j:(∃xs,SqL X.K H p xs/\k=!xs.isEmpty)\/(∃xs,SqT X.K H p xs/\k=!xs.isEmpty)\/∃kvs,H p=some (.dK kvs)/\k=!kvs.isEmpty:=e;rcases j with⟨xs,z,j⟩|⟨xs,z,j⟩|⟨kvs,z,j⟩
  ·subst j;obtain⟨its,r,pl,B⟩:=I.list z;have hlen:=r.length;exact wpAny_truthy_list pl.isList (by simp only[aq];omega) ⟨H,I.tok _,by rw[aX9 r];exact q⟩
  ·subst j;obtain⟨its,r,pl,B⟩:=I.tuple z;have hlen:=r.length;exact truthy_tuple pl (by simp only[aq];omega) ⟨H,I.tok _,by rw[aX9 r];exact q⟩
  ·subst j;obtain⟨B,J,vs,r,m⟩:kvs.length<=sizeLine/\(p==dH)=false/\∃vs,KV kvs vs/\s.heap.DictOf (aQm X.prog X.w) p vs:=I.hok p _ z;have hlen:kvs.length=vs.length:=cQ r;exact wpAny_truthy_dict J m (by omega) ⟨H,I.tok _,by rw[bJc r];exact q⟩
 |_=>exact(show False from e).elim
theorem cXx(ha:PE X a ta)(he:∀whole,isTrue a X.env whole=(do let v <- whole;fh a.pos;fg [v] (truthy v))) :
  PT X a (fun σ H Q=>ta σ H λx H'=>∃k,TruV X.K x H' k/\Q k H'):=by
 intro pins s σ H Q I h;exact isTrue_plain (thn (ha pins s σ H _ I h) λv s1 ⟨x,H1,B,j,z⟩=>eQ7 pins s1 σ H1 x v Q B j z) (he _)
theorem op_add_str:OpR X (dU .Add) (λx y H Q=>∃i j,x=.str i/\y=.str j/\i.length+j.length<=sizeLine/\Q (.str (i++j)) H):=by
 intro pins s σ H x y v u Q I D B h;obtain⟨i,j,rfl,rfl,J,q⟩:=h;obtain⟨t,rfl⟩:=D;obtain⟨z,rfl⟩:=B;exact add_str (λz L=>⟨.str (i++j),H,I.tok _,⟨_,rfl⟩,q⟩) J
theorem aX0{x:V}{us:List ad}(r:Vals [x] us):∃u,us=[u]/\RelV x u:=by
 cases r with
 |cons j r2=>cases r2;exact⟨_,rfl,j⟩
theorem eQ8{x y:V}{us:List ad}(r:Vals [x,y] us):∃u w',us=[u,w']/\RelV x u/\RelV y w':=by
 cases r with
 |cons z r2 =>
  cases r2 with
  |cons j r4=>cases r4;exact⟨_,_,rfl,z,j⟩
theorem cXy:CallR X (.builtin "abs") (λxs H Q=>∃i,xs=[.int i]/\Q (.int (if i<0 then -i else i)) H):=by
 intro pins s σ H xs us Q I r h;obtain⟨i,rfl,q⟩:=h;obtain⟨u,rfl,t,rfl⟩:=aX0 r;exact call_abs_int λu j=>⟨.int (if i<0 then -i else i),H,I.tok _,⟨_,rfl⟩,q⟩
theorem cQ3(hc:X.calm=true):CallR X (.builtin "max") (λxs H Q=>∃i j,xs=[.int i,.int j]/\Q (.int (if j>i then j else i)) H):=by
 intro pins s σ H xs us Q I r h;obtain⟨i,j,rfl,q⟩:=h;obtain⟨u,B,rfl,⟨t,rfl⟩,⟨J,rfl⟩⟩:=eQ8 r;refine max_two_ints (I.ok.hd hc) λh' D k=>⟨_,H,I.kept k,?_,q⟩
 by_cases z:j>i
 ·rw[if_pos z,if_pos z];exact⟨_,rfl⟩
 ·rw[if_neg z,if_neg z];exact⟨_,rfl⟩
theorem cQ4(hc:X.calm=true):CallR X (.builtin "min") (λxs H Q=>∃i j,xs=[.int i,.int j]/\Q (.int (if j<i then j else i)) H):=by
 intro pins s σ H xs us Q I r h;obtain⟨i,j,rfl,q⟩:=h;obtain⟨u,B,rfl,⟨t,rfl⟩,⟨J,rfl⟩⟩:=eQ8 r;refine min_two_ints (I.ok.hd hc) λh' D k=>⟨_,H,I.kept k,?_,q⟩
 by_cases z:j<i
 ·rw[if_pos z,if_pos z];exact⟨_,rfl⟩
 ·rw[if_neg z,if_neg z];exact⟨_,rfl⟩
theorem cQ5:CallR X (.type "int") (λxs H Q=>(∃i,xs=[.int i]/\Q (.int i) H)\/∃k,xs=[.bl k]/\Q (.int (if k then 1 else 0)) H):=by
 intro pins s σ H xs us Q I r h;rcases h with⟨i,rfl,q⟩|⟨k,rfl,q⟩
 ·obtain⟨u,rfl,t,rfl⟩:=aX0 r;exact call_int_int ⟨.int i,H,I,⟨_,rfl⟩,q⟩
 ·obtain⟨u,rfl,r1⟩:=aX0 r;cases r1;exact call_int_bool ⟨.int (if k then 1 else 0),H,I.tok _,⟨_,rfl⟩,q⟩
def LenV(K:ap)(x:V)(H:Hp)(n:Nat):Prop :=
 match x with
 |.str y=>y.length<=sizeLine/\n=y.length
 |.byt y=>y.size<=sizeLine/\n=y.size
 |.ref p=>(∃xs,SqL K H p xs/\n=xs.length)\/∃xs,SqT K H p xs/\n=xs.length
 |_=>False
theorem cXz:CallR X (.builtin "len") (λxs H Q=>∃x n,xs=[x]/\LenV X.K x H n/\Q (.int n) H):=by
 intro pins s σ H xs us Q I r h;obtain⟨x,n,rfl,e,q⟩:=h;obtain⟨u,rfl,rx⟩:=aX0 r;have N:=aJ5;have L:sizeLine=16777216:=aW;cases x with
 |str y =>
  obtain⟨t,rfl⟩:=rx;obtain⟨J,j⟩:y.length<=sizeLine/\n=y.length:=e;subst j;exact len_str (by omega) ⟨.int _,H,I.tok _,⟨_,rfl⟩,q⟩
 |byt y =>
  obtain⟨t,rfl⟩:=rx;obtain⟨J,j⟩:y.size<=sizeLine/\n=y.size:=e;subst j;exact PySem.W.len_bytes (by omega) ⟨.int _,H,I.tok _,⟨_,rfl⟩,q⟩
 |ref p =>
  cases rx;have j:(∃xs,SqL X.K H p xs/\n=xs.length)\/∃xs,SqT X.K H p xs/\n=xs.length:=e;rcases j with⟨xs,B,j⟩|⟨xs,B,j⟩
  ·subst j;obtain⟨its,z,pl,D⟩:=I.list B;have hlen:=z.length;exact Calls.call_len_list pl.isList (by simp only[aq];omega) ⟨.int xs.length,H,I.tok _,⟨_,by simp only[aq];rw[hlen]⟩,q⟩
  ·subst j;obtain⟨its,z,pl,D⟩:=I.tuple B;have hlen:=z.length;exact len_tuple pl (by simp only[aq];omega) ⟨.int xs.length,H,I.tok _,⟨_,by simp only[aq];rw[hlen]⟩,q⟩
 |_=>exact(show False from e).elim
end
structure ObjM(h:aY)(x dx C:Addr)(mA:Str->Option ad):Prop where
 obj:h.get? x=some (iZ C dx)
 ns:h.Ns1 dx mA
 ne:dx≠x
theorem cQ6{h:aY}{dx:Addr}{mA:Str->Option ad}(n:h.Ns1 dx mA):∃od,h.get? dx=some od/\∀name,ja name od=some (mA name):=by
 obtain⟨o,es,N,D,hd,J,_,hm⟩:=n;refine⟨o,D,λname=>?_⟩;have e:=hm name;unfold nsFind findBy at e;rw[<- Array.find?_toList] at e;unfold ja;rw[hd];dsimp only
 split
 ·rename_i y q;rw[q] at e;exact congrArg some e
 ·rename_i q;rw[q] at e;have a:es.toList.any (·.refKey)=false:=by
   rw[fD];intro y B;obtain⟨z,t,j⟩:=J y (Array.mem_toList_iff.mp B);simp[DictEntry.refKey,j]
  have L:¬ es.toList.any (·.refKey)=true:=by rw[a];exact dI
  rw[if_neg L];exact congrArg some e
theorem ObjM.look{h:aY}{x dx C:Addr}{mA:Str->Option ad}(I:ObjM h x dx C mA):∃od,PySem.W.InstAt h x (iZ C dx) C (some od)/\∀name,ja name od=some (mA name) :=
 let ⟨od,j,z⟩:=cQ6 I.ns
 ⟨od,⟨I.obj,rfl,rfl,j⟩,z⟩
theorem RelO.some_of{v:V}{o:Option ad}(r:RelO (some v) o):∃u,o=some u/\RelV v u:=by
 cases o with
 |none=>exact(show False from r).elim
 |some u=>exact⟨u,rfl,r⟩
section
variable{P:aC}{w:aL}{H H':Hp}{h h':aY}{a C dx:Addr}{fs fs':List (Str×V)}
theorem dZ7(hok:HOk P w H h)(e:H a=some (.ins C dx fs)):∃mA,ObjM h a dx C mA/\(∀f,RelO (fs.lookup f) (mA f))/\PySem.Within mA (fs.map (·.1))/\fs.length<=1000/\H dx=some (.own a):=by
 obtain⟨d,z,ne,j,mA,n,r,q⟩:=(show ObjOk P w H h a (.ins C dx fs) from hok a _ e)
 exact⟨mA,⟨j,n,ne⟩,r,q,z,d⟩
end
structure Cls(K:ap)(C:Addr):Prop where
 pg:PySem.W.plainGet K C Str.empty=true
 hd:PySem.W.hasDictIn K C=true
 po:PySem.W.plainOver K C=true
 sa:PySem.W.findIn K (.ref C) "__setattr__"=some (some (.builtin "object.__setattr__"))
theorem Cls.get{K:ap}{C:Addr}(c:Cls K C)(f:Str):PySem.W.plainGet K C f=true:=c.pg
section
variable{X:Cx}{pins:List (Addr×Obj)}{σ:St}{H:Hp}{s:ah}{A:aO}{E:ad->ah->Prop}{Q:ad->ah->Prop}{c:ad}{b:Bool}
inductive TyOf(K:ap)(H:Hp):V->ad->Prop where
 |non:TyOf K H .non (.type "NoneType")
 |bl (x:Bool):TyOf K H (.bl x) (.type "bool")
 |int (i:Int):TyOf K H (.int i) (.type "int")
 |str (x:Str):TyOf K H (.str x) (.type "str")
 |flt (x:UInt64):TyOf K H (.flt x) (.type "float")
 |lst {a:Addr}{xs:List V}(e:H a=some (.lst xs)):TyOf K H (.ref a) (.type "list")
 |frz {a:Addr}{o:Obj}{xs:List V}(e:H a=some (.frz o (.lst xs))):TyOf K H (.ref a) (.type "list")
 |tup {a:Addr}{xs:List V}(e:H a=some (.tup xs)):TyOf K H (.ref a) (.type "tuple")
 |dK {a:Addr}{kvs:List (Key×V)}(e:H a=some (.dK kvs)):TyOf K H (.ref a) (.type "dict")
 |dT {a:Addr}{kvs:List (List Key×V)}(e:H a=some (.dT kvs)):TyOf K H (.ref a) (.type "dict")
 |ins {a C dx:Addr}{fs:List (Str×V)}(e:H a=some (.ins C dx fs)) (cl:Cls K C) (ha:PySem.W.findIn K (.ref C) "__class__"=some (some (.builtin "object.__class__")))
   (hn:PySem.W.specialIn K (.builtin "object.__class__") "__get__"=some (some (.builtin "getset_descriptor.__get__"))) (htk:PySem.W.takesIn K (.builtin "object.__class__")=some true)
   (hm:PySem.W.mroIn K C (.type "object")=some true):TyOf K H (.ref a) (.ref C)
theorem cQ7{x:V}{u t:ad}(I:Inv X pins σ H s)(rx:RelV x u)(ty:TyOf X.K H x t)(e:gK X.K t c=some b)(h:∀tk,Q (.bool b) {s with toks:=tk}) :
  aF (az X.prog X.w) A (call (.builtin "isinstance") [u,c]) Q E s:=by
 cases ty with
 |non=>cases (show u=bJ from rx);exact bX PySem.W.kitx_none I.kIn eL e (λz=>nomatch z) h
 |bl y=>cases (show u=gG y from rx);exact bX PySem.W.kitx_bool I.kIn eL e (λz=>nomatch z) h
 |int i=>obtain⟨t,q⟩:=(show ∃t,u=gC i t from rx);cases q;exact bX PySem.W.kitx_int I.kIn eL e (λz=>nomatch z) h
 |str y=>obtain⟨t,q⟩:=(show ∃t,u=jk y t from rx);cases q;exact bX PySem.W.kitx_str I.kIn eL e (λz=>nomatch z) h
 |flt y=>obtain⟨t,q⟩:=(show ∃t,u=ad.float y t from rx);cases q;exact bX PySem.W.kitx_float I.kIn eL e (λz=>nomatch z) h
 |@lst a xs j =>
  cases (show u=c9 a from rx)
  obtain⟨_,_,n,_,h1⟩:=(show ObjOk X.prog X.w H s.heap a (.lst xs) from I.hok a _ j)
  exact bX hU I.kIn ⟨_,h1,rfl⟩ e (λz=>nomatch z) h
 |@frz a L xs j =>
  cases (show u=c9 a from rx)
  obtain⟨_,_,_,n,_,h1⟩:=(show ObjOk X.prog X.w H s.heap a (.frz L (.lst xs)) from I.hok a _ j)
  exact bX hU I.kIn ⟨_,h1,rfl⟩ e (λz=>nomatch z) h
 |@tup a xs j =>
  cases (show u=c9 a from rx)
  obtain⟨_,_,_,p,_⟩:=(show ObjOk X.prog X.w H s.heap a (.tup xs) from I.hok a _ j)
  obtain⟨o,h1,h2,_⟩:=p;exact bX PySem.W.kitx_tuple I.kIn ⟨o,h1,h2⟩ e (λz=>nomatch z) h
 |@dK a B j =>
  cases (show u=c9 a from rx)
  obtain⟨_,_,Z,_,p⟩:=(show ObjOk X.prog X.w H s.heap a (.dK B) from I.hok a _ j)
  obtain⟨o,es,Y,h1,h2,_⟩:=p;exact bX PySem.W.kitx_dict I.kIn ⟨o,h1,h2.1⟩ e (λz=>nomatch z) h
 |@dT a B j =>
  cases (show u=c9 a from rx)
  obtain⟨_,_,xs,_,o,es,Y,h1,h2,_⟩:=(show ObjOk X.prog X.w H s.heap a (.dT B) from I.hok a _ j)
  exact bX PySem.W.kitx_dict I.kIn ⟨o,h1,h2.1⟩ e (λz=>nomatch z) h
 |@ins a C dx fs j cl U N D hm =>
  cases (show u=c9 a from rx)
  obtain⟨mA,O,_⟩:=dZ7 I.hok j;obtain⟨od,J,_⟩:=O.look;exact bX (PySem.W.kitx_own (cl.get _) cl.hd U N D hm) I.kIn J e (λz=>nomatch z) h
end
structure Room(k:Nat)(A:aO):Prop where
 hd:A.handled=none
 dp:A.depth+3*k+5<gL
 un:A.units+16*k+200<bU
theorem Room.mono{j k:Nat}{A:aO}(r:Room k A)(h:j<=k):Room j A:=⟨r.hd,by have:=r.dp;omega,by have:=r.un;omega⟩
theorem Room.deeper{k:Nat}{A:aO}(r:Room (k+1) A)(env:Env):Room k (A.deeper env) :=
 ⟨r.hd,by have:=r.dp;show A.depth+1+3*k+5<_;omega,by have:=r.un;show A.units+3+16*k+200<_;omega⟩
theorem Room.in1{k:Nat}{A:aO}(r:Room (k+1) A):Room k A.in1 :=
 ⟨r.hd,by have:=r.dp;show A.depth+3*k+5<_;omega,by have:=r.un;show A.units+1+16*k+200<_;omega⟩
theorem Room.depth{k:Nat}{A:aO}(r:Room k A):A.depth<gL:=by have:=r.dp;omega
theorem Room.units{k:Nat}{A:aO}(r:Room k A):A.units+64<bU:=by have:=r.un;omega
theorem Room.units0{k:Nat}{A:aO}(r:Room k A):A.units<bU:=by have:=r.un;omega
def tNil:TA:=λ_ H Q=>Q [] H
def eJf(ta:TE)(tr:TA):TA:=fun σ H Q=>ta σ H λx H1=>tr σ H1 λxs H2=>Q (x::xs) H2
section
variable{X:Cx}{e:Expr}{es:List Expr}{te:TE}{t:TA}{pos:Pos}
theorem dQa:PA X [] tNil:=λ_ _ _ _ H Q I h=>hX ⟨[],H,I,.nil,h⟩
theorem cQ8(ha:PE X e te)(hr:PA X es t)(hs:av (e::es) X.env=(false,eval e X.env)::av es X.env:=by rfl):PA X (e::es) (eJf te t):=by
 intro pos pins s σ H Q I h;rw[hs];show aF _ _ (spliced ((false,eval e X.env)::bZ pos (av es X.env))) _ _ s;refine fm (thn (ha pins s σ H _ I h) λu s1 ⟨x,H1,L,z,D⟩=>?_);exact thn (hr pos pins s1 σ H1 _ L D) λus s2 ⟨xs,H2,J,j,B⟩=>⟨x::xs,H2,J,.cons z j,B⟩
def tTup(t:TA):TE:=fun σ H Q=>t σ H λxs H1=>xs.length<=sizeLine/\∀p,H1 p=none->Q (.ref p) (upd H1 p (.tup xs))
def tLst(t:TA):TE:=fun σ H Q=>t σ H λxs H1=>xs.length<=sizeLine/\∀p,H1 p=none->Q (.ref p) (upd H1 p (.lst xs))
theorem eQ9{x1}(h:PA X es t):PE X (.Tuple es x1 pos) (tTup t):=by
 intro pins s σ H Q I B;refine wpAny_Tuple_spliced (thn (h pos pins s σ H _ I B) λus s1 ⟨xs,H1,j,r,z,q⟩=>⟨by rw[<- r.length];exact z,?_⟩)
 have hf:H1 s1.heap.objs.size=none:=j.hok.fresh (Nat.le_refl _);refine⟨.ref s1.heap.objs.size,upd H1 s1.heap.objs.size (.tup xs),j.laid (t':=s1.toks) (λb u e=>ae _ e) (Nat.le_refl _) ?_,rfl,q _ hf⟩;exact⟨z,us,r,⟨_,ax _ rfl,rfl,_,rfl⟩,bXe⟩
theorem eQa(h:PA X es t):PE X (.List es pos) (tLst t):=by
 intro pins s σ H Q I B;refine wpAny_List_spliced (thn (h pos pins s σ H _ I B) λus s1 ⟨xs,H1,j,r,z,q⟩=>⟨by rw[<- r.length];exact z,?_⟩)
 have hf:H1 s1.heap.objs.size=none:=j.hok.fresh (Nat.le_refl _);refine⟨.ref s1.heap.objs.size,upd H1 s1.heap.objs.size (.lst xs),j.laid (t':=s1.toks) (λb u e=>ae _ e) (Nat.le_refl _) ?_,rfl,q _ hf⟩;exact⟨z,us,0,r,ax _ rfl⟩
end
abbrev Sp:=List V->Hp->VK->XK->Prop
abbrev CXT:=List Env->Hp->ah->XK->ad->ah->Prop
structure Env0(P:aC)(w:aL)(K:ap)(mg:Str->Option ad)(base:aY)(A:aO)(outer:List Env)(s:ah)(H:Hp):Prop where
 frames:A.frames=some outer
 gd:A.guards=some []
 mod:Mod K mg base
 bs:∀b o,base.get? b=some o->s.heap.get? b=some o/\H b=none
 bsz:base.objs.size<=s.heap.objs.size
 funs:s.heap.FunFrames base outer
 frf:∀b∈frs outer,H b=none
 hok:HOk P w H s.heap
 bare:hJ s.gens
def CE(outer:List Env)(P:aC)(w:aL)(H:Hp)(s:ah)(Q:VK)(u:ad)(s':ah):Prop :=
 ∃v H',s'.os=s.os/\hJ s'.gens/\Un (frs outer) [] H H' s.heap s'.heap/\HOk P w H' s'.heap/\RelV v u/\Q v H'
def CR(CX:CXT)(outer:List Env)(P:aC)(w:aL)(H:Hp)(s:ah)(Q:VK)(E:XK)(r:Result)(s':ah):Prop :=
 match r with
 |.ok (.ret u)=>CE outer P w H s Q u s'
 |.ok _=>False
 |.error e=>CX outer H s E e s'
structure FnOk(P:aC)(w:aL)(K:ap)(mg:Str->Option ad)(base:aY)(CX:CXT)(k:Nat)(f:Addr)(fd:cR)(ps:List Str)(sp:Sp):Prop where
 len:∀vs H Q E,sp vs H Q E->vs.length=ps.length
 run:∀(A:aO) (outer:List Env) (s:ah) (H:Hp) (args:Args) (us:List ad) (vs:List V) (Q:VK) (E:XK),Room k A->Env0 P w K mg base A outer s H->BindsTo s fd args (ps.zip us)->Vals vs us->sp vs H Q E ->
  eF (az P w) A (.call (.ref f) args) (CR CX outer P w H s Q E) s
theorem FnOk.mono{P:aC}{w:aL}{K:ap}{mg:Str->Option ad}{base:aY}{CX:CXT}{j k:Nat}{f:Addr}{fd:cR}{ps:List Str}{sp:Sp}(F:FnOk P w K mg base CX j f fd ps sp)(h:j<=k) :
  FnOk P w K mg base CX k f fd ps sp:=⟨F.len,λA outer s H args us z Q E B=>F.run A outer s H args us z Q E (B.mono h)⟩
section
variable{X:Cx}{pins:List (Addr×Obj)}{σ:St}{H:Hp}{s s':ah}
theorem Inv.env0(I:Inv X pins σ H s):Env0 X.prog X.w X.K X.mg X.base X.A X.stack s H :=
 ⟨I.ok.frames,I.ok.gd,I.ok.mod,I.bs,Nat.le_trans I.ok.bsz I.sz,I.stack,I.stkFree,I.hok,I.bare⟩
theorem Inv.after{Q:VK}{u:ad}(I:Inv X pins σ H s)(h:CE X.stack X.prog X.w H s Q u s'):EP X pins σ Q u s':=by
 obtain⟨v,H',os,bare,un,hok,r,q⟩:=h;obtain⟨hh,g,d,t,j⟩:=s';obtain rfl:j=s.os:=os;exact⟨v,H',I.call (h':=hh) (g':=g) (d':=d) (t':=t) (ch:=[]) un hok bare (λb z=>absurd z (by simp)),r,q⟩
end
def eQb(sp:Sp)(dvs:List V)(E:XK)(t:TA):TE:=fun σ H Q=>t σ H λvs H1=>sp (vs++dvs) H1 Q E
def Binds(K:ap)(fd:cR)(ps:List Str)(ds:List ad):Prop :=
 ∀(s:ah) (us:List ad),K.In s.heap->(us++ds).length=ps.length->BindsTo s fd ⟨us,[]⟩ (ps.zip (us++ds))
theorem Binds.all{K:ap}{fd:cR}{ps:List Str}(h:∀us:List ad,us.length=ps.length->bindArgs fd ⟨us,[]⟩=pure (ps.zip us)):Binds K fd ps []:=λs us _ j=>by
 rw[bY] at j ⊢;exact .of_eq (h us j)
def cQ9(CX:CXT)(X:Cx)(E:XK):Prop:=∀(pins:List (Addr×Obj)) (σ:St) (H:Hp) (s:ah) (e:ad) (s':ah),Inv X pins σ H s->CX X.stack H s E e s'->X.xe e s'
section
variable{X:Cx}{CX:CXT}{k:Nat}{f C:Addr}{fd:cR}{ps:List Str}{sp:Sp}{dvs:List V}{ds:List ad}{E:XK}{x m:Str}{p pos apos:Pos}{e o:Expr}{es:List Expr}{ta:TE}{t:TA}
theorem eQc{pins:List (Addr×Obj)}{σ:St}{H:Hp}{s:ah}{Q:VK}{us:List ad}{vs:List V}(F:FnOk X.prog X.w X.K X.mg X.base CX k f fd ps sp)(hr:Room k X.A)(hb:Binds X.K fd ps ds)(hd:Vals dvs ds)(hx:cQ9 CX X E)
  (I:Inv X pins σ H s) (r:Vals vs us) (h:sp (vs++dvs) H Q E):aF (az X.prog X.w) X.A (call (.ref f) us) (EP X pins σ Q) X.xe s:=by
 have z:Vals (vs++dvs) (us++ds):=r.append hd;have B:(us++ds).length=ps.length:=by rw[<- z.length];exact F.len _ _ _ _ h
 refine wpAny_call (codeAny_mono (F.run X.A X.stack s H ⟨us,[]⟩ (us++ds) (vs++dvs) Q E hr I.env0 (hb s us I.kIn B) z h) λr s' j=>?_);cases r with
 |error e=>exact hx pins σ H s e s' I j
 |ok fl =>
  cases fl with
  |ret u=>exact I.after j
  |next=>exact cX j
  |brk=>exact cX j
  |cont=>exact cX j
theorem dZ8(F:FnOk X.prog X.w X.K X.mg X.base CX k f fd ps sp)(hr:Room k X.A)(hg:Gl X x)(hm:X.mg x=some (.ref f))(hk:eM X.K (.ref f)=true)(hb:Binds X.K fd ps ds)(hd:Vals dvs ds)(hx:cQ9 CX X E)
  (ha:PA X (e::es) t) (hdb:(x==("__debug__":Str))=false:=by decide) (he:av (e::es) X.env=(false,eval e X.env)::av es X.env:=by rfl) (hpl:(bZ pos (av es X.env)).any (·.1)=false:=by rfl) :
  PE X (.Call (.Name x p) (e::es) [] pos) (eQb sp dvs E t):=by
 intro pins s σ H Q I h;refine fq (ld_glob I hg hm ?_ hdb);refine PySem.W.callWith_K (h₀:=X.base) I.ok.mod.kin hk (thn (ha pos pins s σ H _ I h) λus s1 ⟨z,H1,j,r,q⟩=>⟨j.kIn,?_⟩) he hpl;exact eQc F hr hb hd hx j r q
end
structure FnScope(N P:List Str)(sc:Scope):Prop where
 kind:sc.kind=.function
 co:sc.isCoroutine=false
 gen:sc.isGenerator=false
 nd:N.Nodup
 pre:N.take P.length=P
 par:∀x∈P,sc.names.lookup x=some .local\/sc.names.lookup x=some .cell
 nofree:∀y∈sc.names,y.2≠.free
theorem bQv{kindOf:Str->Option er}{x:Str}:∀{binds:List (Str×ad)}{m:Str->Option ad},(∀v,(x,v)∉binds)->bindL kindOf binds m x=m x
 |[],_,_=>rfl
 |(n,v)::r,m,h=>by
  unfold bindL;rw[bQv λw hw=>h w (au _ hw)]
  split
  ·have:x≠n:=by rintro rfl;exact h v aA
   simp[this]
  ·rfl
theorem bindC_out{kindOf:Str->Option er}{x:Str}:∀{binds:List (Str×ad)}{m:Str->Option ad},(∀v,(x,v)∉binds)->bindC kindOf binds m x=m x
 |[],_,_=>rfl
 |(n,v)::r,m,h=>by
  unfold bindC;rw[bindC_out λw hw=>h w (au _ hw)]
  split
  ·rfl
  ·have:x≠n:=by rintro rfl;exact h v aA
   simp[this]
theorem bindL_get{kindOf:Str->Option er}{x:Str}{v:ad}:∀{P:List Str}{vs:List ad}{i:Nat}{m:Str->Option ad},P.Nodup->P[i]?=some x->vs[i]?=some v->kindOf x=some .local ->
  bindL kindOf (P.zip vs) m x=some v
 |[],_,_,_,_,h,_,_=>by simp at h
 |_::_,[],_,_,_,_,h,_=>by simp at h
 |p::P,w::vs,0,m,nd,h1,h2,j=>by
  simp at h1 h2;subst h1;subst h2;show bindL kindOf ((p,w)::P.zip vs) m p=_;unfold bindL;rw[bQv λv z=>(cG.mp nd).1 (fi z).1,if_pos j];simp
 |p::P,w::vs,i+1,m,nd,h1,h2,j=>by
  show bindL kindOf ((p,w)::P.zip vs) m x=_;unfold bindL;exact bindL_get (i:=i) (cG.mp nd).2 (by simpa using h1) (by simpa using h2) j
theorem bQw{kindOf:Str->Option er}{x:Str}{v:ad}:∀{P:List Str}{vs:List ad}{i:Nat}{m:Str->Option ad},P.Nodup->P[i]?=some x->vs[i]?=some v->kindOf x≠some .local ->
  bindC kindOf (P.zip vs) m x=some v
 |[],_,_,_,_,h,_,_=>by simp at h
 |_::_,[],_,_,_,_,h,_=>by simp at h
 |p::P,w::vs,0,m,nd,h1,h2,j=>by
  simp at h1 h2;subst h1;subst h2;show bindC kindOf ((p,w)::P.zip vs) m p=_;unfold bindC;rw[bindC_out λv z=>(cG.mp nd).1 (fi z).1,if_neg j];simp
 |p::P,w::vs,i+1,m,nd,h1,h2,j=>by
  show bindC kindOf ((p,w)::P.zip vs) m x=_;unfold bindC;exact bQw (i:=i) (cG.mp nd).2 (by simpa using h1) (by simpa using h2) j
def start(N:List Str)(vs:List V):St:=vs.map some++gM (N.length-vs.length) none
def cxOf(CX:CXT)(P:aC)(w:aL)(K:ap)(mg:Str->Option ad)(base:aY)(N:List Str)(qual:Str)(scope:Scope)(f:Addr)(cd:ad)(A:aO)(outer:List Env)(s:ah)(H:Hp)(E:XK):Cx where
 prog:=P
 w:=w
 K:=K
 mg:=mg
 base:=base
 A:=A.deeper (gN qual scope s.heap.objs.size f cd)
 N:=N
 s₀:=s
 H₀:=H
 env:=gN qual scope s.heap.objs.size f cd
 outer:=outer
 stack:=gN qual scope s.heap.objs.size f cd::outer
 ex:=[]
 calm:=true
 fn:=λ_=>true
 pn:=[]
 xe:=λe s'=>aF (az P w) (A.deeper (gN qual scope s.heap.objs.size f cd)) (leaving (gN qual scope s.heap.objs.size f cd) e) (λ_ s''=>CX outer H s E e s'') (λe' s''=>CX outer H s E e' s'') s'
theorem bXh{sc:Scope}{n:Nat}{x:Str}(h:sc.names.lookup x=some .cell):∃c,(eV n sc.names []).lookup x=some c:=by
 have q:=iP sc.names n [] (.inl h);exact de.mp q
theorem cQa{CX:CXT}{P:aC}{w:aL}{K:ap}{mg:Str->Option ad}{base:aY}{N ps:List Str}{qual:Str}{scope:Scope}{f:Addr}{cd:ad}{A:aO}{outer:List Env}{s s1:ah}{H:Hp}{E:XK}{us:List ad}{vs:List V}
  (S:FnScope N ps scope) (hd:A.handled=none) (e0:Env0 P w K mg base A outer s H) (hl:vs.length=ps.length) (r:Vals vs us)
  (x:InCallC s s.heap.objs.size (bindL (gN qual scope s.heap.objs.size f cd).kindOf (ps.zip us) λ_=>none) (eV (s.heap.objs.size+1) scope.names []) (bindC (gN qual scope s.heap.objs.size f cd).kindOf (ps.zip us) λ_=>none) s1) :
  Inv (cxOf CX P w K mg base N qual scope f cd A outer s H E) [] (start N vs) H s1:=by
 have Y:ps.length<=N.length:=by have:=congrArg jb S.pre;rw[aV] at this;omega
 obtain⟨h1,tk,rfl,O⟩:=x.done;have j:∀b:Addr,b∉(cxOf CX P w K mg base N qual scope f cd A outer s H E).ex:=λb z=>absurd (show b∈([]:List Addr) from z) (by simp)
 refine⟨⟨e0.mod,S.kind,rfl,rfl,Nat.le_refl _,λy z c h1 h2=>?_,λy B=>?_,λy c _ h=>?_,λ_=>hd,Around.frames_deeper e0.frames,e0.gd,.inr ⟨rfl,rfl⟩,λb z=>absurd z (j b),e0.bs,e0.bsz,λb _ _=>j b,λb z=>absurd z (j b),e0.funs,e0.frf⟩,
  rfl,e0.bare,Un.kept O,⟨_,x.toInCall.ns,λi y v h1 h2 h3=>?_⟩,λy c h=>⟨_,x.cell y c h⟩,e0.hok.fresh (Nat.le_refl _),λy c h=>?_,λp J=>absurd (show p∈([]:List (Addr×Obj)) from J) (by simp),e0.hok.kept O,?_⟩
 ·exact name_of_addr x.apart (du h1) (du h2)
 ·have B:scope.names.lookup y=some .cell\/scope.names.lookup y=some .free:=B;rcases B with B|B
  ·exact bXh B
  ·exact absurd rfl (S.nofree _ (du B))
 ·exact Nat.le_of_lt (x.above y c (du h))
 ·have hi:i<vs.length:=by
   unfold start at h2
   by_cases hi:i<vs.length
   ·exact hi
   ·rw[cz (by simpa using hi)] at h2
    rw[List.getElem?_replicate] at h2
    split at h2 <;> cases h2
  have Z:vs[i]?=some v:=by
   unfold start at h2;rw[e6 (by simpa using hi),aK] at h2
   cases e:vs[i]? with
   |none=>rw[e] at h2;cases h2
   |some a=>rw[e] at h2;cases h2;rfl
  obtain⟨u,L,U⟩:=r.get Z;have J:ps[i]?=some y:=by
   rw[<- S.pre,im (by omega)];exact h1
  have D:ps.Nodup:=by rw[<- S.pre];exact S.nd.sublist (hZ _ _)
  refine⟨u,U,?_⟩;rcases S.par y (ao J) with k|k
  ·exact .inl ⟨k,bindL_get D J L k⟩
  ·obtain⟨c,e⟩:=bXh (n:=s.heap.objs.size+1) k;refine .inr ⟨.inl k,c,e,?_⟩;have q:=x.cell y c e;rw[bQw D J L (by show scope.names.lookup y≠_;rw[k];decide)] at q
   exact q
 ·exact e0.hok.fresh (Nat.le_of_lt (x.above y c (du h)))
 ·unfold start;show _=N.length;rw[aB,am,List.length_replicate];omega
theorem eQd{CX:CXT}{P:aC}{w:aL}{K:ap}{mg:Str->Option ad}{base:aY}{k:Nat}{f:Addr}{name qual:Str}{params:Arguments}{body:List Stmt}{scope:Scope}{dV kV doc pm cdv ct oc:ad}{an od:Option Addr}
  {osl:Array (Option ad)}{N ps:List Str}{sp:Sp}(lk:K.lookup f=some ⟨oc,od,.func (dW name qual params body scope dV kV doc pm an cdv ct),osl⟩) (hcd:fE K cdv qual=true) (S:FnScope N ps scope)
  (len:∀vs H Q E,sp vs H Q E->vs.length=ps.length)
  (hbody:∀ (A:aO) (outer:List Env) (s:ah) (H:Hp) (vs:List V) (Q:VK) (E:XK),Room k (A.deeper (gN qual scope s.heap.objs.size f cdv))->sp vs H Q E ->
   ∃t,PSs (cxOf CX P w K mg base N qual scope f cdv A outer s H E) body t/\t {nx:=λ_ H'=>Q .non H',rt:=Q} (start N vs) H) :
  FnOk P w K mg base CX (k+1) f (dW name qual params body scope dV kV doc pm an cdv ct) ps sp:=by
 refine⟨len,λA outer s H args us vs Q E O D hb r B=>?_⟩;have hl:=len _ _ _ _ B;have U:K.In s.heap:=D.mod.kin.keeps λb o e=>(D.bs b o e).1;have lim:s.heap.NoLimit:=D.mod.nolimit.keeps λb o e=>(D.bs b o e).1;have j:∀y∈ps.zip us,scope.names.lookup y.1=some .local\/(scope.names.lookup y.1=some .cell/\((eV (s.heap.objs.size+1) scope.names []).lookup y.1).isSome=true):=λ⟨n,v⟩ Y=>by
  rcases S.par n (fi Y).1 with q|q
  ·exact .inl q
  ·exact .inr ⟨q,iP _ _ _ (.inl q)⟩
 refine codeAny_call_function O.depth (U _ _ lk) rfl S.co S.gen rfl (PySem.W.codeRec_of U hcd) (hb _ _ _ _ ?_);refine wpAny_newFunctionEnv_cells S.kind j λenv he s1 x=>?_;subst he;refine⟨lim.keeps x.toInCall.keep,codeAny_func ?_⟩;obtain⟨t,Z,hq⟩:=hbody A outer s H vs Q E (O.deeper _) B;have I:Inv (cxOf CX P w K mg base N qual scope f cdv A outer s H E) [] (start N vs) H s1:=cQa S O.hd D hl r x;refine cr (Z [] s1 (start N vs) H _ I hq) (λfl s' z=>?_) λe s' z=>z;have fin:∀{σ':St}{H':Hp}{v:V}{u:ad},Inv (cxOf CX P w K mg base N qual scope f cdv A outer s H E) [] σ' H' s'->RelV v u->Q v H'->CE outer P w H s Q u s' :=
  λ{σ' H' v u} J L q=>⟨v,H',J.os,J.bare,J.base,J.hok,L,q⟩
 cases fl with
 |ret u =>
  obtain⟨v,σ',H',J,L,q⟩:=z;exact fin J L q
 |next =>
  obtain⟨σ',H',J,q⟩:=z;exact fin (v:=V.non) (u:=bJ) J rfl q
 |brk =>
  obtain⟨_,_,_,q⟩:=z;exact cX q
 |cont =>
  obtain⟨_,_,_,q⟩:=z;exact cX q
section
variable{X:Cx}{x:Str}{p pos:Pos}{e:Expr}{es:List Expr}{t:TA}{id T:String}{r:List V->Hp->VK->Prop}
def tCB(r:List V->Hp->VK->Prop)(t:TA):TE:=fun σ H Q=>t σ H λvs H1=>r vs H1 Q
theorem bXi(hc:CallR X (.builtin id) r)(hg:Gl X x)(hm:X.mg x=none)(hv:bg x=some (.builtin id))(ha:PA X (e::es) t)(hn:x ≠ "__name__":=by decide)(hdb:(x==("__debug__":Str))=false:=by decide)
  (he:av (e::es) X.env=(false,eval e X.env)::av es X.env:=by rfl) (hpl:(bZ pos (av es X.env)).any (·.1)=false:=by rfl):PE X (.Call (.Name x p) (e::es) [] pos) (tCB r t):=by
 intro pins s σ H Q I h;refine fq (ld_blt I hg hm hv ?_ hn hdb);exact PyProof.Rows.callWith_builtin1 (thn (ha pos pins s σ H _ I h) λus s1 ⟨j,H1,D,z,B⟩=>hc pins s1 σ H1 j us Q D z B) he hpl
theorem cQb(hc:CallR X (.type T) r)(hg:Gl X x)(hm:X.mg x=none)(hv:bg x=some (.type T))(ha:PA X (e::es) t)(hn:x ≠ "__name__":=by decide)(hdb:(x==("__debug__":Str))=false:=by decide)
  (he:av (e::es) X.env=(false,eval e X.env)::av es X.env:=by rfl) (hpl:(bZ pos (av es X.env)).any (·.1)=false:=by rfl):PE X (.Call (.Name x p) (e::es) [] pos) (tCB r t):=by
 intro pins s σ H Q I h;refine fq (ld_blt I hg hm hv ?_ hn hdb);exact eE (thn (ha pos pins s σ H _ I h) λus s1 ⟨j,H1,D,z,B⟩=>hc pins s1 σ H1 j us Q D z B) he hpl
end
end L2
namespace HT
open PySem PyProof.Rows
section
variable{prog:aC}{w:aL}{A:aO}{E:ad->ah->Prop}{s:ah}
theorem cat_tup{t b:Addr}{vs ws:List ad}{Q:ad->ah->Prop}(ht:gH s.heap t vs.toArray)(hb:gH s.heap b ws.toArray)(hv:vs≠[])
  (h1:ws=[]->Q (.ref t) s) (h2:ws≠[]->Q (.ref s.heap.objs.size) {s with heap:=s.heap.push {cls:=.type "tuple",data:=.seq (vs++ws).toArray}})
  (hsz:vs.length+ws.length<=sizeLine):aF (az prog w) A (dU .Add (.ref t) (.ref b)) Q E s:=by
 obtain⟨⟨cls,dd,data,sl⟩,J,N,n,hd⟩:=id ht;obtain⟨⟨O,D,data2,z⟩,j,B,L,hd2⟩:=id hb;simp only at N hd B hd2;subst N hd B hd2;have e:vs.toArray++ws.toArray=(vs++ws).toArray:=by simp
 by_cases hw:ws=[]
 ·exact iQ ⟨_,J,rfl⟩ ⟨_,j,rfl⟩ iy seq_tuple_add fF fx (e9 _ _)
   (tuple_addW1 t b vs.toArray ws.toArray n L dd D sl z (by simpa using hv) (by simp[hw])) ⟨J,j,h1 hw⟩
 ·refine iQ ⟨_,J,rfl⟩ ⟨_,j,rfl⟩ iy seq_tuple_add fF fx (e9 _ _)
   (tuple_addW2 t b vs.toArray ws.toArray n L dd D sl z (by simpa using hv) (by simpa using hw) (by rw[aq,aq];exact hsz)) ⟨J,j,?_⟩
  rw[e];exact h2 hw
def sIx(n d:Nat):Option Int->Nat
 |none=>d
 |some v=>if v<0 then (v+(n:Int)).toNat else min v.toNat n
theorem sIx_nat(n d k:Nat):sIx n d (some (k:Int))=min k n:=by
 show(if (k:Int)<0 then ((k:Int)+(n:Int)).toNat else min (k:Int).toNat n)=min k n
 rw[if_neg (by omega),cv]
theorem sIx_le(n d:Nat)(hd:d<=n)(o:Option Int):sIx n d o<=n:=by
 cases o with
 |none=>exact hd
 |some v =>
  show(if v<0 then (v+(n:Int)).toNat else min v.toNat n)<=n
  by_cases j:v<0
  ·rw[if_pos j];omega
  ·rw[if_neg j];exact Nat.min_le_right _ _
theorem cQc(v:Int)(n d:Nat):(if v<0 then max (v+(n:Int)) 0 else min v (n:Int))=((sIx n d (some v):Nat):Int):=by
 show(if v<0 then max (v+(n:Int)) 0 else min v (n:Int))=(((if v<0 then (v+(n:Int)).toNat else min v.toNat n):Nat):Int)
 by_cases j:v<0
 ·simp only[if_pos j];omega
 ·simp only[if_neg j];omega
theorem bJd(lo hi:Option Int)(n:Nat):e7 lo hi 1 (n:Int)=(((sIx n 0 lo:Nat):Int),((sIx n n hi:Nat):Int)):=by
 have h1:¬ ((1:Int)<0):=by omega
 unfold e7;simp only[h1,if_false];refine Prod.ext ?_ ?_
 ·cases lo with
  |none=>rfl
  |some v=>exact cQc v n 0
 ·cases hi with
  |none=>rfl
  |some v=>exact cQc v n n
theorem bJe(i j:Nat):dO (i:Int) (j:Int) 1=j-i:=by
 unfold dO;have h1:(1:Int)>0:=by omega
 simp only[h1,if_true,Int.ediv_one]
 split <;> omega
theorem aJt{v:ad}{o:Option Int}{Q:Option Int->ah->Prop}(p:IsPart v o)(h:Q o s):aF (az prog w) A (cK.Slice.slicePartIndex v) Q E s:=by
 cases p with
 |none=>exact slicePart_none h
 |int i t=>exact slicePart_int h
theorem sliceApplied_gen{sl:Addr}{vl vu:ad}{lo hi:Option Int}{n:Nat}{Q:Int×Int×Nat->ah->Prop}(hs:s.heap.IsSliceOf sl vl vu .none)(pl:IsPart vl lo)(pu:IsPart vu hi)
  (h:Q (((sIx n 0 lo:Nat):Int),1,sIx n n hi-sIx n 0 lo) s):aF (az prog w) A (eN (.ref sl) (pure (n:Int))) Q E s:=by
 obtain⟨os,j,B,z⟩:=id hs;unfold eN cK.Slice.sliceFields;refine aa (aa (wpAny_field j z (x:=vl) rfl (aa (wpAny_field j z (x:=vu) rfl (aa (wpAny_field j z (x:=.none) rfl (af ?_)))))));refine aa (slicePart_none ?_);show aF _ _ (if ((1:Int)==0)=true then _ else _) _ _ s
 rw[if_neg (by decide)]
 refine aa (aJt pl (aa (aJt pu (aa (af ?_)))));show aF _ _ (match e7 lo hi 1 (n:Int) with|(lo,hi)=>pure (lo,(1:Int),dO lo hi 1)) _ _ s
 rw[bJd lo hi n];show aF _ _ (pure (((sIx n 0 lo:Nat):Int),(1:Int),dO ((sIx n 0 lo:Nat):Int) ((sIx n n hi:Nat):Int) 1)) _ _ s;rw[bJe];exact af h
theorem cJ0(xs:Array ad)(i k:Nat):((bu k).filterMap λ(m:Nat)=>xs[((i:Int)+(m:Int)*1).toNat]?).toArray=((xs.toList.drop i).take k).toArray:=by
 have e:(λ(m:Nat)=>xs[((i:Int)+(m:Int)*1).toNat]?)=λm=>xs[i+m]?:=by
  funext m
  have:((i:Int)+(m:Int)*1).toNat=i+m:=by omega
  rw[this]
 rw[e]
 have:=pick_run xs i k
 rw[List.filterMap_map] at this;have j:((λx=>xs[x]?)∘λx=>i+x)=λm=>xs[i+m]?:=rfl;rw[j] at this;rw[this]
theorem getItem_tuple_cut{t sl:Addr}{items:Array ad}{vl vu:ad}{lo hi:Option Int}{Q:ad->ah->Prop}(ht:gH s.heap t items)(hs:s.heap.IsSliceOf sl vl vu .none)(pl:IsPart vl lo)(pu:IsPart vu hi)
  (hw:¬ (sIx items.size 0 lo=0/\sIx items.size items.size hi=items.size))
  (h:Q (.ref s.heap.objs.size) {s with heap:=s.heap.push {cls:=.type "tuple",data:=.seq ((items.toList.drop (sIx items.size 0 lo)).take (sIx items.size items.size hi-sIx items.size 0 lo)).toArray}})
  (hsz:items.size<=sizeLine):aF (az prog w) A (f6 (.ref t) (.ref sl)) Q E s:=by
 have j:sizeOk (.seq ((items.toList.drop (sIx items.size 0 lo)).take (sIx items.size items.size hi-sIx items.size 0 lo)).toArray):=by
  show((items.toList.drop (sIx items.size 0 lo)).take (sIx items.size items.size hi-sIx items.size 0 lo)).toArray.size<=sizeLine;rw[aq,aV,bz,aJ];omega
 have U:sIx items.size items.size hi<=items.size:=sIx_le _ _ (Nat.le_refl _) hi;obtain⟨os,z,D,L⟩:=id hs;have J:s.TypeIs (.ref sl) "slice":=⟨os,z,D⟩;unfold f6
 try with_reducible refine bM ?_
 first|refine aa (af ?_)|skip
 refine aa (wpAny_sequenceKey ht.typeIs (by decide) ?_)
 refine aa (fy (name:=Str.ofString "__getitem__") ht.typeIs bT
  (dD bT ht.typeIs entry_tuple_getitem ?_ (args_tuple_getitem _ _)))
 show aF _ _ (gO (.ref t)>>=_) _ _ s;refine aa (tupleItemsOf_ ht ?_);refine aa (gv J ?_);rw[if_pos (by decide)]
 refine aa (sliceApplied_gen hs pl pu ?_);have B:¬ ((((sIx items.size 0 lo:Nat):Int)==0&&(1:Int)==1&&(sIx items.size items.size hi-sIx items.size 0 lo)==items.size)=true):=by
  intro q;rw[a4,a4] at q;have O:((sIx items.size 0 lo:Nat):Int)=0:=fY q.1.1;have N:sIx items.size items.size hi-sIx items.size 0 lo=items.size:=fY q.2;exact hw ⟨by omega,by omega⟩
 show aF _ _ (if (((sIx items.size 0 lo:Nat):Int)==0&&(1:Int)==1&&(sIx items.size items.size hi-sIx items.size 0 lo)==items.size)=true then _ else _) _ _ s
 rw[if_neg B,cJ0]
 first
  |exact aa (m:=bS _) (bd (af ⟨_,rfl,af h⟩) j)
  |exact aa (m:=bS _) (bd (aa (af (af ⟨_,rfl,af h⟩))) j)
  |exact aa (aa (m:=bS _) (bd (af (af ⟨_,rfl,af h⟩)) j))
  |exact aa (aa (m:=bS _) (bd (af ⟨_,rfl,af h⟩) j))
end
end HT
namespace L2
open PySem PySem.Spec PyProof.Rows
abbrev TO:=St->Hp->(Option Int->Hp->Prop)->Prop
def PO(X:Cx)(e:Option Expr)(t:TO):Prop :=
 ∀(pins:List (Addr×Obj)) (s:ah) (σ:St) (H:Hp) (Q:Option Int->Hp->Prop),Inv X pins σ H s->t σ H Q ->
  aF (az X.prog X.w) X.A (evalPart e X.env) (λu s'=>∃o H',Inv X pins σ H' s'/\IsPart u o/\Q o H') X.xe s
def dZ9:TO:=λ_ H Q=>Q none H
def eJg(t:TE):TO:=fun σ H Q=>t σ H λx H1=>∃i,x=.int i/\Q (some i) H1
theorem bJf{ns:List Int}:∀{us:List ad},Vals (ns.map V.int) us->gw us ns:=by
 induction ns with
 |nil=>intro us r;rw[d9] at r;cases r;exact .nil
 |cons n ns B =>
  intro us r;rw[aX] at r;cases r with
  |cons z j =>
   obtain⟨t,e⟩:=z;subst e;exact .cons n t (B j)
section
variable{X:Cx}{e:Expr}{te:TE}{lo hi:Option Expr}{tl th:TO}{pos p2:Pos}
theorem dZa:PO X none dZ9:=by
 intro pins s σ H Q I h;rw[evalPart_none];exact af ⟨none,H,I,.none,h⟩
theorem dZb(h:PE X e te):PO X (some e) (eJg te):=by
 intro pins s σ H Q I hw;rw[evalPart_some];refine thn (h pins s σ H _ I hw) λu s1 ⟨x,H1,B,j,z⟩=>?_;obtain⟨i,rfl,q⟩:=z;obtain⟨t,rfl⟩:=j;exact⟨some i,H1,B,.int i t,q⟩
def SlR(X:Cx)(r:V->Option Int->Option Int->Hp->VK->Prop):Prop :=
 ∀(pins:List (Addr×Obj)) (s:ah) (σ:St) (H:Hp) (x:V) (v vl vu:ad) (lo hi:Option Int) (sl:Addr) (Q:VK),Inv X pins σ H s->RelV x v->s.heap.IsSliceOf sl vl vu .none->IsPart vl lo->IsPart vu hi->r x lo hi H Q ->
  ∃T id,typeLookup (.type T) "__getitem__"=pure (some (.builtin id))/\s.TypeIs v T/\aF (az X.prog X.w) X.A (f6 v (.ref sl)) (EP X pins σ Q) X.xe s
theorem SlR.or{r r':V->Option Int->Option Int->Hp->VK->Prop}(h:SlR X r)(h':SlR X r'):SlR X (λx lo hi H Q=>r x lo hi H Q\/r' x lo hi H Q):=by
 intro pins s σ H x v z j lo hi sl Q I B D pl pu q;rcases q with q|q
 ·exact h pins s σ H x v z j lo hi sl Q I B D pl pu q
 ·exact h' pins s σ H x v z j lo hi sl Q I B D pl pu q
def tSl(r:V->Option Int->Option Int->Hp->VK->Prop)(te:TE)(tl th:TO):TE:=fun σ H Q=>te σ H λx H1=>tl σ H1 λl H2=>th σ H2 λu H3=>r x l u H3 Q
theorem cJ1{r:V->Option Int->Option Int->Hp->VK->Prop}(hr:SlR X r)(he:PE X e te)(hl:PO X lo tl)(hu:PO X hi th):PE X (.Subscript e (.Slice lo hi none p2) pos) (tSl r te tl th):=by
 intro pins s σ H Q I h;refine Subscript_ (thn (he pins s σ H _ I h) λv s1 ⟨x,H1,I1,D,N⟩=>?_);refine wpAny_Slice (thn (hl pins s1 σ H1 _ I1 N) λz s2 ⟨l,H2,I2,pl,L⟩=>thn (hu pins s2 σ H2 _ I2 L) λj s3 ⟨u,B,I3,pu,J⟩=>?_);rw[evalPart_none];refine af ?_;have Z:Inv X pins σ B {s3 with heap:=s3.heap.push {cls:=.type "slice",data:=.fields #[z,j,.none]}}:=I3.kept (t':=s3.toks) λb ob q=>ae _ q
 obtain⟨T,id,Y,O,U⟩:=hr pins {s3 with heap:=s3.heap.push {cls:=.type "slice",data:=.fields #[z,j,.none]}} σ B x v z j l u s3.heap.objs.size Q Z D (aY.IsSliceOf.new ..) pl pu J;show aF (az X.prog X.w) X.A (subscriptTail e (.Slice lo hi none p2) v (.ref s3.heap.objs.size)) (EP X pins σ Q) X.xe {s3 with heap:=s3.heap.push {cls:=.type "slice",data:=.fields #[z,j,.none]}}
 exact tail_any (ops:=[.ref s3.heap.objs.size,v]) O Y U (by with_unfolding_all rfl)
def cutV(xs:List V)(lo hi:Option Int):List V:=(xs.drop (HT.sIx xs.length 0 lo)).take (HT.sIx xs.length xs.length hi-HT.sIx xs.length 0 lo)
theorem aJ6(xs:List V)(lo hi:Option Int):(cutV xs lo hi).length<=xs.length:=by
 unfold cutV;rw[aV,bz];omega
def rSlT(K:ap):V->Option Int->Option Int->Hp->VK->Prop:=λx lo hi H Q=>∃a xs,x=.ref a/\SqT K H a xs /\
 ¬ (HT.sIx xs.length 0 lo=0/\HT.sIx xs.length xs.length hi=xs.length)/\∀p,H p=none->Q (.ref p) (upd H p (.tup (cutV xs lo hi)))
theorem eQe:SlR X (rSlT X.K):=by
 intro pins s σ H x v L J lo hi sl Q I rx D pl pu h;obtain⟨a,xs,rfl,B,hw,q⟩:=h;cases rx;obtain⟨its,r,z,j⟩:=I.tuple B;have hlen:its.toArray.size=xs.length:=by rw[aq];exact r.length.symm
 refine⟨"tuple",_,bT.lookup,z.typeIs,?_⟩;refine HT.getItem_tuple_cut z D pl pu (by rw[hlen];exact hw) ?_ (by rw[hlen];exact j)
 rw[hlen];refine⟨.ref s.heap.objs.size,_,I.laid (t':=s.toks) (o:=.tup (cutV xs lo hi)) (λb N q=>ae _ q) (Nat.le_refl _) ?_,rfl,q _ (I.hok.fresh (Nat.le_refl _))⟩;exact⟨Nat.le_trans (aJ6 xs lo hi) j,_,(r.drop (HT.sIx xs.length 0 lo)).take (HT.sIx xs.length xs.length hi-HT.sIx xs.length 0 lo),gH.new _ _,bXe⟩
def dZc(K:ap):R2:=λx y H Q=>∃a b xs ys,x=.ref a/\y=.ref b/\SqT K H a xs/\SqT K H b ys/\xs≠[]/\xs.length+ys.length<=sizeLine /\
 (ys=[]->Q (.ref a) H)/\(ys≠[]->∀p,H p=none->Q (.ref p) (upd H p (.tup (xs++ys))))
theorem Vals.nil_iff{xs:List V}{us:List ad}(r:Vals xs us):us=[]↔xs=[]:=by
 cases r with
 |nil=>simp
 |cons _ _=>simp
theorem dZd:OpR X (dU .Add) (dZc X.K):=by
 intro pins s σ H x y v u Q I rx ry h;obtain⟨a,b,xs,ys,rfl,rfl,Z,Y,U,J,N,L⟩:=h;cases rx;cases ry;obtain⟨its,B,O,_⟩:=I.tuple Z;obtain⟨D,j,p2,_⟩:=I.tuple Y;refine HT.cat_tup O p2 (λz=>U (B.nil_iff.mp z)) (λz=>⟨.ref a,H,I,rfl,N (j.nil_iff.mp z)⟩) (λz=>?_) (by rw[<- B.length,<- j.length];exact J)
 refine⟨.ref s.heap.objs.size,_,I.laid (t':=s.toks) (o:=.tup (xs++ys)) (λb ob q=>ae _ q) (Nat.le_refl _) ?_,rfl,L (λw=>z (j.nil_iff.mpr w)) _ (I.hok.fresh (Nat.le_refl _))⟩;exact⟨by rw[aB];exact J,_,B.append j,gH.new _ _,bXe⟩
end
def ixN(n:Nat)(i:Int):Option Nat:=if 0<=i then (if i<n then some i.toNat else none) else if -(n:Int)<=i then some (i+n).toNat else none
def atI{α:Type}(xs:List α)(i:Int):Option α:=(ixN xs.length i).bind λj=>xs[j]?
theorem bZs{n:Nat}{i:Int}{j:Nat}(h:ixN n i=some j):seqIndex? i n=some j/\j<n/\-(n:Int)<=i/\i<n:=by
 unfold ixN at h
 by_cases h0:0<=i
 ·rw[if_pos h0] at h
  by_cases h1:i<n
  ·rw[if_pos h1] at h;have e:i.toNat=j:=aM h;exact⟨by rw[seqIndex_of h0 h1,e],by omega,by omega,h1⟩
  ·rw[if_neg h1] at h;cases h
 ·rw[if_neg h0] at h
  by_cases h1:-(n:Int)<=i
  ·rw[if_pos h1] at h;have e:(i+n).toNat=j:=aM h;exact⟨by rw[seqIndex_neg (by omega) h1,e],by omega,h1,by omega⟩
  ·rw[if_neg h1] at h;cases h
theorem bZt{α:Type}{xs:List α}{i:Int}{v:α}(h:atI xs i=some v):∃j,seqIndex? i xs.length=some j/\xs[j]?=some v/\j<xs.length/\-(xs.length:Int)<=i/\i<xs.length:=by
 unfold atI at h;cases e:ixN xs.length i with
 |none=>rw[e] at h;cases h
 |some j =>
  rw[e] at h;obtain⟨h1,h2,B,z⟩:=bZs e;exact⟨j,h1,h,h2,B,z⟩
theorem aQu{α:Type}{xs:List α}{j:Nat}{v:α}(h:xs[j]?=some v):atI xs (j:Int)=some v:=by
 have z:j<xs.length:=(aE.mp h).1;have e:ixN xs.length (j:Int)=some j:=by
  unfold ixN;rw[if_pos (by omega),if_pos (by omega)];simp
 unfold atI;rw[e];exact h
def PlainIx(b:Expr):Prop:=∀o i,subscripted b false o i=operate [o,i] (f6 o i)
def IxR(X:Cx)(r:R2):Prop :=
 ∀(value slice:Expr) (pins:List (Addr×Obj)) (s:ah) (σ:St) (H:Hp) (x y:V) (v u:ad) (Q:VK),Inv X pins σ H s->RelV x v->RelV y u->r x y H Q ->
  subscripted slice false v u=operate [v,u] (f6 v u)->aF (az X.prog X.w) X.A (subscriptTail value slice v u) (EP X pins σ Q) X.xe s
def MtR(X:Cx)(id:String)(r:V->List V->Hp->VK->Prop):Prop :=
 ∀(pins:List (Addr×Obj)) (s:ah) (σ:St) (H:Hp) (x:V) (xs:List V) (v:ad) (us:List ad) (Q:VK),Inv X pins σ H s->RelV x v->Vals xs us->r x xs H Q ->
  aF (az X.prog X.w) X.A (call (.builtin id) (v::us)) (EP X pins σ Q) X.xe s
section
variable{X:Cx}{a b:Expr}{ta tb:TE}{pos:Pos}
theorem IxR.or{r r':R2}(h:IxR X r)(h':IxR X r'):IxR X (λx y H Q=>r x y H Q\/r' x y H Q):=by
 intro value slice pins s σ H x y v u Q I z j q B;rcases q with q|q
 ·exact h value slice pins s σ H x y v u Q I z j q B
 ·exact h' value slice pins s σ H x y v u Q I z j q B
theorem pe_ix{r:R2}(hr:IxR X r)(ha:PE X a ta)(hb:PE X b tb)(hs:PlainIx b):PE X (.Subscript a b pos) (tOp r ta tb):=by
 intro pins s σ H Q I h;exact Subscript_ (binT ha hb I h λv u s2 x y H2 B z j q=>hr a b pins s2 σ H2 x y v u Q B z j q (hs _ _))
def rIxL(K:ap):R2:=λx y H Q=>∃p xs i v,x=.ref p/\y=.int i/\SqL K H p xs/\atI xs i=some v/\Q v H
def rIxT(K:ap):R2:=λx y H Q=>∃p xs i v,x=.ref p/\y=.int i/\SqT K H p xs/\atI xs i=some v/\Q v H
def rIxS:R2:=λx y H Q=>∃z i c,x=.str z/\y=.int i/\z.length<=sizeLine/\atI z.cps.toList i=some c/\Q (.str ⟨#[c]⟩) H
theorem ix_list:IxR X (rIxL X.K):=by
 intro value slice pins s σ H x y v u Q I rx N h J;obtain⟨p,xs,i,z,rfl,rfl,O,he,q⟩:=h;cases rx;obtain⟨t,rfl⟩:=N;obtain⟨its,r,pl,hz⟩:=I.list O;obtain⟨j,h1,h2,h3,Z,Y⟩:=bZt he;obtain⟨w,L,B⟩:=r.get h2;have U:=r.length;have hn:=aJ5;have fin:EP X pins σ Q w s:=⟨z,H,I,B,q⟩
 by_cases h0:0<=i
 ·have D:i.toNat=j:=by
   rw[seqIndex_of h0 Y] at h1;exact aM h1
  exact item_listR pl.isList h0 (by omega) (by rw[D];simpa using L) fin J
 ·have D:(i+(its.toArray.size:Int)).toNat=j:=by
   rw[seqIndex_neg (by omega) Z] at h1
   rw[aq,<- U];exact aM h1
  exact subscriptTail_builtinR (x:=w) pl.isList.typeIs slot_list_getitem.lookup
   (wpAny_getItem_list_neg (Q:=λr s'=>r=w/\EP X pins σ Q r s') pl.isList (by omega) (by rw[aq] <;> omega) (by omega) (by rw[D];simpa using L) ⟨rfl,fin⟩) J
theorem ix_tup:IxR X (rIxT X.K):=by
 intro value slice pins s σ H x y v u Q I rx D h J;obtain⟨p,xs,i,z,rfl,rfl,L,he,q⟩:=h;cases rx;obtain⟨t,rfl⟩:=D;obtain⟨its,r,pl,U⟩:=I.tuple L;obtain⟨j,h1,h2,h3,h4,Z⟩:=bZt he;obtain⟨w,O,B⟩:=r.get h2;have N:=r.length;have Y:=aJ5;have fin:EP X pins σ Q w s:=⟨z,H,I,B,q⟩;exact subscriptTail_builtinR (x:=w) pl.typeIs slot_tuple_getitem.lookup
  (getItem_tuple (j:=j) (Q:=λr s'=>r=w/\EP X pins σ Q r s') pl (by omega) (by omega) (by rw[aq,<- N];exact h1) (by simpa using O) ⟨rfl,fin⟩) J
theorem eQf:IxR X rIxS:=by
 intro value slice pins s σ H x y v u Q I D B h J;obtain⟨z,i,c,rfl,rfl,hz,he,q⟩:=h;obtain⟨t,rfl⟩:=D;obtain⟨Z,rfl⟩:=B;obtain⟨j,h1,h2,h3,O,N⟩:=bZt he;have L:z.cps.toList.length=z.length:=by simp[Str.length]
 rw[L] at h1 O N;have hn:=aJ5;exact tail_any (typeIs_str s z t) slot_str_getitem.lookup (getItem_str (c:=c) (by
  have Y:decide (i < -(2^63:Int))=false:=decide_eq_false (by omega)
  have U:decide (i>=2^63)=false:=decide_eq_false (by omega)
  rw[Y,U,Bool.or_false]) (by rw[h1];simpa using h2) ⟨.str ⟨#[c]⟩,H,I.tok _,⟨_,rfl⟩,q⟩) J
def rIx(K:ap):R2:=λx y H Q=>rIxL K x y H Q\/rIxT K x y H Q\/rIxS x y H Q
theorem eQg:IxR X (rIx X.K):=ix_list.or (ix_tup.or eQf)
theorem bJg(its:List ad)(n j:Nat)(u:ad):ba (·.setIfInBounds j u) {cls:=.type "list",data:=.seq its.toArray n}={cls:=.type "list",data:=.seq (its.set j u).toArray n}:=by
 simp[ba]
theorem Inv.lst{pins:List (Addr×Obj)}{σ:St}{H:Hp}{s:ah}{p:Addr}{xs:List V}(I:Inv X pins σ H s)(h:H p=some (.lst xs)) :
  ∃(its:List ad) (n:Nat),Vals xs its/\s.heap.get? p=some {cls:=.type "list",data:=.seq its.toArray n}/\xs.length<=sizeLine:=by
 obtain⟨z,its,n,r,e⟩:=I.hok p _ h;exact⟨its,n,r,e,z⟩
theorem Inv.lstUpd{pins:List (Addr×Obj)}{σ:St}{H:Hp}{s:ah}{p:Addr}{xs ys:List V}{its its':List ad}{n n':Nat}{f:Obj->Obj}(I:Inv X pins σ H s)(h:H p=some (.lst xs))
  (ho:s.heap.get? p=some {cls:=.type "list",data:=.seq its.toArray n}) (hf:f {cls:=.type "list",data:=.seq its.toArray n}={cls:=.type "list",data:=.seq its'.toArray n'}) (r:Vals ys its') (hz:ys.length<=sizeLine) (t:Nat) :
  Inv X pins σ (upd H p (.lst ys)) {s with heap:=s.heap.update p f,toks:=t}:=by
 have e:(s.heap.update p f).get? p=some {cls:=.type "list",data:=.seq its'.toArray n'}:=by
  rw[c7 f ho (by rw[hf] <;> rfl),hf]
 refine I.write (x:=p) (e:=p) (by rw[h];trivial) (.inl rfl) (λb u j q=>(a7 _ _ (cy j)).trans q) ⟨_,e⟩ ?_
 exact⟨hz,its',n',r,e⟩
def eJh:V->V->V->Hp->(Hp->Prop)->Prop:=λo i v H Q=>∃p xs k j,o=.ref p/\i=.int k/\H p=some (.lst xs)/\ixN xs.length k=some j/\Q (upd H p (.lst (xs.set j v)))
theorem cJ2:PSet X eJh:=by
 intro pins s σ H o i v ov iv u Q I ro Y U h;obtain⟨p,xs,k,j,rfl,rfl,J,hj,q⟩:=h;cases ro;obtain⟨t,rfl⟩:=Y;obtain⟨its,n,r,z,Z⟩:=I.lst J;obtain⟨h1,h2,N,L⟩:=bZs hj;have B:=r.length;have hn:=aJ5;have O:Inv X pins σ (upd H p (.lst (xs.set j v))) {s with heap:=s.heap.update p (ba (·.setIfInBounds j u))} :=
  I.lstUpd J z (bJg its n j u) (r.set U j) (by rw[List.length_set];exact Z) s.toks
 by_cases h0:0<=k
 ·have D:k.toNat=j:=by
   rw[seqIndex_of h0 L] at h1;exact aM h1
  exact PySem.W.ki_setAt z h0 (by omega) (by rw[aq,<- B];exact L) (by rw[D];exact⟨_,O,q⟩)
 ·have D:(k+(its.toArray.size:Int)).toNat=j:=by
   rw[seqIndex_neg (by omega) N] at h1
   rw[aq,<- B];exact aM h1
  exact PySem.W.ki_setBack z (by omega) (by rw[aq,<- B];exact N) (by omega) (by rw[D];exact⟨_,O,q⟩)
theorem aXl(lo hi:Option Int)(n:Nat):(d7 lo hi none n).1=((HT.sIx n 0 lo:Nat):Int)/\(d7 lo hi none n).2.1=((HT.sIx n n hi:Nat):Int)/\(d7 lo hi none n).2.2=1:=by
 refine⟨?_,?_,rfl⟩
 ·cases lo with
  |none=>simp[d7,HT.sIx]
  |some i =>
   simp only[d7,HT.sIx,iz,show(1:Int)>0 by decide,if_true]
   by_cases h:i<0
   ·simp only[h,if_true] <;> omega
   ·simp only[h,if_false] <;> omega
 ·cases hi with
  |none=>simp[d7,HT.sIx]
  |some i =>
   simp only[d7,HT.sIx,iz,show(1:Int)>0 by decide,if_true]
   by_cases h:i<0
   ·simp only[h,if_true] <;> omega
   ·simp only[h,if_false] <;> omega
theorem bQ4(its:List ad)(lo hi:Option Int):slicePick its.toArray lo hi none=((its.drop (HT.sIx its.length 0 lo)).take (HT.sIx its.length its.length hi-HT.sIx its.length 0 lo)).toArray:=by
 obtain⟨h1,h2,j⟩:=aXl lo hi its.toArray.size;unfold slicePick;rw[h1,h2,j];simp only[sliceRange_one,pick_run,aq] <;> rfl
def rSlL(K:ap):V->Option Int->Option Int->Hp->VK->Prop:=λx lo hi H Q=>∃a xs,x=.ref a/\SqL K H a xs/\∀p,H p=none->Q (.ref p) (upd H p (.lst (cutV xs lo hi)))
theorem dZe:SlR X (rSlL X.K):=by
 intro pins s σ H x v L J lo hi sl Q I rx D pl pu h;obtain⟨a,xs,rfl,B,q⟩:=h;cases rx;obtain⟨its,r,j,z⟩:=I.list B;have hlen:=r.length;refine⟨"list",_,slot_list_getitem.lookup,j.isList.typeIs,?_⟩;refine wpAny_getItem_list_slice j.isList D pl pu .none (by simp) ?_ (by rw[aq] <;> omega)
 rw[bQ4,<- hlen];refine⟨.ref s.heap.objs.size,_,I.laid (t':=s.toks) (o:=.lst (cutV xs lo hi)) (λb N q=>ae _ q) (Nat.le_refl _) ?_,rfl,q _ (I.hok.fresh (Nat.le_refl _))⟩;exact⟨Nat.le_trans (aJ6 xs lo hi) z,_,0,(r.drop (HT.sIx xs.length 0 lo)).take (HT.sIx xs.length xs.length hi-HT.sIx xs.length 0 lo),ax _ rfl⟩
theorem CallR.or{f:ad}{r r':List V->Hp->VK->Prop}(h:CallR X f r)(h':CallR X f r'):CallR X f (λxs H Q=>r xs H Q\/r' xs H Q):=by
 intro pins s σ H xs us Q I rs q;rcases q with q|q
 ·exact h pins s σ H xs us Q I rs q
 ·exact h' pins s σ H xs us Q I rs q
theorem call_list_of:CallR X (.type "list") (λxs H Q=>∃p ys,xs=[.ref p]/\(SqL X.K H p ys\/SqT X.K H p ys)/\∀l,H l=none->Q (.ref l) (upd H l (.lst ys))):=by
 intro pins s σ H xs us Q I r h;obtain⟨p,ys,rfl,D,q⟩:=h;obtain⟨u,rfl,rx⟩:=aX0 r;cases rx;have fin:∀(its:List ad),Vals ys its->ys.length<=sizeLine->∀(h':aY) (z:Nat),(∀b o',s.heap.get? b=some o'->h'.get? b=some o') ->
   h'.get? s.heap.objs.size=some {cls:=.type "list",dict:=none,data:=.seq its.toArray z,slots:=#[]}->EP X pins σ Q (.ref s.heap.objs.size) {s with heap:=h'}:=λits j B h' z kp e =>
  ⟨.ref s.heap.objs.size,_,I.laid (t':=s.toks) kp (Nat.le_refl _) (show ObjOk X.prog X.w _ h' _ (.lst ys) from⟨B,its,z,j,e⟩),rfl,q _ (I.hok.fresh (Nat.le_refl _))⟩
 rcases D with D|D
 ·obtain⟨its,j,pl,B⟩:=I.list D;have hlen:=j.length;obtain⟨o,J,L,n,hd⟩:=pl.isList;exact call_list_seq p (.inl rfl) J L hd (λh' z kp e=>fin its j B h' z kp e) (by simp only[aq] <;> omega)
 ·obtain⟨its,j,pl,B⟩:=I.tuple D;have hlen:=j.length;obtain⟨o,J,L,n,hd⟩:=pl;exact call_list_seq p (.inr rfl) J L hd (λh' z kp e=>fin its j B h' z kp e) (by simp only[aq] <;> omega)
theorem bQ5:CallR X (.type "tuple") (λxs H Q=>∃p ys,xs=[.ref p]/\((SqL X.K H p ys/\∀l,H l=none->Q (.ref l) (upd H l (.tup ys)))\/(SqT X.K H p ys/\Q (.ref p) H))):=by
 intro pins s σ H xs us Q I r h;obtain⟨p,ys,rfl,h⟩:=h;obtain⟨u,rfl,rx⟩:=aX0 r;cases rx;rcases h with⟨z,q⟩|⟨z,q⟩
 ·obtain⟨its,j,pl,B⟩:=I.list z;have hlen:=j.length;refine call_tuple_list pl.isList (λh' kp=>?_) (by simp only[aq] <;> omega)
  have D:Inv X pins σ H {s with heap:=h'}:=I.kept (t':=s.toks) kp
  have J:Inv X pins σ (upd H h'.objs.size (.tup ys)) {s with heap:=h'.push {cls:=.type "tuple",data:=.seq its.toArray}} :=
   D.laid (t':=s.toks) (λb o e=>ae _ e) (Nat.le_refl _) (show ObjOk X.prog X.w _ _ _ (.tup ys) from⟨B,its,j,gH.new _ _,bXe⟩)
  exact⟨.ref h'.objs.size,_,J,rfl,q _ (D.hok.fresh (Nat.le_refl _))⟩
 ·obtain⟨its,j,pl,B⟩:=I.tuple z;exact call_tuple_same pl ⟨.ref p,H,I,rfl,q⟩
def tyV(K:ap)(T:String)(x:V)(H:Hp):Prop:=match x with
 |.str _=>T="str"
 |.int _=>T="int"
 |.ref p=>(T="list"/\∃xs,SqL K H p xs)\/(T="tuple"/\∃o,K.lookup p=some o/\o.cls=.type "tuple"/\o.dict=none) \/
   (T="dict"/\((∃kvs,H p=some (.dK kvs))\/∃kvs,H p=some (.dT kvs)))\/(T="set"/\∃S n,H p=some (.set S n))
 |_=>False
theorem eQh{pins:List (Addr×Obj)}{σ:St}{H:Hp}{s:ah}{T:String}{x:V}{v:ad}(I:Inv X pins σ H s)(r:RelV x v)(ty:tyV X.K T x H) :
  s.TypeIs v T/\∀a,v=.ref a->∃ob,s.heap.get? a=some ob/\ob.dict=none:=by
 cases x with
 |str z =>
  obtain⟨t,rfl⟩:=r;cases (show T="str" from ty)
  exact⟨typeIs_str s z t,λ_ e=>nomatch e⟩
 |int i =>
  obtain⟨t,rfl⟩:=r;cases (show T="int" from ty)
  exact⟨typeIs_int s i t,λ_ e=>nomatch e⟩
 |ref p =>
  cases r;rcases ty with⟨rfl,xs,D⟩|⟨rfl,o,j,J,hd⟩|⟨rfl,j⟩|⟨rfl,S,n,j⟩
  ·obtain⟨its,_,pl,_⟩:=I.list D;refine⟨pl.isList.typeIs,λa e=>?_⟩;cases e;obtain⟨o,n,e,c,hd,_⟩:=pl;exact⟨o,e,hd⟩
  ·refine⟨⟨o,I.kIn p o j,J⟩,λa e=>?_⟩;cases e;exact⟨o,I.kIn _ o j,hd⟩
  ·have z:∃o,s.heap.get? p=some o/\o.ExactDict:=by
    rcases j with⟨B,j⟩|⟨B,j⟩
    ·obtain⟨_,_,_,_,o,_,_,e,ex,_⟩:=I.hok p _ j;exact⟨o,e,ex⟩
    ·obtain⟨_,_,_,_,o,_,_,e,ex,_⟩:=I.hok p _ j;exact⟨o,e,ex⟩
   obtain⟨o,e,ex⟩:=z;refine⟨⟨o,e,ex.1⟩,λa e2=>?_⟩;cases e2;exact⟨o,e,ex.2.1⟩
  ·obtain⟨o,_,_,_,e,ex,_⟩:=I.hok p _ j;refine⟨⟨o,e,ex.1⟩,λa e2=>?_⟩;cases e2;exact⟨o,e,ex.2.1⟩
 |_=>exact cX ty
def tBM(K:ap)(T:String)(r:V->List V->Hp->VK->Prop)(to:TE)(t:TA):TE:=fun σ H Q=>to σ H λx H1=>tyV K T x H1/\t σ H1 λxs H2=>r x xs H2 Q
variable{o e:Expr}{es:List Expr}{to:TE}{t:TA}{name:Str}{apos cpos:Pos}{T id:String}{r:V->List V->Hp->VK->Prop}
theorem eJi(pa:PlainAttrs T)(slot:Slot T name id)(hty:typeOf (.builtin id)=pure (.type "method_descriptor"))(hm:MtR X id r)(ho:PE X o to)(ha:PA X (e::es) t)
  (hbase:fb o name X.env (eval o X.env)=eval o X.env:=by rfl)
  (hfew:((bZ cpos (av (e::es) X.env)).all (λx=>!x.1) && (gP cpos (eO [] X.env)).all (λx=>x.1.isSome)
   && decide ((e::es).length+([]:List fG).length+(if ([]:List fG).isEmpty then 0 else 1)<30))=true:=by rfl)
  (hline:(apos.endLine==cpos.line)=true:=by rfl) (hs:av (e::es) X.env=(false,eval e X.env)::av es X.env:=by rfl) (hplain:(bZ cpos (av es X.env)).any (·.1)=false:=by rfl) :
  PE X (.Call (.Attribute o name apos) (e::es) [] cpos) (tBM X.K T r to t):=by
 intro pins s σ H Q I h;refine wpAny_Call_method_late hbase hfew hline rfl (thn (ho pins s σ H _ I h) λv s1 ⟨x,H1,B,j,ty,N⟩=>?_);obtain⟨h1,h2⟩:=eQh B j ty;refine⟨T,id,pa,slot,hty,h1,h2,?_⟩;have z:=ha cpos pins s1 σ H1 _ B N;rw[hs] at z ⊢;refine iR (by show(false||(bZ cpos (av es X.env)).any (·.1))=false;rw[hplain] <;> rfl) (Calls.evalArgs_plain ?_)
 exact thn z λus s2 ⟨D,H2,O,J,L⟩=>hm pins s2 σ H2 x D v us Q O j J L
end
def MtM(X:Cx)(id:String)(r:V->List V->Hp->VK->Prop):Prop :=
 ∀(pins:List (Addr×Obj)) (s:ah) (σ:St) (H:Hp) (x:V) (xs:List V) (v:ad) (us:List ad) (Q:VK),Inv X pins σ H s->RelV x v->Vals xs us->r x xs H Q ->
  aF (az X.prog X.w) X.A (call (.builtin id) (v::us)) (EP X pins σ Q) X.xe s
theorem Vals.one:∀{x:V}{us:List ad},Vals [x] us->∃u,us=[u]/\RelV x u:=by
 intro x us h;cases h with
 |cons r t=>cases t;exact⟨_,rfl,r⟩
theorem Vals.two:∀{x y:V}{us:List ad},Vals [x,y] us->∃u v,us=[u,v]/\RelV x u/\RelV y v:=by
 intro x y us h;cases h with
 |cons r t =>
  cases t with
  |cons q t=>cases t;exact⟨_,_,rfl,r,q⟩
theorem Vals.eraseIdx:∀{xs:List V}{us:List ad}(i:Nat),Vals xs us->Vals (xs.eraseIdx i) (us.eraseIdx i)
 |_,_,_,.nil=>.nil
 |_,_,0,.cons _ t=>t
 |_,_,i+1,.cons r t=>.cons r (Vals.eraseIdx i t)
theorem bQx{α:Type}:∀(l:List α) (i:Nat),(l.eraseIdx i).length<=l.length
 |[],_=>Nat.le_refl _
 |_::_,0=>Nat.le_succ _
 |_::r,i+1=>Nat.succ_le_succ (bQx r i)
section
variable{X:Cx}{pins:List (Addr×Obj)}{σ:St}{H:Hp}{s:ah}{l b:Addr}{xs ys zs:List V}
theorem Inv.lset{its its':List ad}{n:Nat}{f:Array ad->Array ad}{t':Nat}(I:Inv X pins σ H s)(hH:H l=some (.lst xs))
  (e:s.heap.get? l=some {cls:=.type "list",data:=.seq its.toArray n}) (hf:f its.toArray=its'.toArray) (hv:Vals ys its') (hz:ys.length<=sizeLine) :
  Inv X pins σ (upd H l (.lst ys)) {s with heap:=s.heap.update l (ba f),toks:=t'}:=by
 have q:=PySem.IsL.update e f;rw[hf] at q;refine I.write (x:=l) (e:=l) (by rw[hH];exact trivial) (.inl rfl) (λB u z j=>(a7 s.heap (ba f) (cy z)).trans j) ⟨_,q⟩ ?_
 exact⟨hz,its',_,hv,q⟩
theorem Inv.lnew{its:List ad}{t':Nat}(I:Inv X pins σ H s)(hv:Vals ys its)(hz:ys.length<=sizeLine) :
  Inv X pins σ (upd H s.heap.objs.size (.lst ys)) {s with heap:=s.heap.push {cls:=.type "list",data:=.seq its.toArray},toks:=t'} :=
 I.laid (λ_ _ q=>ae _ q) (Nat.le_refl _) ⟨hz,its,0,hv,ax _ rfl⟩
theorem Inv.fresh(I:Inv X pins σ H s):H s.heap.objs.size=none:=I.hok.fresh (Nat.le_refl _)
theorem Inv.lstM(I:Inv X pins σ H s)(hH:H l=some (.lst xs)):xs.length<=sizeLine/\∃(its:List ad) (n:Nat),Vals xs its/\xs.length=its.length/\s.heap.get? l=some {cls:=.type "list",data:=.seq its.toArray n}:=by
 obtain⟨z,its,n,r,e⟩:=I.hok l _ hH;exact⟨z,its,n,r,r.length,e⟩
theorem cJ3{n:Nat}(h:n<=sizeLine):ff n=false:=by
 unfold ff;exact decide_eq_false (by omega)
end
section
variable{X:Cx}
def cQd:V->List V->Hp->VK->Prop:=λx vs H Q=>∃l xs y,x=.ref l/\vs=[y]/\H l=some (.lst xs)/\xs.length<sizeLine/\Q .non (upd H l (.lst (xs++[y])))
theorem bQy:MtM X "list.append" cQd:=by
 intro pins s σ H x J v us Q I rx B h;obtain⟨l,xs,y,rfl,rfl,j,L,q⟩:=h;cases rx;obtain⟨u,rfl,D⟩:=B.one;obtain⟨z,its,n,r,N,e⟩:=I.lstM j;refine iS F.slot_list_append ⟨_,e,rfl⟩ F.entry_list_append (F.args_list_append_2 _ _) (PySem.list_append l its.toArray n u (by rw[aq];omega)) ⟨e,?_⟩
 refine⟨.non,_,I.lset (its':=its++[u]) j e (by simp) (r.append (.cons D .nil)) ?_,rfl,q⟩
 rw[aB,List.length_singleton];omega
def cQe:V->List V->Hp->VK->Prop:=λx vs H Q=>∃l b xs zs,x=.ref l/\vs=[.ref b]/\H l=some (.lst xs)/\H b=some (.lst zs)/\xs.length+zs.length<=sizeLine/\Q .non (upd H l (.lst (xs++zs)))
theorem cQf:MtM X "list.extend" cQe:=by
 intro pins s σ H x vs v us Q I rx L h;obtain⟨l,b,xs,zs,rfl,rfl,J,Y,hz,q⟩:=h;cases rx;obtain⟨u,rfl,ru⟩:=L.one;cases ru;obtain⟨z,its,n,r,hl,e⟩:=I.lstM J;obtain⟨z2,j,O,N,U,Z⟩:=I.lstM Y;have D:its.toArray.size+j.toArray.size<=sizeLine:=by rw[aq,aq];omega
 have B:¬ (!its.toArray.isEmpty&&ff (its.toArray.size+j.toArray.size))=true:=by
  rw[cJ3 D,Bool.and_false];exact dI
 refine iS F.slot_list_extend ⟨_,e,rfl⟩ F.entry_list_extend (F.args_list_extend_2 _ _)
  (AutoSeq1.list_extend_list_list_0 l its.toArray n b j.toArray O B (by rw[aq];omega) (by omega)) ⟨e,Z,?_⟩
 refine⟨.non,_,I.lset (its':=its++j) J e (by simp) (r.append N) ?_,rfl,q⟩
 rw[aB];omega
def dQb:V->List V->Hp->VK->Prop:=λx vs H Q=>∃l xs i k y,x=.ref l/\vs=[.int i]/\H l=some (.lst xs)/\-(2^63)<=i/\i<2^63/\seqIndex? i xs.length=some k/\xs[k]?=some y/\Q y (upd H l (.lst (xs.eraseIdx k)))
theorem cJ4:MtM X "list.pop" dQb:=by
 intro pins s σ H x U v us Q I rx D h;obtain⟨l,xs,i,k,y,rfl,rfl,B,h1,h2,O,L,q⟩:=h;cases rx;obtain⟨u,rfl,J⟩:=D.one;obtain⟨t,rfl⟩:=J;obtain⟨z,its,n,r,N,e⟩:=I.lstM B;obtain⟨w,hw,j⟩:=r.get L;refine iS F.slot_list_pop ⟨_,e,rfl⟩ F.entry_list_pop (F.args_list_pop_2 _ _)
  (MeetsSeq.list_pop_at l its.toArray n i t k w (fitsIndex_both h1 h2) (by rw[aq,<- N];exact O) (by rw[<- aT];exact hw) (by rw[aq];omega)) ⟨e,?_⟩
 refine⟨y,_,I.lset (its':=its.eraseIdx k) B e ?_ (r.eraseIdx k) ?_,j,q⟩
 ·show its.toArray.eraseIdxIfInBounds k=(its.eraseIdx k).toArray;rw[List.eraseIdxIfInBounds_toArray]
 ·have:=bQx xs k
  omega
end
section
variable{prog:aC}{w:aL}{A:aO}{E:ad->ah->Prop}{s:ah}
set_option maxRecDepth 100000 in
end
end L2
namespace Att
open PySem PySem.W PySem.Calls PyProof.Rows
theorem aJ7{P:Params}{h:aY}:∀(ns:List Int) (vs:List ad),WellAll P h vs (ns.map WData.int)->gw vs ns:=by
 intro ns
 induction ns with
 |nil =>
  intro vs w;rw[d9] at w;cases w;exact .nil
 |cons n ns j =>
  intro vs w;rw[aX] at w;cases w with
  |cons a b =>
   cases a;exact .cons _ _ (j _ b)
theorem cQg{l:OpenLaw}{n:Nat}(hn:l.most=some n){P:Params}{h:aY}{args:List WData}{vals:List ad}
  (hpre:l.row.toRowW.claim.pre args=true) (hwl:WellAll P h vals args) :
  ∃a vs ns,vals=[c9 a]/\args=[WData.list (ns.map WData.int)]/\h.get? a=some {cls:=.type "list",data:=.seq vs.toArray}/\gw vs ns/\ns.length<=n:=by
 have D:WShape.hasAll [] args [.list .int]=true:=(pre_splitW hpre).1;have J:l.pre.holds [] {args:=args}=true:=(pre_splitW hpre).2;obtain⟨d,r,rfl,h1,h2⟩:=hasAllW_cons D;obtain rfl:=hasAllW_nil h2;obtain⟨xs,rfl,O⟩:=hasW_list h1;obtain⟨ns,rfl⟩:=items_int O;have hlen:ns.length<=n:=by
  unfold OpenLaw.pre at J;have B:(WTm.not (.lt (.lit (.int (n:Int))) (.len (.arg 0)))).holds [] {args:=[.list (ns.map .int)]}=true:=by
   have B:=(holds_andW J).1;rw[hn] at B;exact B
  have z:=condW_of B (w_not (w_lt w_lit (w_len_list (w_arg rfl))));rw[am] at z;refine Nat.le_of_not_lt λq=>?_;have L:(n:Int)<((ns.length:Nat):Int):=by omega
  first
   |(rw[decide_eq_true L] at z;exact absurd z (by decide))
   |(simp at z;omega)
 cases hwl with
 |cons w1 w2 =>
  cases w2;cases w1 with
  |list N j=>exact⟨_,_,ns,rfl,rfl,N,aJ7 ns _ j,hlen⟩
theorem cQh(l:OpenLaw)(args:List WData):l.row.toRowW.claim.post args (.bool true) args=true :=
 postW_of (r:=l.row.toRowW) (X:=(true==true))
  (show WShape.has [] (.bool true) .bool=true by first|rfl|decide|simp[WShape.has,WShape.arms,WShape.armsAll])
  (show(WTm.eq .res (.lit (.bool true))).value [] {args:=args,res:=some (.bool true),after:=args}=some (.bool (true==true)) from w_eq_bool (w_res rfl) w_lit) rfl
theorem attach_call{l:OpenLaw}{n:Nat}{q:aC}{loose:List Str}{XP:(Str->Option ad)->aY->Prop}{YP:aL->aY->Prop}{d:DefRec}
  (hn:l.most=some n) (hdf:d.params.defaults=[])
  (call:∀ (w:aL) (s₀ s₁:ah) (mg mb:Str->Option ad) (fa:Addr) (o:Obj) (pm cd doc:ad) (a:Addr) (vs:List ad) (ns:List Int),
   Ground q loose [] XP w s₀ mg mb s₁.heap->YP w s₁.heap ->
   s₁.heap.get? fa=some o->o.data=.func (docDef d.name d.params d.body d.scope pm cd doc)->s₁.heap.CodeRec cd d.name->mg d.name=some (.ref fa) ->
   s₁.heap.get? a=some {cls:=.type "list",data:=.seq vs.toArray}->gw vs ns->ns.length<=n->s₁.gens=#[] ->
   eF (az l.prog w) callerA (.call (.ref fa) ⟨[.ref a],[]⟩) (λr s'=>r=.ok (.ret (.bool true))/\OldK s₁.heap s'.heap/\s'.os=s₁.os/\hJ s'.gens) s₁) :
  WalkO q loose XP YP l.row.toRowW d [] (λf vs=>PySem.call f vs):=by
 intro w s₀ s₁ mg mb G Y fa o pm cd doc dV kV Z hd J N D hg args vals as j L O B hlo;obtain rfl:dV=.none:=Dflts.none N hdf;obtain rfl:kV=.none:=Dflts.noKw N;obtain⟨a,vs,ns,rfl,rfl,z,hints,hlen⟩:=cQg hn j B;refine enter_call (codeAny_mono (call w s₀ s₁ mg mb fa o pm cd doc a vs ns G Y Z (fd_plain hd) J D z hints hlen hg) λr s' U=>?_);obtain⟨rfl,h2,h3,h4⟩:=U;exact⟨.inl ⟨.bool true,.bool true,[],rfl,λ_=>rfl,.bool true,cQh l _,λ_=>⟨fH,λ_ hm=>(nomatch hm)⟩⟩,h2,h3,h4⟩
end Att
namespace L2
open PySem PySem.Spec PyProof.Rows
theorem aJ8:∀{vs:List ad}{ns:List Int},gw vs ns->Vals (ns.map V.int) vs
 |_,_,.nil=>.nil
 |_,_,.cons n t h=>.cons ⟨t,rfl⟩ (aJ8 h)
abbrev KOf{K:ap}{h:aY}(_:K.In h):ap:=K
def aX1(s:Stmt):Arguments:=match s with
 |.FunctionDef _ a _ _ _ _ _ _ _ _=>a
 |_=>{posonlyargs:=[],args:=[],vararg:=none,kwonlyargs:=[],kw_defaults:=[],kwarg:=none,defaults:=[]}
def aQz(s:Stmt):List Stmt:=match s with
 |.FunctionDef _ _ b _ _ _ _ _ _ _=>b
 |_=>[]
def aQ3(s:Stmt):Scope:=match s with
 |.FunctionDef _ _ _ _ _ _ sc _ _ _=>sc
 |_=>{kind:=.function,names:=[],isGenerator:=false,isCoroutine:=false}
abbrev CX0:CXT:=λ_ _ _ _ _ _=>False
abbrev E0:XK:=λ_ _ _=>False
theorem eJj{X:Cx}:cQ9 CX0 X E0:=λ_ _ _ _ _ _ _ h=>h.elim
structure Fun(K:ap)(x qual:Str)(st:Stmt)(f:Addr)(fd:cR):Prop where
 ex:∃(oc:ad) (od:Option Addr) (kV doc pm:ad) (an:Option Addr) (cdv ct:ad) (osl:Array (Option ad)),
  fd=dW x qual (aX1 st) (aQz st) (aQ3 st) .none kV doc pm an cdv ct/\K.lookup f=some ⟨oc,od,.func fd,osl⟩/\fE K cdv qual=true
 kp:eM K (.ref f)=true
section
variable{P:aC}{w:aL}{K:ap}{mg:Str->Option ad}{base:aY}
theorem Fun.ok{x qual:Str}{st:Stmt}{f:Addr}{fd:cR}{N ps:List Str}{k:Nat}{sp:Sp}(F:Fun K x qual st f fd)(S:FnScope N ps (aQ3 st))(len:∀vs H Q E,sp vs H Q E->vs.length=ps.length)
  (hbody:∀ (cdv:ad) (A:aO) (outer:List Env) (s:ah) (H:Hp) (vs:List V) (Q:VK) (E:XK),Room k (A.deeper (gN qual (aQ3 st) s.heap.objs.size f cdv))->sp vs H Q E ->
   ∃t,PSs (cxOf CX0 P w K mg base N qual (aQ3 st) f cdv A outer s H E).nox (aQz st) t/\t {nx:=λ_ H'=>Q .non H',rt:=Q} (start N vs) H):FnOk P w K mg base CX0 (k+1) f fd ps sp:=by
 obtain⟨oc,J,kV,doc,pm,an,cdv,ct,B,rfl,lk,z⟩:=F.ex;refine eQd lk z S len λA outer s H vs Q E D j=>?_;obtain⟨t,h,q⟩:=hbody cdv A outer s H vs Q E D j;exact⟨t,h.nox,q⟩
theorem Fun.binds{x qual:Str}{st:Stmt}{f:Addr}{fd:cR}{ps:List Str}(F:Fun K x qual st f fd)
  (h:∀(kV doc pm:ad) (an:Option Addr) (cdv ct:ad) (us:List ad),us.length=ps.length->bindArgs (dW x qual (aX1 st) (aQz st) (aQ3 st) .none kV doc pm an cdv ct) ⟨us,[]⟩=pure (ps.zip us)):Binds K fd ps []:=by
 obtain⟨oc,B,kV,doc,pm,an,cdv,ct,j,rfl,lk,z⟩:=F.ex;exact .all (h kV doc pm an cdv ct)
theorem dQc{x qual:Str}{st:Stmt}{f:Addr}{oc:ad}{od an:Option Addr}{osl:Array (Option ad)}{kV doc pm cdv ct:ad}(l:K.lookup f=some ⟨oc,od,.func (dW x qual (aX1 st) (aQz st) (aQ3 st) .none kV doc pm an cdv ct),osl⟩)
  (c:fE K cdv qual=true) (k:eM K (.ref f)=true):Fun K x qual st f (dW x qual (aX1 st) (aQz st) (aQ3 st) .none kV doc pm an cdv ct):=⟨⟨oc,od,kV,doc,pm,an,cdv,ct,osl,rfl,l,c⟩,k⟩
end
theorem ite2{c A B:Prop}[Decidable c](h1:c->A)(h2:¬ c->B):if c then A else B:=by
 by_cases h:c
 ·rw[if_pos h];exact h1 h
 ·rw[if_neg h];exact h2 h
def Same(H H':Hp):Prop:=∀b o,H b=some o->H' b=some o
end L2
set_option maxHeartbeats 4000000
namespace L2
open PySem PySem.Spec PyProof.Rows
theorem aXa(env:Env):∀(names:List (Str×er)) (acc:List (Str×Addr)),(∀x,(x,aR)∈names->∃c,env.cells.lookup x=some c)->(∀x c,acc.lookup x=some c->env.cells.lookup x=some c) ->
  ∃cl,(forIn names acc λ(y:Str×er) (cs:List (Str×Addr))=>(if (y.2==aR)=true then do let a <- cellOf env y.1;pure (bn ((y.1,a)::cs)) else pure (bn cs):Sem (ForInStep (List (Str×Addr)))))=pure cl /\
   (∀x c,cl.lookup x=some c->env.cells.lookup x=some c)/\(∀x,((x,aR)∈names\/(acc.lookup x).isSome=true)->(cl.lookup x).isSome=true)
 | [],acc,_,z=>⟨acc,by rfl,z,λx h=>by
   rcases h with h|h
   ·cases h
   ·exact h⟩
 |(n,k)::rest,acc,B,z=>by
  by_cases hk:(k==aR)=true
  ·have D:k=aR:=by cases k <;> first|rfl|cases hk
   subst D;obtain⟨c,J⟩:=B n aA;obtain⟨cl,e,h1,h2⟩:=aXa env rest ((n,c)::acc) (λx hx=>B x (au _ hx)) (λx d hx=>by
    simp only[ci] at hx
    by_cases j:(x==n)=true
    ·rw[j] at hx;cases hx;rw[fY j];exact J
    ·rw[fJ.mpr j] at hx;exact z x d hx)
   refine⟨cl,?_,h1,λx hx=>h2 x ?_⟩
   ·rw[gj];have L:cellOf env n=pure c:=by unfold cellOf;rw[J]
    simp only[hk,if_true,L,pure_bind];exact e
   ·rcases hx with hx|hx
    ·rcases aQ.mp hx with hx|hx
     ·cases hx;right;simp
     ·exact .inl hx
    ·right
     simp only[ci];cases x==n <;> simp[hx]
  ·obtain⟨cl,e,h1,h2⟩:=aXa env rest acc (λx hx=>B x (au _ hx)) z;refine⟨cl,?_,h1,λx hx=>h2 x ?_⟩
   ·rw[gj];simp only[hk,if_false,pure_bind,cA];exact e
   ·rcases hx with hx|hx
    ·rcases aQ.mp hx with hx|hx
     ·cases hx;exact absurd rfl hk
     ·exact .inl hx
    ·exact .inr hx
inductive Cap(N:List Str)(sc:Scope):List Str->List (Option Nat)->Prop
 |nil:Cap N sc [] []
 |own {x xs is}:Cap N sc xs is->Cap N sc (x::xs) (none::is)
 |cap {x xs is i}:N[i]?=some x->(x,aR)∈sc.names->Cap N sc xs is->Cap N sc (x::xs) (some i::is)
theorem Cap.length{N:List Str}{sc:Scope}{xs:List Str}{is:List (Option Nat)}(c:Cap N sc xs is):xs.length=is.length:=by
 induction c with
 |nil=>rfl
 |own _ j=>simp[j]
 |cap _ _ _ j=>simp[j]
theorem Cap.get{N:List Str}{sc:Scope}{xs:List Str}{is:List (Option Nat)}(c:Cap N sc xs is):∀{j i:Nat}{x:Str},xs[j]?=some x->is[j]?=some (some i)->N[i]?=some x/\(x,aR)∈sc.names:=by
 induction c with
 |nil=>intro j i x h;simp at h
 |own _ z =>
  intro j i x h1 h2;cases j with
  |zero=>simp at h2
  |succ j=>exact z (by simpa using h1) (by simpa using h2)
 |cap B hf _ z =>
  intro j i x h1 h2;cases j with
  |zero=>simp at h1 h2;subst h1;subst h2;exact⟨B,hf⟩
  |succ j=>exact z (by simpa using h1) (by simpa using h2)
def capt(is:List (Option Nat))(σ:St):St:=is.map λo=>o.bind λi=>(σ[i]?).join
theorem aZl{sc:Scope}{env:Env}:∀{names:List (Str×er)}{x:Str},(names.lookup x=some .cell\/names.lookup x=some .free)->((names.map λ(n,k)=>if (k==aR&&env.scope.kind ==.function&&env.kindOf n==some .cell) then (n,f7) else (n,k)).lookup x=some .cell\/(names.map λ(n,k)=>if (k==aR&&env.scope.kind ==.function&&env.kindOf n==some .cell) then (n,f7) else (n,k)).lookup x=some .free)
 |[],x,h=>by simp at h
 |(n,k)::r,x,h=>by
  simp only[aX]
  by_cases j:(k==aR&&env.scope.kind ==.function&&env.kindOf n==some .cell)=true
  ·rw[if_pos j];simp only[ci] at h ⊢;cases hx:x==n with
   |true=>exact .inl rfl
   |false=>rw[hx] at h;exact aZl (sc:=sc) h
  ·rw[if_neg j];simp only[ci] at h ⊢;cases hx:x==n with
   |true=>rw[hx] at h;exact h
   |false=>rw[hx] at h;exact aZl (sc:=sc) h
theorem aXb{sc:Scope}{env:Env}:∀{names:List (Str×er)}{x:Str},((names.map λ(n,k)=>if (k==aR&&env.scope.kind ==.function&&env.kindOf n==some .cell) then (n,f7) else (n,k)).lookup x=some .cell\/(names.map λ(n,k)=>if (k==aR&&env.scope.kind ==.function&&env.kindOf n==some .cell) then (n,f7) else (n,k)).lookup x=some .free)->names.lookup x=some .cell\/names.lookup x=some .free
 |[],x,h=>by simp at h
 |(n,k)::r,x,h=>by
  simp only[aX] at h
  by_cases j:(k==aR&&env.scope.kind ==.function&&env.kindOf n==some .cell)=true
  ·rw[if_pos j] at h;simp only[ci] at h ⊢;cases hx:x==n with
   |true =>
    right
    have:k==aR:=by
     simp only[a4] at j;exact j.1.1
    cases k <;> first|rfl|cases this
   |false=>rw[hx] at h;exact aXb (sc:=sc) h
  ·rw[if_neg j] at h;simp only[ci] at h ⊢;cases hx:x==n with
   |true=>rw[hx] at h;exact h
   |false=>rw[hx] at h;exact aXb (sc:=sc) h
theorem aJ9{α β:Type}[BEq α][LawfulBEq α]:∀{l:List (α×β)}{x:α}{k:β},l.lookup x=some k->(x,k)∈l
 |(n,j)::r,x,k,h=>by
  simp only[ci] at h;cases hx:x==n with
  |true=>rw[hx] at h;cases h;rw[fY hx];exact aA
  |false=>rw[hx] at h;exact au _ (aJ9 h)
def PTs(X:Cx)(ifs:List Expr)(t:TT):Prop :=
 ∀(pins:List (Addr×Obj)) (s:ah) (σ:St) (H:Hp) (Q:Bool->Hp->Prop),Inv X pins σ H s->t σ H Q ->
  aF (az X.prog X.w) X.A (forIn ifs true λc r=>if r=true then do let ok <- isTrue c X.env (eval c X.env);pure (bn ok) else pure (bn r)) (TP X pins σ Q) X.xe s
def tYes:TT:=λ_ H Q=>Q true H
theorem dZf{X:Cx}:PTs X [] tYes:=λpins s σ H Q I h=>wpAny_tests_nil ⟨H,I,h⟩
theorem dZg{X:Cx}{c:Expr}{t:TT}(h:PT X c t):PTs X [c] t:=λpins s σ H Q I q=>wpAny_tests_one (h pins s σ H Q I q)
def Wk(σ0 σ2:St):Prop:=σ2.length=σ0.length/\∀(j:Nat) v,σ0[j]?=some (some v)->σ2[j]?=some (some v)
def okV(names outer:List (Str×er)):Bool:=names.all λy=>match y.2 with
 |.free=>match outer.lookup y.1 with
  |some .cell=>true
  |some .free=>true
  |_=>false
 |_=>true
theorem dQd{names:List (Str×er)}{sc:Scope}(h:okV names sc.names=true):∀y∈names,y.2=.free->Vis sc y.1/\sc.names.lookup y.1≠some .local:=λy j hf=>by
 have:=bI.mp h y j
 rw[hf] at this;unfold Vis;cases q:sc.names.lookup y.1 with
 |none=>rw[q] at this;cases this
 |some k=>rw[q] at this;cases k <;> first|(simp;done)|cases this
structure Bs(mg:Str->Option ad):Prop where
 len:mg "len"=none
 range:mg "range"=none
 sorted:mg "sorted"=none
 tuple:mg "tuple"=none
 list:mg "list"=none
 set:mg "set"=none
 sum:mg "sum"=none
 min:mg "min"=none
 max:mg "max"=none
 all:mg "all"=none
 any:mg "any"=none
 isinstance:mg "isinstance"=none
 int:mg "int"=none
 str:mg "str"=none
 bool:mg "bool"=none
 zip:mg "zip"=none
 enumerate:mg "enumerate"=none
theorem eQi:bg "len"=some (.builtin "len"):=by decide +kernel
theorem aJa:bg "sorted"=some (.builtin "sorted"):=by decide +kernel
theorem eQj:bg "min"=some (.builtin "min"):=by decide +kernel
theorem eQk:bg "max"=some (.builtin "max"):=by decide +kernel
theorem eQl:bg "all"=some (.builtin "all"):=by decide +kernel
theorem dQe:bg "any"=some (.builtin "any"):=by decide +kernel
theorem bQ6:bg "isinstance"=some (.builtin "isinstance"):=by decide +kernel
theorem aXz:bg "tuple"=some (.type "tuple"):=by decide +kernel
theorem cQi:bg "list"=some (.type "list"):=by decide +kernel
theorem eQm:bg "int"=some (.type "int"):=by decide +kernel
theorem cQj:bg "bool"=some (.type "bool"):=by decide +kernel
structure Df(P:aC)(w:aL)(K:ap)(mg:Str->Option ad)(base:aY)(k:Nat)(x:Str)(ps:List Str)(sp:Sp):Prop where
 ex:∃(f:Addr) (fd:cR),FnOk P w K mg base CX0 k f fd ps sp/\Binds K fd ps []/\eM K (.ref f)=true/\mg x=some (.ref f)
theorem Df.mono{P:aC}{w:aL}{K:ap}{mg:Str->Option ad}{base:aY}{j k:Nat}{x:Str}{ps:List Str}{sp:Sp}(D:Df P w K mg base j x ps sp)(h:j<=k):Df P w K mg base k x ps sp:=by
 obtain⟨f,fd,a,b,c,d⟩:=D.ex;exact⟨f,fd,a.mono h,b,c,d⟩
theorem cJ5{X:Cx}{k:Nat}{x:Str}{ps:List Str}{sp:Sp}{p pos:Pos}{e:Expr}{es:List Expr}{t:TA}(D:Df X.prog X.w X.K X.mg X.base k x ps sp)(hr:Room k X.A)(hg:Gl X x)(ha:PA X (e::es) t)
  (hdb:(x==("__debug__":Str))=false:=by decide) (he:av (e::es) X.env=(false,eval e X.env)::av es X.env:=by rfl) (hpl:(bZ pos (av es X.env)).any (·.1)=false:=by rfl) :
  PE X (.Call (.Name x p) (e::es) [] pos) (eQb sp [] E0 t):=by
 obtain⟨f,fd,F,z,j,hm⟩:=D.ex;exact dZ8 F hr hg hm j z .nil eJj ha hdb he hpl
structure Tx(K:ap)(mg:Str->Option ad)(x:Str)(st:Stmt):Prop where
 ex:∃(f:Addr) (fd:cR),Fun K x x st f fd/\mg x=some (.ref f)
theorem Tx.df{P:aC}{w:aL}{K:ap}{mg:Str->Option ad}{base:aY}{k:Nat}{x:Str}{st:Stmt}{ps:List Str}{sp:Sp}(T:Tx K mg x st)
  (b:∀{f:Addr}{fd:cR},Fun K x x st f fd->Binds K fd ps []) (h:∀{f:Addr}{fd:cR},Fun K x x st f fd->FnOk P w K mg base CX0 k f fd ps sp):Df P w K mg base k x ps sp:=by
 obtain⟨f,fd,F,m⟩:=T.ex;exact⟨f,fd,h F,b F,F.kp,m⟩
theorem tx_mk{K:ap}{h:aY}{mg:Str->Option ad}{x:Str}{st:Stmt}{f:Addr}{od an:Option Addr}{sl:Array (Option ad)}{oc kV dc pm cd ct:ad}(X:K.In h)(G:h.Ns aP mg)
  (a:bh K aP x=some (some (.ref f))) (l:K.lookup f=some ⟨oc,od,.func (dW x x (aX1 st) (aQz st) (aQ3 st) .none kV dc pm an cd ct),sl⟩) (c:fE K cd x=true) (k:eM K (.ref f)=true):Tx K mg x st :=
 ⟨f,_,dQc (st:=st) l c k,jo X G a⟩
theorem bs_mk{K:ap}{h:aY}{mg:Str->Option ad}(X:K.In h)(G:h.Ns aP mg)(a:∀x∈(["len", "range", "sorted", "tuple", "list", "set", "sum", "min", "max", "all", "any", "isinstance", "int", "str", "bool", "zip", "enumerate"]:List Str),bh K aP x=some none):Bs mg:=by
 have q:∀x∈(["len", "range", "sorted", "tuple", "list", "set", "sum", "min", "max", "all", "any", "isinstance", "int", "str", "bool", "zip", "enumerate"]:List Str),mg x=none:=λx j=>PySem.W.mg_none_of X G (a x j);constructor <;> exact q _ (by decide +kernel)
theorem bs_all{K:ap}(z1:bh K aP "len"=some none)(z2:bh K aP "range"=some none)(z3:bh K aP "sorted"=some none)(z4:bh K aP "tuple"=some none)(z5:bh K aP "list"=some none)(z6:bh K aP "set"=some none)
  (z7:bh K aP "sum"=some none) (z8:bh K aP "min"=some none) (z9:bh K aP "max"=some none) (z10:bh K aP "all"=some none) (z11:bh K aP "any"=some none) (z12:bh K aP "isinstance"=some none)
  (z13:bh K aP "int"=some none) (z14:bh K aP "str"=some none) (z15:bh K aP "bool"=some none) (z16:bh K aP "zip"=some none) (z17:bh K aP "enumerate"=some none) :
  ∀x∈(["len", "range", "sorted", "tuple", "list", "set", "sum", "min", "max", "all", "any", "isinstance", "int", "str", "bool", "zip", "enumerate"]:List Str),bh K aP x=some none:=λx j=>by
 simp only[aQ,eW,or_false] at j;rcases j with rfl|rfl|rfl|rfl|rfl|rfl|rfl|rfl|rfl|rfl|rfl|rfl|rfl|rfl|rfl|rfl|rfl <;> assumption
theorem eJk{X:Cx}{x:Str}{n:String}{pos:Pos}(hg:Gl X x)(hm:X.mg x=none)(hv:bg x=some (.type n))(hn:x ≠ "__name__":=by decide)(hd:(x==("__debug__":Str))=false:=by decide):PE X (.Name x pos) (tC (.ty n)) :=
 dQz hg hm hv (show RelV (.ty n) (.type n) from rfl) hn hd
def subT(t T:String):Option Bool:=if t=T then some true else
  (([("bool", "int", true), ("int", "bool", false), ("str", "int", false), ("str", "bool", false), ("str", "tuple", false), ("tuple", "str", false), ("tuple", "int", false), ("tuple", "bool", false), ("NoneType", "str", false), ("NoneType", "tuple", false), ("NoneType", "int", false), ("NoneType", "bool", false),
    ("int", "str",false),("int", "tuple",false),("bool", "str",false),("bool", "tuple",false),("list", "tuple",false),("list", "str",false),("tuple", "list",false),("int", "list",false),("str", "list",false),("list", "int",false),("list", "bool",false)]:List (String×String×Bool)).find? λr=>r.1==t&&r.2.1==T).map (·.2.2)
theorem cQk{K:ap}{t T:String}{b:Bool}(h:subT t T=some b):gK K (.type t) (.type T)=some b:=by
 unfold subT at h
 by_cases e:t=T
 ·rw[if_pos e] at h;cases h;subst e;unfold gK;rw[if_pos (by exact beq_self_eq_true _)]
 ·rw[if_neg e] at h;rw[a8] at h;obtain⟨r,j,rfl⟩:=h;have h1:=List.find?_some j;have h2:=List.mem_of_find?_eq_some j;simp only[a4,beq_iff_eq] at h1;obtain⟨rfl,rfl⟩:=h1;simp only[aQ,eW,or_false] at h2;rcases h2 with rfl|rfl|rfl|rfl|rfl|rfl|rfl|rfl|rfl|rfl|rfl|rfl|rfl|rfl|rfl|rfl|rfl|rfl|rfl|rfl|rfl|rfl|rfl <;> first|rfl|(unfold gK PySem.W.kitCls PySem.W.subIn;kernel_rfl)|kernel_rfl
def rIsi(K:ap):List V->Hp->VK->Prop:=λxs H Q=>∃x T t b,xs=[x,.ty T]/\TyOf K H x (.type t)/\subT t T=some b/\Q (.bl b) H
theorem call_isi{X:Cx}:CallR X (.builtin "isinstance") (rIsi X.K):=by
 intro pins s σ H xs us Q I z h;obtain⟨x,T,t,b,rfl,ty,e,q⟩:=h;obtain⟨u,c,rfl,B,rc⟩:=z.two;cases rc;exact cQ7 I B ty (cQk e) λj=>⟨.bl b,H,I.tok j,rfl,q⟩
end L2
set_option maxHeartbeats 1000000
namespace L2
open PySem PySem.Spec PyProof.Rows
def bQ7(ifs:List Expr)(env:Env):Sem Bool:=forIn ifs true λc r=>if r=true then do let ok <- isTrue c env (eval c env);pure (bn ok) else pure (bn r)
def aZ2(target:Expr)(ifs:List Expr)(at0:Pos)(m:Sem Unit)(c:Code)(it:ad)(env:Env):Sem Fin :=
 fh at0>>=λ_=>fj it>>=λr=>match r with
  |none=>pure (.done .next)
  |some v=>ej target it v>>=λ_=>assign target env v>>=λ_=>bQ7 ifs env>>=λok=>if ok=true then m>>=λ_=>again c else again c
def emitOf(elt:Expr)(acc:ad)(env:Env):Sem Unit:=eval elt env>>=λx=>call (.builtin "list.append") [acc,x]>>=λ_=>pure ()
def innerOf(e:Expr)(iter:Expr)(acc:ad)(env:Env):Sem Unit:=eval iter env>>=λx=>fh iter.pos>>=λ_=>cu iter env x>>=λx=>fg [x] (pyIter x)>>=λit=>runOwn (.compStart e 1 it acc env) env>>=λ_=>pure ()
theorem aQd(elt target iter:Expr)(ifs:List Expr)(scope:Scope)(pos:Pos)(it acc:ad)(env:Env) :
  eP (.ListComp elt [⟨target,iter,ifs,0⟩] scope pos) 0 it acc env=aZ2 target ifs iter.pos (emitOf elt acc env) (.compLoop (.ListComp elt [⟨target,iter,ifs,0⟩] scope pos) 0 it acc env) it env:=by
 rw[compTurn_list];unfold aZ2 bQ7 emitOf;refine congrArg _ (funext λ_=>congrArg _ (funext λr=>?_));cases r with
 |none=>rfl
 |some v =>
  refine congrArg _ (funext λ_=>congrArg _ (funext λ_=>congrArg _ (funext λok=>?_)));cases ok <;> rfl
abbrev TB:=St->Hp->(Hp->Prop)->Prop
def PB(X:Cx)(m:Sem Unit)(t:TB):Prop :=
 ∀(pins:List (Addr×Obj)) (s:ah) (σ:St) (H:Hp) (N:Hp->Prop),Inv X pins σ H s->t σ H N ->
  aF (az X.prog X.w) X.A m (λ_ s'=>∃σ' H',Inv X pins σ' H' s'/\Wk σ σ'/\N H') (λ_ _=>False) s
def eQn(D:Addr)(te:TE):TB:=fun σ H N=>te σ H λy H4=>∃zs,H4 D=some (.lst zs)/\zs.length<sizeLine/\N (upd H4 D (.lst (zs++[y])))
def bZu(J:It)(σ0:St)(g:TG)(tt:TT)(tb:TB)(Q:Hp->Prop)(H:Hp):Prop :=
 ∃W:Nat->Nat->Hp->Prop,(∃m,W 0 m H)/\∀i m H,W i m H ->
  (J.stop i H/\Q H)\/(J.go i H/\∃ N:Hp->Prop,(∀ H',N H'->∃ m',m' < m/\W (i + 1) m' H') /\
   ∀x H',J.yld i H x H'->g x σ0 H' fun σ2 H2=>Wk σ0 σ2/\tt σ2 H2 λb H3=>if b=true then tb σ2 H3 N else N H3)
def dQf(wi:TI)(g:TG)(tt:TT)(tb:TB):TB:=fun σ H N=>wi σ H λJ H1=>bZu J σ g tt tb N H1
def cQl(is:List (Option Nat))(wi:TI)(g:TG)(tt:TT)(tb:Addr->TB):TE:=fun σ H Q=>wi σ H λJ H1=>∀D,H1 D=none->bZu J (capt is σ) g tt (tb D) (Q (.ref D)) (upd H1 D (.lst []))
theorem Wk.refl(σ:St):Wk σ σ:=⟨rfl,λ_ _ h=>h⟩
theorem Wk.trans{a b c:St}(h:Wk a b)(k:Wk b c):Wk a c:=⟨k.1.trans h.1,λj v e=>k.2 j v (h.2 j v e)⟩
theorem eJl{σ:St}{i:Nat}{v:V}(h:σ[i]?=some none):Wk σ (σ.set i (some v)):=by
 refine⟨List.length_set,λj u e=>?_⟩
 by_cases z:j=i
 ·subst z;rw[h] at e;cases e
 ·rw[eK (cy z)];exact e
section
variable{X:Cx}
theorem aQj{elt:Expr}{te:TE}{D:Addr}(hxe:X.xe=λ_ _=>False)(he:PE X elt te):PB X (emitOf elt (.ref D) X.env) (eQn D te):=by
 intro pins s σ H N I h;unfold emitOf;have h1:=he pins s σ H _ I h;rw[hxe] at h1;refine aa (thn h1 λy s1 ⟨v,H1,O,z,zs,J,j,n⟩=>aa ?_);have h2:=bQy pins s1 σ H1 (.ref D) [v] (.ref D) [y] (λu U=>u=.non/\N U) O rfl (.cons z .nil) ⟨D,zs,v,rfl,rfl,J,j,rfl,n⟩;rw[hxe] at h2;exact thn h2 λ_ s2 ⟨u,H2,L,_,_,B⟩=>af ⟨σ,H2,L,Wk.refl σ,B⟩
theorem bQ8{e target:Expr}{ifs:List Expr}{at0:Pos}{d:Nat}{acc:ad}{it:Addr}{m:Sem Unit}{g:TG}{tt:TT}{tb:TB}{J:It}{fp:List Addr}{tn:Nat->aY->Prop}{Q:Hp->Prop}{R:Result->ah->Prop}{pins:List (Addr×Obj)}{s:ah}{σ:St}{H:Hp}
  (hcalm:X.calm=true) (hxe:X.xe=λ_ _=>False) (hturn:eP e d (.ref it) acc X.env=aZ2 target ifs at0 m (.compLoop e d (.ref it) acc X.env) (.ref it) X.env)
  (hfr:(f8 e d (.ref it) acc X.env).isFrame=false) (hA:X.A.under (f8 e d (.ref it) acc X.env)=X.A)
  (T:Turn X.prog X.w X.K target J fp it tn) (hg:PG X target g) (ht:PTs X ifs tt) (hb:PB X m tb)
  (I:Inv X pins σ H s) (st:tn 0 s.heap) (f:∀b∈fp,FpOk X pins H b) (h:bZu J σ g tt tb Q H)
  (fin:∀H' s',Inv X pins σ H' s'->(∀b∈fp,FpOk X pins H' b)->Q H'->R (.ok .next) s') :
  eF (az X.prog X.w) X.A (.compLoop e d (.ref it) acc X.env) R s:=by
 obtain⟨W,⟨m0,w0⟩,turn⟩:=h;have j:∀{H':Hp},(∀b∈fp,H' b=none)->∀b∈fp,FpOk X pins H' b:=λhn b hb=>⟨hn b hb,(f b hb).2⟩;refine codeAny_loop rfl (λn s'=>∃i H',Inv X pins σ H' s'/\tn i s'.heap/\(∀b∈fp,H' b=none)/\W i n H') ?_ m0 ⟨0,H,I,st,λb hb=>(f b hb).1,w0⟩;rintro n s3 ⟨i,H3,I3,Y,L,w3⟩;have eden:(az X.prog X.w).den (.compLoop e d (.ref it) acc X.env)=(eP e d (.ref it) acc X.env).onRaise (λx=>do noteFrame x X.env;theTreesLotGoes x):=by
  show(if (f8 e d (.ref it) acc X.env).isFrame=true then _ else _)=_
  rw[hfr];rfl
 rw[eden,hturn,hA];refine wpAny_noted ?_;unfold aZ2;refine aa (e8 ?_);rcases turn i n H3 w3 with⟨stop,qn⟩|⟨go,N,hN,step⟩
 ·refine aa (thn (T.done X rfl rfl rfl hcalm i pins s3 σ H3 _ I3 (j L) Y stop) λr s4 ⟨hr,I4⟩=>?_);subst hr;exact af (fin H3 s4 I4 (j L) qn)
 ·refine aa (thn (T.item X rfl rfl rfl hcalm i pins s3 σ H3 _ I3 (j L) Y go) λr s4 ⟨u,hr,h4⟩=>?_);subst hr;refine aa (thn h4 λ_ s5 ⟨x,H5,I5,r5,y5,D,fr5⟩=>?_);have I5':=I5.pinned (j fr5) (T.obj _ _ D);have q5:=hg _ s5 σ H5 x u _ I5' r5 (step x H5 y5);rw[hxe] at q5;refine aa (cr q5 (λ_ s6 ⟨σ6,H6,I6,U,q6⟩=>?_) λ_ _ z=>z.elim);have q7:=ht _ s6 σ6 H6 _ I6 q6;rw[hxe] at q7;refine aa (cr q7 (λok s7 ⟨H7,I7,q7⟩=>?_) λ_ _ z=>z.elim);have B:∀{σ8:St}{O:Hp}{Z:ah},Inv X (pins++bQu fp s5.heap) σ8 O Z->Wk σ σ8->N O->∃m,m<n/\∃i H',Inv X pins σ H' Z/\tn i Z.heap/\(∀b∈fp,H' b=none)/\W i m H':=λ{σ8 O Z} I8 wk n8=>by
   obtain⟨m',hm,w8⟩:=hN O n8;refine⟨m',hm,i+1,O,I8.unpinned.weak wk.1.symm wk.2,T.keep _ _ _ D λb hb o e=>(I8.pin (b,o) (bb _ (bb _ (aZr hb e)))).1,λb hb=>?_,w8⟩;obtain⟨o,e,_⟩:=T.obj _ _ D b hb;exact(I8.pin (b,o) (bb _ (bb _ (aZr hb e)))).2.1
  cases ok with
  |false=>exact af ⟨rfl,B I7 U q7⟩
  |true =>
   refine aa (cr (hb _ s7 σ6 H7 N I7 q7) (λ_ Z ⟨σ8,O,I8,wk8,n8⟩=>?_) λ_ _ z=>z.elim);exact af ⟨rfl,B I8 (U.trans wk8) n8⟩
end
section
variable{X:Cx}
theorem cQm{e target iter:Expr}{ifs:List Expr}{it acc:ad}{env:Env}{A:aO}{prog:aC}{w:aL}{R:Result->ah->Prop}{s:ah}(hc:(clausesOf e)[1]?=some ⟨target,iter,ifs,0⟩)(hfr:(fK e 1 it acc env).isFrame=false)(hA:A.under (fK e 1 it acc env)=A)
  (h0:eF (az prog w) A (.compLoop e 1 it acc env) R s)
  (h:aF (az prog w) A (pyIter it) (λit' s'=>eF (az prog w) A (.compLoop e 1 it' acc env) R s') (notedBy (az prog w) A env λx s'=>R (.error x) s') s) :
  eF (az prog w) A (.compStart e 1 it acc env) R s:=by
 refine codeAny_of_tree ?_;have j:(az prog w).den (.compStart e 1 it acc env)=(compStart e 1 it acc env).onRaise (λx=>do noteFrame x env;fh theWindowsPlace):=by
  show(if (fK e 1 it acc env).isFrame=true then _ else _)=_
  rw[hfr];rfl
 rw[j,hA];refine wpAny_notedAt ?_;unfold compStart;rw[hc];simp only[Option.elim,bne_self_eq_false,cA,if_false];refine aa (da (wpAny_ite ?_))
 split
 ·first
   |exact aa (af (af (iA rfl h0)))
   |exact af (iA rfl h0)
 ·refine aa (cJ ?_);refine aa (e8 (aa (cr h (λit' s' h'=>af (iA rfl h')) λ_ _ x=>x)))
theorem cJ6{e t2 i2:Expr}{ifs2:List Expr}{acc:ad}{m:ad->Sem Unit}{wi:TI}{g:TG}{tt:TT}{tb:TB}(hcalm:X.calm=true)(hxe:X.xe=λ_ _=>False)(hc:(clausesOf e)[1]?=some ⟨t2,i2,ifs2,0⟩)
  (hturn:∀it,eP e 1 (.ref it) acc X.env=aZ2 t2 ifs2 i2.pos (m acc) (.compLoop e 1 (.ref it) acc X.env) (.ref it) X.env)
  (hi:PI X t2 i2 wi) (hg:PG X t2 g) (ht:PTs X ifs2 tt) (hb:PB X (m acc) tb)
  (hs:∀x,cu i2 X.env x=pure x) (hfr:∀it,(fK e 1 it acc X.env).isFrame=false) (hfr2:∀it,(f8 e 1 it acc X.env).isFrame=false)
  (hA:∀it,X.A.under (fK e 1 it acc X.env)=X.A) (hA2:∀it,X.A.under (f8 e 1 it acc X.env)=X.A) :
  PB X (innerOf e i2 acc X.env) (dQf wi g tt tb):=by
 intro pins s σ H N I h;unfold innerOf;have h1:=hi pins s σ H _ I h;rw[hxe] at h1;refine aa (thn h1 λv s1 B=>aa (e8 (aa (wpAny_of_eq (hs v) (aa (bM (thn B λD s2 z=>?_)))))));obtain⟨it,Y,U,J,H2,rfl,L,T,j,f2,z⟩:=z;refine aa (wpAny_runOwn ?_);have loop:eF (az X.prog X.w) X.A (.compLoop e 1 (.ref it) acc X.env) (λr s'=>match r with
   |.ok f=>aF (az X.prog X.w) X.A (pure ()) (λ_ s'=>∃σ' H',Inv X pins σ' H' s'/\Wk σ σ'/\N H') (λ_ _=>False) s'
   |.error x=>cameBackBy (az X.prog X.w) X.A X.env (λ_ _=>False) x s') s2 :=
  bQ8 hcalm hxe (hturn it) (hfr2 _) (hA2 _) T hg ht hb L j f2 z λH' s' O _ n=>af ⟨σ,H',O,Wk.refl σ,n⟩
 exact cQm hc (hfr _) (hA _) loop (T.self _ 0 _ _ _ j loop)
end
theorem aXc(env:Env):∀(names:List (Str×er)) (acc:List (Str×Addr)),(∀x,(x,aR)∈names->∃c,env.cells.lookup x=some c) ->
  ∃cl,(forIn names acc λ(y:Str×er) (cs:List (Str×Addr))=>(if (y.2==aR)=true then do let a <- cellOf env y.1;pure (bn ((y.1,a)::cs)) else pure (bn cs):Sem (ForInStep (List (Str×Addr)))))=pure cl /\
   (∀x c,cl.lookup x=some c->(x,aR)∈names\/acc.lookup x=some c)
 |[],acc,_=>⟨acc,by rfl,λ_ _ h=>.inr h⟩
 |(n,k)::rest,acc,B=>by
  by_cases hk:(k==aR)=true
  ·have D:k=aR:=by cases k <;> first|rfl|cases hk
   subst D;obtain⟨c,J⟩:=B n aA;obtain⟨cl,e,h1⟩:=aXc env rest ((n,c)::acc) (λx j=>B x (au _ j));refine⟨cl,?_,λx d j=>?_⟩
   ·rw[gj];have L:cellOf env n=pure c:=by unfold cellOf;rw[J]
    simp only[hk,if_true,L,pure_bind];exact e
   ·rcases h1 x d j with z|z
    ·exact .inl (au _ z)
    ·simp only[ci] at z;cases hxn:x==n with
     |true=>rw[fY hxn];exact .inl aA
     |false=>rw[hxn] at z;exact .inr z
  ·obtain⟨cl,e,h1⟩:=aXc env rest acc (λx j=>B x (au _ j));refine⟨cl,?_,λx d j=>?_⟩
   ·rw[gj];simp only[hk,if_false,pure_bind,cA];exact e
   ·rcases h1 x d j with z|z
    ·exact .inl (au _ z)
    ·exact .inr z
theorem aZw{env:Env}{scope:Scope}(hn:∀x,(x,aR)∈scope.names->∃c,env.cells.lookup x=some c) :
  ∃cl,gQ scope env=pure cl/\(∀x c,cl.lookup x=some c->env.cells.lookup x=some c)/\(∀x,(x,aR)∈scope.names->(cl.lookup x).isSome=true)/\∀x c,cl.lookup x=some c->(x,aR)∈scope.names:=by
 obtain⟨cl,e,h1,h2⟩:=aXa env scope.names [] hn (λx c h=>by cases h)
 obtain⟨cl',J,B⟩:=aXc env scope.names [] hn;have D:cl=cl':=by
  have:=e.symm.trans J
  injection this
 subst D;refine⟨cl,?_,h1,λx j=>h2 x (.inl j),λx c j=>(B x c j).elim id λz=>by cases z⟩
 have q:gQ scope env=(forIn scope.names ([]:List (Str×Addr)) λ(y:Str×er) (cs:List (Str×Addr))=>(if (y.2==aR)=true then do let a <- cellOf env y.1;pure (bn ((y.1,a)::cs)) else pure (bn cs):Sem (ForInStep (List (Str×Addr))))):=by
  unfold gQ;exact bind_pure _
 rw[q,e]
def ocl(oc:Option Str)(c:Addr)(cl:List (Str×Addr)):List (Str×Addr):=match oc with
 |none=>cl
 |some x=>(x,c)::cl
def ohp(oc:Option Str)(h:aY):aY:=match oc with
 |none=>h
 |some _=>h.push {cls:=.type "cell",data:=.cell none}
theorem aJb{oc:Option Str}{c d:Addr}{cl:List (Str×Addr)}{x:Str}(h:(ocl oc c cl).lookup x=some d):(oc=some x/\d=c)\/cl.lookup x=some d:=by
 cases oc with
 |none=>exact .inr h
 |some z =>
  unfold ocl at h;simp only[ci] at h;cases hx:x==z with
  |true=>rw[hx] at h;cases h;rw[fY hx];exact .inl ⟨rfl,rfl⟩
  |false=>rw[hx] at h;exact .inr h
theorem bXj{oc:Option Str}{c:Addr}{cl:List (Str×Addr)}{x:Str}(h:(cl.lookup x).isSome=true):∃d,(ocl oc c cl).lookup x=some d:=by
 cases oc with
 |none=>exact de.mp h
 |some z =>
  unfold ocl;simp only[ci];cases hx:x==z with
  |true=>exact⟨_,rfl⟩
  |false=>exact de.mp h
theorem dZh{c:Addr}{cl:List (Str×Addr)}{x:Str}:(ocl (some x) c cl).lookup x=some c:=by unfold ocl;simp
theorem aJ0{oc:Option Str}{h:aY}{b:Addr}{o:Obj}(e:h.get? b=some o):(ohp oc h).get? b=some o:=by
 cases oc with
 |none=>exact e
 |some _=>exact ae _ e
def aQc(X:Cx)(N':List Str)(scope:Scope)(cl:List (Str×Addr))(C:Addr)(fp:List Addr)(s:ah)(H:Hp)(oc:Option Str):Cx :=
 {X with N:=N',s₀:=s,H₀:=H,env:=iB scope cl C X.env,outer:=X.stack,ex:=fp,fn:=λx=>decide (oc=some x),pn:=[],xe:=λ_ _=>False}
theorem cQn{scope:Scope}{env:Env}{cl:List (Str×Addr)}{M:Model}{A:aO}{E:ad->ah->Prop}{s:ah}{Q:Env->ah->Prop}
  (h:Q {scope:=scope,locals:=s.heap.objs.size,globals:=env.globals,cells:=eV (s.heap.objs.size+1) scope.names cl,qual:=env.qual,func:=none,code:=env.code,frame:=env.frame,builtins:=env.builtins} {s with heap:=gD (s.heap.push {cls:=.type "dict",data:=.dict #[]}) scope.names}) :
  aF M A (newFunctionEnv scope env.globals cl [] env.qual none .none (some env)) Q E s:=by
 unfold newFunctionEnv;simp only[Option.isSome_some,if_true];refine aa (wpAny_alloc ?_);refine aa (wpAny_layCells _ (λname kind cells=>by cases hkc:kind==f7 <;> simp[hkc]) _ _ _ _ ?_)
 rw[show({s with heap:=s.heap.push {cls:=.type "dict",data:=.dict #[]}}:ah).heap.objs.size=s.heap.objs.size+1 from d5 ..]
 exact aa (af (af h))
section
variable{X:Cx}{pins:List (Addr×Obj)}{σ:St}{H H':Hp}{s s2:ah}
theorem aJu{N':List Str}{scope:Scope}{cl:List (Str×Addr)}{fp:List Addr}{oc:Option Str}(I:Inv X pins σ H s)(hf:∀b∈fp,FpOk X pins H b)(hfl:∀b∈fp,b<s.heap.objs.size)(hkind:scope.kind=.function)
  (c1:∀x c,cl.lookup x=some c->X.env.cells.lookup x=some c) (c2:∀x,(x,aR)∈scope.names->(cl.lookup x).isSome=true) (hcell:∀y∈scope.names,y.2=.cell->oc=some y.1) (hun:∀x,oc=some x->cl.lookup x=none) :
  (aQc X N' scope (ocl oc (s.heap.objs.size+1) cl) s.heap.objs.size fp s H oc).Ok where
 mod:=I.ok.mod
 kind:=hkind
 glob:=I.ok.glob
 blt:=I.ok.blt
 above:=Nat.le_refl _
 inj:=λx y c h1 h2=>by
  have old:∀z,cl.lookup z=some (s.heap.objs.size+1)->False:=λz e=>by
   obtain⟨v,q⟩:=I.cell z _ (c1 z _ e);exact absurd (show s.heap.objs.size+1<s.heap.objs.size from q.lt) (Nat.not_lt.mpr (Nat.le_succ _))
  rcases aJb h1 with⟨J,rfl⟩|J <;> rcases aJb h2 with⟨D,e⟩|D
  ·rw[J] at D;exact aM D
  ·exact(old y D).elim
  ·subst e;exact(old x J).elim
  ·exact I.ok.inj x y c (c1 x c J) (c1 y c D)
 has:=λx L=>by
  have j:scope.names.lookup x=some .cell\/scope.names.lookup x=some .free:=aXb (sc:=scope) L;rcases j with j|j
  ·have e:=hcell _ (aJ9 j) rfl;subst e;exact⟨_,dZh⟩
  ·exact bXj (c2 x (aJ9 j))
 cab:=λx c h N=>by
  have h':oc=some x:=of_decide_eq_true h;rcases aJb N with⟨_,rfl⟩|e
  ·exact Nat.le_succ _
  ·rw[hun x h'] at e;cases e
 hd:=I.ok.hd
 frames:=I.ok.frames
 gd:=I.ok.gd
 stk:=.inl rfl
 exf:=λb B=>⟨Nat.ne_of_lt (hfl b B),λx c e=>by
  rcases aJb e with⟨_,rfl⟩|e
  ·intro z;exact absurd (show s.heap.objs.size+1<s.heap.objs.size from z▸hfl b B) (Nat.not_lt.mpr (Nat.le_succ _))
  ·exact(hf b B).2.2.2.2.1 x c (c1 x c e)⟩
 bs:=I.bs
 bsz:=Nat.le_trans I.ok.bsz I.sz
 noex:=λb o e B=>by
  rcases(hf b B).2.2.2.1 with z|z
  ·exact I.ok.noex b o e z
  ·have q:=I.ok.bs b o e;exact absurd (Nat.lt_of_lt_of_le (aD q.1) z) (Nat.lt_irrefl _)
 exfs:=λb B z=>by
  rcases aQ.mp (I.stkSub b z) with e|e
  ·exact(hf b B).2.1 e
  ·exact(hf b B).2.2.1 e
 funs:=I.stack
 frf:=I.stkFree
theorem aJc{N':List Str}{is:List (Option Nat)}{scope:Scope}{cl:List (Str×Addr)}{fp:List Addr}{oc:Option Str}(I:Inv X pins σ H s)(ok:(aQc X N' scope (ocl oc (s.heap.objs.size+1) cl) s.heap.objs.size fp s H oc).Ok)(hN:X.N.Nodup)
  (c1:∀x c,cl.lookup x=some c->X.env.cells.lookup x=some c) (c2:∀x,(x,aR)∈scope.names->(cl.lookup x).isSome=true) (hu:∀x,(x,aR)∈scope.names->scope.names.lookup x=some .free) (cp:Cap X.N scope N' is)
  (hV:∀x,(x,aR)∈scope.names->Vis X.env.scope x/\X.env.scope.names.lookup x≠some .local) (hun:∀x,oc=some x->cl.lookup x=none) :
  Inv (aQc X N' scope (ocl oc (s.heap.objs.size+1) cl) s.heap.objs.size fp s H oc) [] (capt is σ) H {s with heap:=ohp oc (s.heap.push {cls:=.type "dict",data:=.dict #[]})}:=by
 have kp:∀b o,s.heap.get? b=some o->(ohp oc (s.heap.push {cls:=.type "dict",data:=.dict #[]})).get? b=some o:=λb o e=>aJ0 (ae _ e);exact {
 ok:=ok
 os:=rfl
 bare:=I.bare
 base:=Un.kept kp
 loc:=by
  refine⟨_,(aY.Ns.new s.heap (.type "dict")).keeps λb o e=>aJ0 e,λj x v e1 e2 e3=>?_⟩;have Z:N'[j]?=some x:=e1;unfold capt at e2;rw[aK] at e2;cases hi:is[j]? with
  |none=>rw[hi] at e2;cases e2
  |some o =>
   rw[hi] at e2;cases o with
   |none=>cases e2
   |some i =>
    obtain⟨hx,B⟩:=cp.get Z hi;have e2':(σ[i]?).join=some v:=aM e2;have e4:σ[i]?=some (some v):=by
     cases q:σ[i]? with
     |none=>rw[q] at e2';cases e2'
     |some z=>rw[q] at e2';cases z with
      |none=>cases e2'
      |some z=>cases e2';rfl
    obtain⟨m,hn,hl⟩:=I.loc;obtain⟨J,Y⟩:=hV x B;obtain⟨u,r,l⟩:=hl i x v hx e4 J;refine⟨u,r,.inr ⟨aZl (sc:=scope) (.inr (hu x B)),?_⟩⟩;rcases l with⟨k,_⟩|⟨k,c,e,z⟩
    ·exact absurd k Y
    ·obtain⟨L,e'⟩:=bXj (oc:=oc) (c:=s.heap.objs.size+1) (c2 x B);have ee:L=c:=by
      rcases aJb e' with⟨O,_⟩|O
      ·have:=c2 x B;rw[hun x O] at this;cases this
      ·have:=c1 x L O;rw[e] at this;exact(aM this).symm
     subst ee;obtain⟨D,U,hd⟩:=z;exact⟨L,e',D,kp L D U,hd⟩
 cell:=λx c e=>by
  rcases aJb (show(ocl oc (s.heap.objs.size+1) cl).lookup x=some c from e) with⟨z,rfl⟩|e
  ·subst z;refine⟨none,{cls:=.type "cell",data:=.cell none},?_,rfl⟩;show((s.heap.push _).push _).get? _=_;rw[<- d5 s.heap {cls:=.type "dict",data:=.dict #[]}];exact ax _ rfl
  ·obtain⟨v,o,ho,hd⟩:=I.cell x c (c1 x c e);exact⟨v,o,kp c o ho,hd⟩
 free:=I.hok.fresh (Nat.le_refl _)
 freeC:=λx c e=>by
  rcases aJb (show(ocl oc (s.heap.objs.size+1) cl).lookup x=some c from e) with⟨z,rfl⟩|e
  ·exact I.hok.fresh (Nat.le_succ _)
  ·exact I.freeC x c (c1 x c e)
 pin:=λp hp=>absurd (show p∈([]:List (Addr×Obj)) from hp) (by simp)
 hok:=I.hok.kept kp
 len:=by
  show(capt is σ).length=N'.length;unfold capt;rw[am,cp.length]}
def FrC(X:Cx)(pins:List (Addr×Obj))(C:Addr)(H:Hp):Prop:=H C=none/\C≠X.env.locals/\X.s₀.heap.objs.size<=C/\(∀x c,X.env.cells.lookup x=some c->c≠C)/\∀p∈X.pn++pins,p.1≠C
theorem FrC.gone{C:Addr}{h':aY}(f:FrC X pins C H)(I:Inv X pins σ H s)(sb:dw C s.heap h'):Inv X pins σ H {s with heap:=h'} :=
 I.turned (t':=s.toks) (λb o j e=>(sb.2 b j).trans e) f.1 f.2.1 (.inr f.2.2.1) f.2.2.2.1 f.2.2.2.2
theorem comp_gen{elt target iter:Expr}{ifs:List Expr}{gs:List eD}{scope:Scope}{pos:Pos}{N':List Str}{is:List (Option Nat)}{wi:TI}{g:TG}{tt:TT}{tb:Addr->TB}{oc:Option Str}{m:ad->Env->Sem Unit}(hcalm:X.calm=true)(hN:X.N.Nodup)
  (hturn:∀it acc env,eP (.ListComp elt (⟨target,iter,ifs,0⟩::gs) scope pos) 0 it acc env=aZ2 target ifs iter.pos (m acc env) (.compLoop (.ListComp elt (⟨target,iter,ifs,0⟩::gs) scope pos) 0 it acc env) it env)
  (cp:Cap X.N scope N' is) (hi:PI X target iter wi)
  (hg:∀cl C fp s H,PG (aQc X N' scope cl C fp s H oc) target g) (ht:∀cl C fp s H,PTs (aQc X N' scope cl C fp s H oc) ifs tt) (hb:∀cl C fp s H D,PB (aQc X N' scope cl C fp s H oc) (m (.ref D) (iB scope cl C X.env)) (tb D))
  (hcf:∀n acc,eV n scope.names acc=ocl oc n acc) (hpc:∀h,gD h scope.names=ohp oc h)
  (hkind:scope.kind=.function) (hcell:∀y∈scope.names,y.2=.cell->oc=some y.1)
  (hu:∀y∈scope.names,scope.names.lookup y.1=some y.2) (hoc:∀x,oc=some x->scope.names.lookup x=some .cell)
  (hVb:okV scope.names X.env.scope.names=true)
  (hs:∀x,cu iter X.env x=pure x)
  {use:Option (ad->Sem Unit)}{Q:VK}{Qv:ad->ah->Prop}(I:Inv X pins σ H s) (h:cQl is wi g tt tb σ H Q)
  (fin:∀D C H5 s6,Inv X pins σ H5 s6->(∃m,s6.heap.Ns C m)->FrC X pins C H5->Q (.ref D) H5->compPost (az X.prog X.w) X.A X.xe use Qv (.ref D) C (.ok .next) s6) :
  aF (az X.prog X.w) X.A (comprehension (.ListComp elt (⟨target,iter,ifs,0⟩::gs) scope pos) scope X.env (firstIterPos (⟨target,iter,ifs,0⟩::gs) pos) (newList []) (firstAsync (⟨target,iter,ifs,0⟩::gs)) (firstIter (⟨target,iter,ifs,0⟩::gs) X.env) use) Qv X.xe s:=by
 have hV:=dQd hVb;have hV':∀x,(x,aR)∈scope.names->Vis X.env.scope x/\X.env.scope.names.lookup x≠some .local:=λx j=>hV (x,.free) j rfl;have hu':∀x,(x,aR)∈scope.names->scope.names.lookup x=some .free:=λx j=>hu (x,.free) j;have B:∀x∈scope.names,x.2=.local->scope.names.lookup x.1=some .local:=λx j hl=>by rw[hu x j,hl]
 obtain⟨cl,O,c1,c2,c3⟩:=aZw (env:=X.env) (scope:=scope) λx j=>I.ok.has x (by
  obtain⟨v,n⟩:=hV' x j;rcases v with v|v|v
  ·exact absurd v n
  ·exact .inl v
  ·exact .inr v)
 have hun:∀x,oc=some x->cl.lookup x=none:=λx j=>by
  cases e:cl.lookup x with
  |none=>rfl
  |some c =>
   have:=hu' x (c3 x c e)
   rw[hoc x j] at this;cases this
 refine wpAny_comprehension_free (use:=use) rfl hs O hkind B (thn (hi pins s σ H _ I h) λv s1 h1=>thn h1 λitv s2 h2=>?_);obtain⟨it,fp,tn,J,H2,rfl,I2,T,st2,f2,q2⟩:=h2;refine bd ?_;have hD:H2 s2.heap.objs.size=none:=I2.hok.fresh (Nat.le_refl _);have fpl:∀b∈fp,b<s2.heap.objs.size:=λb hb=>by obtain⟨o,e,_⟩:=T.obj _ _ st2 b hb;exact aD e
 have U:Inv X pins σ (upd H2 s2.heap.objs.size (.lst [])) {s2 with heap:=s2.heap.push {cls:=.type "list",dict:=none,data:=.seq ([]:List ad).toArray}} :=
  I2.laid (t':=s2.toks) (λb u e=>ae _ e) (Nat.le_refl _) ⟨Nat.zero_le _,[],0,.nil,ax _ rfl⟩
 have st3:tn 0 (s2.heap.push {cls:=.type "list",dict:=none,data:=.seq ([]:List ad).toArray}):=T.keep _ _ _ st2 λb hb o e=>ae _ e;have Y:∀b∈fp,FpOk X pins (upd H2 s2.heap.objs.size (.lst [])) b:=λb hb=>⟨by rw[upd_ne (Nat.ne_of_lt (fpl b hb))];exact(f2 b hb).1,(f2 b hb).2⟩
 have L:∀b∈fp,b<(s2.heap.push {cls:=.type "list",dict:=none,data:=.seq ([]:List ad).toArray}).objs.size:=λb hb=>by rw[d5];exact Nat.lt_succ_of_lt (fpl b hb)
 have q3:=q2 _ hD;generalize hDe:s2.heap.objs.size=D at *
 generalize hs3:({s2 with heap:=s2.heap.push {cls:=.type "list",dict:=none,data:=.seq ([]:List ad).toArray}}:ah)=s3 at *
 have hsh:s3.heap=s2.heap.push {cls:=.type "list",dict:=none,data:=.seq ([]:List ad).toArray}:=by rw[<- hs3]
 rw[<- hsh] at st3 L;have ok:=aJu (N':=N') (cl:=cl) (oc:=oc) U Y L hkind c1 c2 hcell hun;have I4:=aJc U ok hN c1 c2 hu' cp hV' hun;refine cQn ?_;rw[hcf,hpc];have kp:∀b o,s3.heap.get? b=some o->(ohp oc (s3.heap.push {cls:=.type "dict",data:=.dict #[]})).get? b=some o:=λb o e=>aJ0 (ae _ e);have st4:tn 0 (ohp oc (s3.heap.push {cls:=.type "dict",data:=.dict #[]})):=T.keep _ _ _ st3 λb _ o e=>kp b o e;have f4:∀b∈fp,FpOk (aQc X N' scope (ocl oc (s3.heap.objs.size+1) cl) s3.heap.objs.size fp s3 (upd H2 D (.lst [])) oc) [] (upd H2 D (.lst [])) b:=λb hb =>
  ⟨(Y b hb).1,(ok.exf b hb).1,ok.exfs b hb,.inl hb,(ok.exf b hb).2,λp hp=>absurd (show p∈([]:List (Addr×Obj)) from hp) (by simp)⟩
 have loop:=bQ8 (X:=aQc X N' scope (ocl oc (s3.heap.objs.size+1) cl) s3.heap.objs.size fp s3 (upd H2 D (.lst [])) oc) (e:=.ListComp elt (⟨target,iter,ifs,0⟩::gs) scope pos) (d:=0) (acc:=.ref D)
  (R:=compPost (az X.prog X.w) X.A X.xe use Qv (.ref D) s3.heap.objs.size) hcalm rfl (hturn _ _ _) rfl rfl T (hg _ _ _ _ _) (ht _ _ _ _ _) (hb _ _ _ _ _ D) I4 st4 f4 q3 (by
   intro H5 s6 Z _ qn;obtain⟨m6,n6,_⟩:=id Z.loc;have un:Un (frs X.stack) fp (upd H2 D (.lst [])) H5 s3.heap s6.heap:=Z.base;have hok':HOk X.prog X.w H5 s6.heap:=Z.hok;refine fin D s3.heap.objs.size H5 s6 (U.call' (s':=s6) (ch:=fp) Z.os un hok' Z.bare λb hb=>⟨(Y b hb).2.2.2.1,(Y b hb).2.1,(Y b hb).2.2.2.2.1,(Y b hb).2.2.2.2.2⟩) ⟨m6,n6⟩ ⟨Z.free,Nat.ne_of_gt U.lt,U.sz,λx c e z=>?_,λp hp z=>?_⟩ qn
   ·obtain⟨v,q⟩:=U.cell x c e;exact absurd q.lt (by rw[z];exact Nat.lt_irrefl _)
   ·exact absurd (aD (U.pin p hp).1) (by rw[z];exact Nat.lt_irrefl _))
 exact codeAny_compStart_list loop (T.self _ 0 _ _ _ st4 loop)
theorem cJ7{elt target iter:Expr}{ifs:List Expr}{gs:List eD}{scope:Scope}{pos:Pos}{N':List Str}{is:List (Option Nat)}{wi:TI}{g:TG}{tt:TT}{tb:Addr->TB}{oc:Option Str}{m:ad->Env->Sem Unit}(hcalm:X.calm=true)(hN:X.N.Nodup)
  (hturn:∀it acc env,eP (.ListComp elt (⟨target,iter,ifs,0⟩::gs) scope pos) 0 it acc env=aZ2 target ifs iter.pos (m acc env) (.compLoop (.ListComp elt (⟨target,iter,ifs,0⟩::gs) scope pos) 0 it acc env) it env)
  (cp:Cap X.N scope N' is) (hi:PI X target iter wi)
  (hg:∀cl C fp s H,PG (aQc X N' scope cl C fp s H oc) target g) (ht:∀cl C fp s H,PTs (aQc X N' scope cl C fp s H oc) ifs tt) (hb:∀cl C fp s H D,PB (aQc X N' scope cl C fp s H oc) (m (.ref D) (iB scope cl C X.env)) (tb D))
  (hcf:∀n acc,eV n scope.names acc=ocl oc n acc:=by intro _ _;rfl) (hpc:∀h,gD h scope.names=ohp oc h:=by intro _;rfl)
  (hkind:scope.kind=.function:=by rfl) (hcell:∀y∈scope.names,y.2=.cell->oc=some y.1:=by decide +kernel)
  (hu:∀y∈scope.names,scope.names.lookup y.1=some y.2:=by decide +kernel) (hoc:∀x,oc=some x->scope.names.lookup x=some .cell:=by intro x h;cases h <;> rfl)
  (hVb:okV scope.names X.env.scope.names=true:=by first|rfl|kernel_rfl)
  (hs:∀x,cu iter X.env x=pure x:=by intro _;rfl) :
  PE X (.ListComp elt (⟨target,iter,ifs,0⟩::gs) scope pos) (cQl is wi g tt tb):=by
 intro pins s σ H Q I h;rw[eval_ListComp];refine comp_gen hcalm hN hturn cp hi hg ht hb hcf hpc hkind hcell hu hoc hVb hs I h λD C L O J ⟨m,n⟩ B z=>?_;exact⟨m,n,λh' j=>⟨.ref D,L,B.gone J j,rfl,z⟩⟩
end
end L2
set_option maxHeartbeats 4000000
namespace L2
open PySem PySem.Spec PyProof.Rows
abbrev Dn(α:Type):=Hp->V->α->Prop
abbrev Fg:=ap
def dS:Dn Str:=λ_ v x=>v=.str x
def dB:Dn Bool:=λ_ v b=>v=.bl b
def dT{α:Type}(K:Fg)(R:Dn α):Dn (List α):=λH v ds=>∃a xs,v=.ref a/\SqT K H a xs/\bx (R H) xs ds
def dL{α:Type}(K:Fg)(R:Dn α):Dn (List α):=λH v ds=>∃a xs,v=.ref a/\SqL K H a xs/\bx (R H) xs ds
theorem aZs{H:Hp}{p:Addr}{o:HO}(h:H p=none):Same H (upd H p o):=λb o' e=>by
 rw[upd_ne (by rintro rfl;rw[h] at e;cases e)];exact e
theorem Paired.imp{α β:Type}{F G:α->β->Prop}(h:∀a b,F a b->G a b):∀{l:List α}{m:List β},bx F l m->bx G l m
 |_,_,.nil=>.nil
 |_,_,.cons p q=>.cons (h _ _ p) (Paired.imp h q)
theorem beq_dec{α:Type}[DecidableEq α][BEq α][LawfulBEq α](a b:α):(a==b)=decide (a=b):=by
 by_cases h:a=b
 ·subst h;simp
 ·simp[h]
theorem Paired.get'{α β:Type}{F:α->β->Prop}:∀{l:List α}{m:List β}{i:Nat}{a:α},bx F l m->l[i]?=some a->∃b,m[i]?=some b/\F a b
 |_,_,_,_,.nil,h=>by simp at h
 |_,_,0,_,.cons p _,h=>by simp at h;subst h;exact⟨_,rfl,p⟩
 |_,_,i+1,a,.cons _ q,h=>by
  obtain⟨b,e,f⟩:=Paired.get' (i:=i) (a:=a) q (by simpa using h)
  exact⟨b,by simpa using e,f⟩
theorem eQo{α:Type}[DecidableEq α]:∀(ds es:List α),((bu (min ds.length es.length)).all λj=>decide (ds[j]?=es[j]?))=true->ds.length=es.length->ds=es:=λds es h z=>by
 apply eG;intro i
 by_cases hi:i<ds.length
 ·have:=bI.mp h i (bO.mpr (by lia))
  exact of_decide_eq_true this
 ·rw[bK (by lia),bK (by lia)]
theorem cQo{α:Type}[DecidableEq α](ds es:List α)(n m:Nat)(hn:n=ds.length)(hm:m=es.length):((bu (min n m)).all (λj=>decide (ds[j]?=es[j]?))&&(n==m))=decide (ds=es):=by
 subst hn;subst hm
 by_cases h:ds=es
 ·subst h;simp
 ·rw[decide_eq_false h,Bool.and_eq_false_iff]
  by_cases z:ds.length=es.length
  ·left
   cases q:(bu (min ds.length es.length)).all λj=>decide (ds[j]?=es[j]?) with
   |false=>rfl
   |true=>exact absurd (eQo ds es q z) h
  ·right;simpa using z
variable{α β γ:Type}
end L2
namespace ST
open PySem PySem.SetTable
end ST
set_option autoImplicit false
namespace ST
open PySem PySem.SetTable
theorem cQp{α β:Type}{f:α->Option β}:∀{l:List α},(∀a∈l,(f a).isSome=true)->(l.filterMap f).length=l.length/\∀i:Nat,(l.filterMap f)[i]?=(l[i]?).bind f
 |[],_=>⟨rfl,λi=>by simp⟩
 |a::l,h=>by
  obtain⟨z,e⟩:=de.mp (h a aA);obtain⟨h1,h2⟩:=cQp (l:=l) (f:=f) λb j=>h b (au _ j);rw[d3,e];refine⟨by simp[h1],λi=>?_⟩
  cases i with
  |zero=>simp[e]
  |succ i=>simpa using h2 i
theorem cJ8{α:Type}(es:Array α):((bu es.size).filterMap λk=>es[k]?)=es.toList:=by
 apply eG;intro i;have h:=cQp (l:=bu es.size) (f:=λk=>es[k]?) (λa j=>by
  have:=bO.mp j
  simp[this])
 rw[h.2 i]
 by_cases c:i<es.size
 ·rw[List.getElem?_range c];simp
 ·rw[bK (by simpa using c)];simp[c]
open PySem.Spec PyProof.Rows
def bQ9(h h':aY):Prop:=∀b o,h.get? b=some o->o.cls=.type "tuple"->h'.get? b=some o
def setOb(es:Array (Int×ad))(ep:Nat)(t:cg):Obj:={cls:=.type "set",dict:=none,data:=.set es ep t}
structure SetKd(prog:aC)(w:aL)(κ:Type) where
 is:aY->κ->ad->Prop
 I:aY->Addr->Array (Int×ad)->Nat->cg->Prop
 inj:∀{h:aY}{k k':κ}{v:ad},is h k v->is h k' v->k=k'
 obj:∀{h:aY}{a:Addr}{es:Array (Int×ad)}{ep:Nat}{t:cg},I h a es ep t->h.get? a=some (setOb es ep t)
 fits:∀{h:aY}{a:Addr}{es:Array (Int×ad)}{ep:Nat}{t:cg},I h a es ep t->t.fits es.size=true
 few:∀{h:aY}{a:Addr}{es:Array (Int×ad)}{ep:Nat}{t:cg}{ks:List κ},I h a es ep t->bx (λ(e:Int×ad) k=>is h k e.2) es.toList ks->ks.Nodup->t.plain=true->es.size<=1
 fresh:∀{h:aY}{a:Addr}{led:Bool},h.get? a=some (setOb #[] 0 (.fresh 0 0 led))->I h a #[] 0 (.fresh 0 0 led)
 keepIs:∀{h h':aY}{k:κ}{v:ad},is h k v->bQ9 h h'->is h' k v
 keepI:∀{h h':aY}{a:Addr}{es:Array (Int×ad)}{ep:Nat}{t:cg},I h a es ep t->h'.get? a=h.get? a->bQ9 h h'->I h' a es ep t
 add:∀{A:aO}{E:ad->ah->Prop}{s:ah}{a:Addr}{es:Array (Int×ad)}{ep:Nat}{t:cg}{k:κ}{x:ad}{Q:Bool->ah->Prop},A.units<bU->I s.heap a es ep t->is s.heap k x->es.size+1<=300 ->
  (∀ h' tk es' ep' t' added,I h' a es' ep' t'->dw a s.heap h'->t'.led=t.led->s.toks<=tk ->
   ((added=false/\es'=es/\∃e∈es.toList,is s.heap k e.2)\/(added=true/\(∃hh,es'.toList.Perm ((hh,x)::es.toList))/\¬ ∃e∈es.toList,is s.heap k e.2))->Q added {s with heap:=h',toks:=tk}) ->
  aF (az prog w) A (setAdd a x) Q E s
theorem bZv{h h':aY}{a:Addr}{es:Array (Int×ad)}{ep:Nat}{t:cg}(ho:h.get? a=some (setOb es ep t))(sb:dw a h h'):bQ9 h h':=λb o e c=>by
 refine(sb.2 b ?_).trans e;rintro rfl;rw[ho] at e;have z:o=setOb es ep t:=(aM e).symm;rw[z] at c;have B:dG "set"=dG "tuple":=c;injection B with j
 exact absurd j (by decide)
section
variable{prog:aC}{w:aL}
theorem aJv{α β:Type}{R:α->β->Prop}:∀{l:List α}{m:List β},bx R l m->∀a∈l,∃b∈m,R a b
 |_,_,.nil,a,h=>nomatch h
 |_,_,.cons r t,a,h=>by
  rcases aQ.mp h with rfl|h
  ·exact⟨_,aA,r⟩
  ·obtain⟨b,j,q⟩:=aJv t a h;exact⟨b,au _ j,q⟩
theorem aJd{α β:Type}{R:α->β->Prop}:∀{l:List α}{m:List β},bx R l m->∀b∈m,∃a∈l,R a b
 |_,_,.nil,a,h=>nomatch h
 |_,_,.cons r t,a,h=>by
  rcases aQ.mp h with rfl|h
  ·exact⟨_,aA,r⟩
  ·obtain⟨b,j,q⟩:=aJd t a h;exact⟨b,au _ j,q⟩
theorem bZw{α β:Type}{R:α->β->Prop}{l l':List α}(p:l'.Perm l):∀{m:List β},bx R l m->∃m',m'.Perm m/\bx R l' m':=by
 have gen:∀{l l':List α},l.Perm l'->∀{m:List β},bx R l m->∃m',m'.Perm m/\bx R l' m':=by
  intro l l' p
  induction p with
  |nil=>intro m h;cases h;exact⟨[],dh _,.nil⟩
  |cons x _ L =>
   intro m h;cases h with
   |cons r t =>
    obtain⟨m',h1,h2⟩:=L t;exact⟨_,h1.cons _,.cons r h2⟩
  |swap x y l =>
   intro m h;cases h with
   |cons r t =>
    cases t with
    |cons D B=>exact⟨_,jl.swap _ _ _,.cons D (.cons r B)⟩
  |trans _ _ z j =>
   intro m h;obtain⟨U,a1,O⟩:=z h;obtain⟨J,a2,N⟩:=j O;exact⟨J,a2.trans a1,N⟩
 intro m h;exact gen p.symm h
theorem empty_el{P:Int×ad->Prop}:∀e∈(#[]:Array (Int×ad)).toList,P e:=λe he=>absurd he (by simp)
theorem bZx(t:cg)(n:Nat):(t.orStandIn n).led=t.led:=by unfold cg.orStandIn;split <;> rfl
theorem addS{A:aO}{E:ad->ah->Prop}{s:ah}{a:Addr}{es:Array (Int×ad)}{ep:Nat}{t:cg}{k:Str}{x:ad}{Q:Bool->ah->Prop}(ho:s.heap.get? a=some (setOb es ep t))(hf:t.fits es.size=true)(hel:ElemsOf (strKind prog w) es.toList)
    (hpl:t.plain=true->es=#[]) (hx:(strKind prog w).is k x=true) (hn:es.size+1<=300)
    (h:∀ h' es' ep' t' added,h'.get? a=some (setOb es' ep' t') -> t'.fits es'.size=true -> ElemsOf (strKind prog w) es'.toList -> (t'.plain=true -> es'=#[]) -> dw a s.heap h' -> t'.led=t.led ->
      ((added=false/\es'=es/\∃e∈es.toList,(strKind prog w).is k e.2=true)\/(added=true/\es'.toList.Perm (((strKind prog w).hash k,x)::es.toList)/\¬ ∃e∈es.toList,(strKind prog w).is k e.2=true))->Q added {s with heap:=h'}) :
    aF (az prog w) A (setAddHashed a x ((strKind prog w).hash k)) Q E s:=by
  obtain⟨tok,rfl⟩:=gq hx;have hb:es.size<scanBound:=by unfold scanBound; lia
  unfold setAddHashed setAddHashedIn;refine bM (aa (dX ho rfl hf ?_));dsimp only;rw [byScan_of rfl hb hel];simp only [↓reduceIte];unfold setAddByScan;refine aa ?_;refine aa (cJ ?_);refine aa (wpAny_setScan_of hx ho rfl hf hel ?_);cases hr:List.findIdx? (λe=>(strKind prog w).is k e.2) es.toList with
  |some j =>
    dsimp only;obtain⟨hj,hpj,_⟩:=List.findIdx?_eq_some_iff_getElem.mp hr;refine af (af ?_);exact h s.heap es ep t false ho hf hel hpl (dw.refl a s.heap) rfl (.inl ⟨rfl,rfl,es.toList[j],db hj,hpj⟩)
  |none =>
    dsimp only;have hno:¬ ∃e∈es.toList,(strKind prog w).is k e.2=true:=by
      rintro⟨e,he,hp⟩;have:=List.findIdx?_eq_none_iff.mp hr e he;rw [hp] at this; exact Bool.noConfusion this
    have hgw:∀(b:Bool) {s1:ah}{Q':Unit->ah->Prop},Q' () s1->aF (az prog w) A (match b with|true=>rule "set.scan.the-table-gave-way"|false=>pure ()) Q' E s1 :=
      λb s1 Q' hq =>by cases b <;> first|exact af hq|exact cJ hq
    have B:=layNew_perm t es ((strKind prog w).hash k) (.str k tok);have J:=layNew_fits t es ((strKind prog w).hash k) (.str k tok);have N:(layNew t es ((strKind prog w).hash k) (.str k tok)).2.1.led=t.led:=by
      unfold layNew
      split
      · exact bZx _ _
      · rfl
    generalize hL:layNew t es ((strKind prog w).hash k) (.str k tok)=L at B J N ⊢;obtain⟨es1,t1,O,gave⟩:=L;dsimp only at B J N ⊢;rw [ca] at B;have D:es1.toList.Perm (((strKind prog w).hash k,.str k tok)::es.toList):=B.trans (List.perm_append_singleton _ _);have hel1:ElemsOf (strKind prog w) es1.toList:=(hel.push hx rfl).perm B;have hsz1:es1.size=es.size+1:=by
      have:=D.length_eq;simpa using this
    have hz1:es1.size<=sizeLine:=by rw [hsz1,aW]; lia
    refine aa (hgw _ ?_)
    have rest:∀ t2:cg,t2.fits es1.size=true -> t2.plain=false -> t2.led=t.led -> aF (az prog w) A (do
        storeSet a es1 t2
        if (!O&&t2.tooFull)=true then do
            (match (iC t2 es1 (dj es1.size)).2.2 with|true =>rule "set.scan.the-table-gave-way"|false =>pure ())
            storeSet a (iC t2 es1 (dj es1.size)).1 (iC t2 es1 (dj es1.size)).2.1
            pure (some true)
          else pure (some true)) (λr s'=>aF (az prog w) A (match r with|some added=>pure added|none=>setAddHashedIn a (.str k tok) ((strKind prog w).hash k) 99999) Q E s') E s:=by
      intro t2 q1 q2 q3;refine aa (wpAny_storeSet_of ho rfl ?_ hz1);have ho1:(s.heap.update a (gR es1 t2)).get? a=some (setOb es1 (ep+1) t2):=by
        have:=c7 (gR es1 t2) ho (by rw [putSet_of _ _ rfl]; rfl)
        rw [putSet_of _ _ rfl] at this; exact this
      have Z:=cj s.heap a (gR es1 t2)
      split
      · have hp:=relayAll_perm t2 es1 (dj es1.size)
        have hfr:=relayAll_fits t2 es1 (dj es1.size);have Y:(iC t2 es1 (dj es1.size)).2.1.led=t2.led/\(iC t2 es1 (dj es1.size)).2.1.plain=false:=by
          unfold iC
          split
          · rename_i t' order hq
            have : t'.led=t2.led/\t'.plain=t2.plain:=by
              unfold relaid laid at hq;cases hc:layClean (sizeAbove (dj es1.size)-1) (Array.map (·.1) es1) with
              |none =>rw [hc] at hq; cases hq
              |some ow =>rw [hc] at hq; cases hq; exact⟨rfl,rfl⟩
            dsimp only
            split
            · exact⟨this.1,this.2.trans q2⟩
            · exact⟨rfl,rfl⟩
          · exact⟨rfl,rfl⟩
        generalize hRl:iC t2 es1 (dj es1.size)=Rl at hp hfr Y ⊢;obtain⟨U,t3,gave2⟩:=Rl;dsimp only at hp hfr Y ⊢;have hsz2:U.size=es1.size:=by
          have:=hp.length_eq;simpa using this
        refine aa (hgw _ ?_);refine aa (wpAny_storeSet_of ho1 rfl ?_ (by rw [hsz2]; exact hz1))
        have ho2:((s.heap.update a (gR es1 t2)).update a (gR U t3)).get? a=some (setOb U (ep+1+1) t3):=by
          have:=c7 (gR U t3) ho1 (by rw [putSet_of _ _ rfl]; rfl)
          rw [putSet_of _ _ rfl] at this; exact this
        refine af (af ?_);exact h _ U _ t3 true ho2 hfr (hel1.perm hp) (λz =>by rw [Y.2] at z; cases z) (Z.trans (cj _ a _)) (Y.1.trans q3) (.inr ⟨rfl,hp.trans D,hno⟩)
      · refine af (af ?_)
        exact h _ es1 _ t2 true ho1 q1 hel1 (λz =>by rw [q2] at z; cases z) Z q3 (.inr ⟨rfl,D,hno⟩)
    split
    · refine aa ?_
      rw [hashByValue_scannable 8 rfl];refine af ?_;exact rest _ (cg.fits_plain_off J) rfl N
    · rename_i hnp
      refine aa (af ?_);simp only [↓reduceIte];exact rest t1 J (fJ.mpr hnp) N
end
section
variable{prog:aC}{w:aL}
def strKd(prog:aC)(w:aL):SetKd prog w Str where
 is:=λ_ k v=>(f9 prog w).is k v=true
 I:=λh a es ep t=>h.get? a=some (setOb es ep t)/\t.fits es.size=true/\ElemsOf (f9 prog w) es.toList/\(t.plain=true->es=#[])
 inj:=λa b=>(f9 prog w).inj _ _ _ a b
 obj:=λx=>x.1
 fits:=λx=>x.2.1
 few:=λx _ _ hp=>by rw[x.2.2.2 hp];exact Nat.zero_le _
 fresh:=λho=>⟨ho,rfl,empty_el,λ_=>rfl⟩
 keepIs:=λx _=>x
 keepI:=λx e _=>⟨by rw[e];exact x.1,x.2⟩
 add:=λ{A E s a es ep t k x Q} hu hI hx hn h=>by
  obtain⟨ho,hf,hel,hpl⟩:=hI;unfold setAdd;refine bM (aa ((f9 prog w).pyHash hx ?_));exact addS (s:={ s with toks:=s.toks + 1 }) ho hf hel hpl hx hn λh' es' ep' t' added h1 h2 h3 h4 h5 h6 h7=>h h' _ es' ep' t' added ⟨h1,h2,h3,h4⟩ h5 h6 (Nat.le_succ _) (by
   rcases h7 with q|⟨q1,q2,q3⟩
   ·exact .inl q
   ·exact .inr ⟨q1,⟨_,q2⟩,q3⟩)
structure Mem{κ:Type}(D:SetKd prog w κ)(h:aY)(a:Addr)(done:List κ)(led:Bool)(ks:List κ):Prop where
 ex:∃es ep t,D.I h a es ep t/\t.led=led/\bx (λ(e:Int×ad) k=>D.is h k e.2) es.toList ks
 nd:ks.Nodup
 mem:∀k,k∈ks↔k∈done
theorem Mem.size{κ:Type}{D:SetKd prog w κ}{h:aY}{a:Addr}{done:List κ}{led:Bool}{ks:List κ}(M:Mem D h a done led ks):ks.length<=done.length :=
 M.nd.length_le_of_subset λk j=>(M.mem k).mp j
theorem addM{κ:Type}[DecidableEq κ](D:SetKd prog w κ){A:aO}{E:ad->ah->Prop}{s:ah}{a:Addr}{done:List κ}{led:Bool}{ks:List κ}{k:κ}{x:ad}{Q:Bool->ah->Prop}(hu:A.units<bU)(M:Mem D s.heap a done led ks)(hx:D.is s.heap k x)(hn:ks.length+1<=300)
  (h:∀h' tk ks',Mem D h' a (done++[k]) led ks'->dw a s.heap h'->bQ9 s.heap h'->s.toks<=tk->Q (decide (k∉ks)) {s with heap:=h',toks:=tk}) :
  aF (az prog w) A (setAdd a x) Q E s:=by
 obtain⟨es,ep,t,h1,h2,O⟩:=M.ex;have hl:es.size=ks.length:=by have:=cQ O;simpa using this
 refine D.add hu h1 hx (by lia) λh' tk J L t' added q1 q2 q3 q4 q5=>?_
 have kp:=bZv (D.obj h1) q2;have B:bx (λ(e:Int×ad) k=>D.is h' k e.2) es.toList ks:=L2.Paired.mapP O λ_ _ q=>D.keepIs q kp;have isin:(∃e∈es.toList,D.is s.heap k e.2)↔k∈ks:=by
  constructor
  ·rintro⟨e,he,q⟩;obtain⟨N,hk',q'⟩:=aJv O e he;rw[D.inj q q'];exact hk'
  ·intro j;obtain⟨e,he,q⟩:=aJd O k j;exact⟨e,he,q⟩
 rcases q5 with⟨Z,Y,U⟩|⟨Z,⟨hh,Y⟩,U⟩
 ·have j:=isin.mp U;have q:=h h' tk ks ⟨⟨J,L,t',q1,q3.trans h2,by rw[Y];exact B⟩,M.nd,λN=>by
   rw[M.mem N,aN,aU];exact⟨.inl,λz=>z.elim id λz=>by rw[z];exact(M.mem k).mp j⟩⟩ q2 kp q4
  rw[decide_eq_false (λz=>z j)] at q;rw[Z];exact q
 ·have j:k∉ks:=λz=>U (isin.mpr z);obtain⟨ks',p1,p2⟩:=bZw Y (R:=λ(e:Int × ad) k=>D.is h' k e.2) (m:=k::ks) (.cons (D.keepIs hx kp) B);have q:=h h' tk ks' ⟨⟨J,L,t',q1,q3.trans h2,p2⟩,p1.nodup_iff.mpr (cG.mpr ⟨j,M.nd⟩),λN=>by
   rw[p1.mem_iff,aQ,aN,aU,M.mem N];exact⟨λz=>z.symm,λz=>z.symm⟩⟩ q2 kp q4
  rw[decide_eq_true j] at q;rw[Z];exact q
abbrev ledOf(w:aL):Bool:=!(w.params.followText "set-order")
end
end ST
set_option maxHeartbeats 1000000
namespace L2
open PySem PySem.Spec PyProof.Rows
variable{α β:Type}
theorem cQq{H:Hp}{xs:List V}{us:List ad}{bs:List Bool}(p:bx (dB H) xs bs)(r:Vals xs us){i:Nat}{v:ad}(h:us[i]?=some v):∃b,bs[i]?=some b/\v=.bool b:=by
 have J:=r.length;have hi:i<xs.length:=by
  rcases Nat.lt_or_ge i us.length with z|z
  ·omega
  ·rw[bK z] at h;cases h
 obtain⟨b,e,D⟩:=Paired.get' p (ag hi);obtain⟨u,eu,B⟩:=r.get (ag hi);rw[h] at eu;cases eu;have j:xs[i]=V.bl b:=D;rw[j] at B;exact⟨b,e,B⟩
theorem bXk{h h':aY}{o:Obj}(hk:∀b x,b∉[h.objs.size]->(h.push o).get? b=some x->h'.get? b=some x):∀b x,h.get? b=some x->h'.get? b=some x:=λb x e =>
 hk b x (λz=>by have:=aU.mp z;subst this;exact Nat.lt_irrefl _ (aD e)) (ae _ e)
theorem bJh(bs:List Bool):∀n,n=bs.length->((bu n).all λi=>(bs[i]?).getD true)=bs.all id:=by
 rintro n rfl;rw[eA,bI,bI];refine⟨λh b z=>?_,λh i hi=>?_⟩
 ·obtain⟨i,hi,rfl⟩:=bE z
  have:=h i (bO.mpr hi)
  rwa [ag hi] at this
 ·have j:=bO.mp hi;rw[ag j];exact h _ (db j)
theorem bJi(bs:List Bool):∀n,n=bs.length->((bu n).any λi=>(bs[i]?).getD false)=bs.any id:=by
 rintro n rfl;rw[eA,eX,eX];refine⟨λ⟨i,hi,h⟩=>?_,λ⟨b,z,h⟩=>?_⟩
 ·have j:=bO.mp hi;rw[ag j] at h;exact⟨_,db j,h⟩
 ·obtain⟨i,hi,rfl⟩:=bE z;exact⟨i,bO.mpr hi,by rw[ag hi];exact h⟩
section
variable{X:Cx}
theorem cQr(hc:X.calm=true):CallR X (.builtin "all") (λxs H Q=>∃x bs,xs=[x]/\dL X.K dB H x bs/\Q (.bl (bs.all id)) H):=by
 intro pins s σ H xs us Q I r h;obtain⟨x,bs,rfl,⟨a,ys,rfl,D,p⟩,q⟩:=h;obtain⟨u,rfl,rx⟩:=aX0 r;cases rx;obtain⟨its,j,pl,_⟩:=I.list D;obtain⟨o,J,_⟩:=id pl.isList;refine PySem.call_all_walk (h8 pl.isList ⟨_,_,_,_,_,_,λi=>(bs[i]?).getD true,rfl,PySem.Walks.list (A:=X.A.in1) (by have:=I.ok.hd hc;simp[this]) _ a (Nat.ne_of_lt (aD J)) its.toArray,⟨⟨_,ax _ rfl,rfl,rfl⟩,pl.isList.push _⟩,λi v s' O U N z=>?_,λh' B L=>?_⟩)
 ·obtain⟨b,e,rfl⟩:=cQq p j (show its[i]?=some v by simpa using N)
  simp only[e,Option.getD_some] at z;exact cW z
 ·rw[bJh bs _ (by rw[aq,<- j.length,p.length])]
  exact⟨.bl _,H,I.kept (t':=B) (bXk L),rfl,q⟩
theorem cQs(hc:X.calm=true):CallR X (.builtin "any") (λxs H Q=>∃x bs,xs=[x]/\dL X.K dB H x bs/\Q (.bl (bs.any id)) H):=by
 intro pins s σ H xs us Q I r h;obtain⟨x,bs,rfl,⟨a,ys,rfl,D,p⟩,q⟩:=h;obtain⟨u,rfl,rx⟩:=aX0 r;cases rx;obtain⟨its,j,pl,_⟩:=I.list D;obtain⟨o,J,_⟩:=id pl.isList;refine PySem.call_any_walk (h8 pl.isList ⟨_,_,_,_,_,_,λi=>(bs[i]?).getD false,rfl,PySem.Walks.list (A:=X.A.in1) (by have:=I.ok.hd hc;simp[this]) _ a (Nat.ne_of_lt (aD J)) its.toArray,⟨⟨_,ax _ rfl,rfl,rfl⟩,pl.isList.push _⟩,λi v s' O U N z=>?_,λh' B L=>?_⟩)
 ·obtain⟨b,e,rfl⟩:=cQq p j (show its[i]?=some v by simpa using N)
  simp only[e,Option.getD_some] at z;exact cW z
 ·rw[bJi bs _ (by rw[aq,<- j.length,p.length])]
  exact⟨.bl _,H,I.kept (t':=B) (bXk L),rfl,q⟩
end
end L2
set_option maxHeartbeats 4000000
namespace L2
open PySem PySem.Spec PyProof.Rows
end L2
namespace HT
open PySem PyProof.Rows
def ltS(a b:Str):Bool:=decide (a.cps.toList<b.cps.toList)
def lexS:List Str->List Str->Bool
 |[],[]=>false
 |[],_::_=>true
 |_::_,[]=>false
 |x::xs,y::ys=>if x=y then lexS xs ys else ltS x y
theorem lexS_cons(x y:Str)(xs ys:List Str):lexS (x::xs) (y::ys)=if x=y then lexS xs ys else ltS x y:=rfl
theorem bQz:lexS [] []=false:=rfl
theorem lexS_nil_cons(y:Str)(ys:List Str):lexS [] (y::ys)=true:=rfl
theorem lexS_cons_nil(x:Str)(xs:List Str):lexS (x::xs) []=false:=rfl
abbrev SAre:List ad->List Str->Prop:=bx λv x=>∃t,v=.str x t
theorem SAre.len{l:List ad}{m:List Str}(h:SAre l m):l.length=m.length:=cQ h
theorem dZi(A:aO)(s:ah)(a:Str)(t:Tok)(c:Str)(u:Tok):∃e,cq A s (.str a t) (.str c u) e/\(e=true↔a=c) :=
 ⟨(a==c),gS a t c u,by simp⟩
theorem rcLt_st(A:aO)(s:ah)(a:Str)(t:Tok)(c:Str)(u:Tok)(prog:aC)(w:aL)(E:ad->ah->Prop)(Q:ad->ah->Prop)(h:Q (.bool (ltS a c)) s) :
  aF (az prog w) A (richCompare .Lt (.str a t) (.str c u)) Q E s :=
 (jm h:aF (az prog w) A (cN .Lt (.str a t) (.str c u)) Q E s)
section
open PySem.SeqAt
open PySem.AutoSeq1 (wpAny_loadPart')
open PySem.MeetsSeq PySem.MeetsSeq2 PySem.MeetsSeq3
theorem tuple_lt_strs(l b:Addr)(items items2:Array ad)(n n2:Nat)(dd dd2:Option Addr)(sl sl2:Array (Option ad))(ns ms:List Str)(hi:SAre items.toList ns)(hj:SAre items2.toList ms) :
  Meets (cK.«tuple.__lt__» ⟨[.ref l,.ref b],[]⟩)
   (λ_ R s=>s.heap.get? l=some { cls:=.type "tuple",dict:=dd,data:=.seq items n,slots:=sl }/\s.heap.get? b=some { cls:=.type "tuple",dict:=dd2,data:=.seq items2 n2,slots:=sl2 } /\
    R (.ok (.ret (.bool (lexS ns ms)))) s) :=
 .of_wp λprog w A R s h=>by
  obtain⟨Z,g,d,Y,os⟩:=s;obtain⟨hl,hb,h⟩:=h;have f2:=io;have z1:items.size=ns.length:=by rw[<- hi.len];simp
  have z2:items2.size=ms.length:=by rw[<- hj.len];simp
  wp_walk using bC hl,bC hb,wpAny_forIn_list _ (λrest b s'=>b.1=none/\s'=⟨Z,g,d,Y,os⟩/\∃ (U ws:List ad) (j z:List Str),rest=U.zip ws /\
   SAre U j/\SAre ws z/\j.length+items2.size=z.length+items.size/\R (.ok (.ret (.bool (lexS j z)))) ⟨Z,g,d,Y,os⟩) _
  case turn =>
   rintro⟨y,x⟩ rest b s' ⟨L,rfl,U,ws,j,z,hz,hvi,hwi,hlen,D⟩;cases hvi with
   |nil=>rw[eH] at hz;cases hz
   |@cons va a _ _ ha O =>
    obtain⟨t,rfl⟩:=ha;cases hwi with
    |nil=>rw[eg] at hz;cases hz
    |@cons vc c _ _ hc N =>
     obtain⟨u,rfl⟩:=hc;rw[cb] at hz;injection hz with hyx J
     injection hyx with hy hx
     subst hy hx;rw[lexS_cons] at D;simp only[b7] at hlen;obtain⟨e,he,B⟩:=dZi A.in1 ⟨Z,g,d,Y,os⟩ a t c u;refine aa (he prog w _ _ ?_);cases e with
     |true =>
      rw[if_pos (B.mp rfl)] at D
      wp_walk
      exact⟨rfl,rfl,_,_,_,_,J,O,N,by lia,D⟩
     |false =>
      rw[if_neg (λq=>absurd (B.mpr q) dI)] at D;have hri:=rcLt_st A.in1 ⟨Z,g,d,Y,os⟩ a t c u prog w
      wp_walk using hri
      exact⟨_,rfl,by simpa using D⟩
  case fin =>
   rintro⟨b1,b2⟩ s' ⟨L,rfl,U,ws,j,z,hz,hvi,hwi,hlen,D⟩;simp only at L;subst L;have hv:lexS j z=decide (items.size<items2.size):=by
    cases hvi with
    |nil =>
     cases hwi with
     |nil =>
      simp only[dr] at hlen;rw[bQz];exact(decide_eq_false (by lia)).symm
     |cons hc hw =>
      simp only[dr,b7] at hlen;rw[lexS_nil_cons];exact(decide_eq_true (by lia)).symm
    |cons ha hv =>
     cases hwi with
     |nil =>
      simp only[dr,b7] at hlen;rw[lexS_cons_nil];exact(decide_eq_false (by lia)).symm
     |cons hc hw =>
      rw[cb] at hz;cases hz
   rw[hv] at D
   wp_walk
   exact⟨_,rfl,by simpa [fU] using D⟩
  case h =>
   exact⟨rfl,rfl,items.toList,items2.toList,ns,ms,rfl,hi,hj,by lia,h⟩
end
section
variable{prog:aC}{w:aL}{A:aO}{E:ad->ah->Prop}{s:ah}
theorem lt_tupStrs{l b:Addr}{items items2:Array ad}{ns ms:List Str}{Q:ad->ah->Prop}(hl:gH s.heap l items)(hb:gH s.heap b items2)(hi:SAre items.toList ns)(hj:SAre items2.toList ms)
  (hu:A.units<bU) (h:Q (.bool (lexS ns ms)) s):aF (az prog w) A (cN .Lt (.ref l) (.ref b)) Q E s:=by
 obtain⟨⟨cls,dd,data,sl⟩,J,L,n,hd⟩:=id hl;obtain⟨⟨N,D,data2,B⟩,j,z,O,hd2⟩:=id hb;simp only at L hd z hd2;subst L hd z hd2;exact fL (op:=.Lt) ⟨_,J,rfl⟩ ⟨_,j,rfl⟩ c8 eh (d6 _ _) (tuple_lt_strs l b items items2 n O dd D sl B ns ms hi hj)
  ⟨J,j,show gG (lexS ns ms)≠gb/\Q (.bool (lexS ns ms)) s from⟨(λx=>nomatch x),h⟩⟩ hu
end
end HT
namespace L2
open PySem PySem.Spec PyProof.Rows
theorem bQa{H:Hp}:∀{xs:List V}{us:List ad}{ds:List Str},bx (dS H) xs ds->Vals xs us->HT.SAre us ds
 |_,_,_,.nil,.nil=>.nil
 |_,_,_,.cons p q,.cons r t=>by
  cases p;exact .cons r (bQa q t)
def rLtS(K:Fg):R2:=λx y H Q=>∃d e,dT K dS H x d/\dT K dS H y e/\Q (.bl (HT.lexS d e)) H
theorem eQp{X:Cx}(hu:X.A.units<bU):OpR X (cN .Lt) (rLtS X.K):=by
 intro pins s σ H x y v u Q I rx ry h;obtain⟨d,e,⟨a,xs,rfl,O,J⟩,⟨b,ys,rfl,N,D⟩,q⟩:=h;cases rx;cases ry;obtain⟨its,B,L,_⟩:=I.tuple O;obtain⟨j,z,p2,_⟩:=I.tuple N;exact HT.lt_tupStrs L p2 (bQa J B) (bQa D z) hu ⟨.bl (HT.lexS d e),H,I,rfl,q⟩
end L2
set_option maxHeartbeats 1000000
namespace L2
open PySem PySem.Spec PyProof.Rows
variable{α β γ:Type}
theorem eQq{X:Cx}{N':List Str}{scope:Scope}{cl:List (Str×Addr)}{C:Addr}{fp:List Addr}{s:ah}{H:Hp}{x:Str}:(aQc X N' scope cl C fp s H (some x)).fn x=true:=decide_eq_true rfl
theorem nd_(l:List Str)(h:l.Nodup:=by decide +kernel):l.Nodup:=h
section
variable{X:Cx}{K:Fg}{tg:Expr}{a:Expr}{ta:TE}
theorem dZj(hK:X.K=K:=by rfl):SlR X (rSlT K):=hK▸eQe
theorem cJ9(hK:X.K=K:=by rfl):SlR X (rSlL K):=hK▸dZe
theorem cJa(hK:X.K=K:=by rfl):OpR X (dU .Add) (dZc K):=hK▸dZd
theorem bZy(hK:X.K=K:=by rfl):CallR X (.type "tuple") (λxs H Q=>∃p ys,xs=[.ref p]/\((SqL K H p ys/\∀l,H l=none->Q (.ref l) (upd H l (.tup ys)))\/(SqT K H p ys/\Q (.ref p) H))):=hK▸bQ5
theorem bJj(hK:X.K=K:=by rfl):CallR X (.type "list") (λxs H Q=>∃p ys,xs=[.ref p]/\(SqL K H p ys\/SqT K H p ys)/\∀l,H l=none->Q (.ref l) (upd H l (.lst ys))):=hK▸call_list_of
theorem cQt(hK:X.K=K:=by rfl)(hc:X.calm=true:=by rfl):CallR X (.builtin "all") (λxs H Q=>∃x bs,xs=[x]/\dL K dB H x bs/\Q (.bl (bs.all id)) H):=hK▸cQr hc
theorem cQu(hK:X.K=K:=by rfl)(hc:X.calm=true:=by rfl):CallR X (.builtin "any") (λxs H Q=>∃x bs,xs=[x]/\dL K dB H x bs/\Q (.bl (bs.any id)) H):=hK▸cQs hc
theorem dZk(hu:X.A.units<bU)(hK:X.K=K:=by rfl):OpR X (cN .Lt) (rLtS K):=hK▸eQp hu
theorem cQv(ha:PE X a ta)(he:∀whole,isTrue a X.env whole=(do let v <- whole;fh a.pos;fg [v] (truthy v)))(hK:X.K=K:=by rfl):PT X a (fun σ H Q=>ta σ H λx H'=>∃k,TruV K x H' k/\Q k H'):=by subst hK;exact cXx ha he
end
end L2
set_option maxHeartbeats 4000000
namespace KS
open PySem PySem.W PyProof.Rows
variable{lt:Nat->Nat->Bool}{n:Nat}
end KS
set_option maxHeartbeats 1000000
namespace ST
open PySem PySem.SetTable PySem.Spec PyProof.Rows
theorem aJr:entryFor table "set.__iter__"=some cK.«frozenset.__iter__»:=entryFor_alias (id':="frozenset.__iter__") (by kernel_rfl) rfl (by decide +kernel) (by kernel_rfl)
theorem slot_setit_next:Slot "set_iterator" "__next__" "set_iterator.__next__" :=
 .of (owner:="set_iterator") (n:="__next__") (by rw[typeLookup_type,builtinLookup_eq_fast];kernel_rfl) (by decide +kernel) (by decide +kernel) (by decide +kernel)
  (by first|exact .inl (by decide +kernel)|exact .inr (by decide +kernel)) (by rw[isSubtype_type];kernel_rfl)
theorem aXt:entryFor table "set_iterator.__next__"=some cK.«set_iterator.__next__»:=entryFor_of_tree (by kernel_rfl)
theorem aJe(a:ad):argsOk "set_iterator.__next__" ⟨[a],[]⟩:=by unfold argsOk;kernel_rfl
theorem cJb:typeLookup (.type "set") "__len__"=pure (some (.builtin "set.__len__")):=by rw[typeLookup_type,builtinLookup_eq_fast];kernel_rfl
section
variable{prog:aC}{w:aL}{A:aO}{E:ad->ah->Prop}{s:ah}
theorem dZl{p:Addr}{es:Array (Int×ad)}{ep:Nat}{t:cg}{Q:Bool->ah->Prop}(ho:s.heap.get? p=some (setOb es ep t))(h:Q false s):aF (az prog w) A (gx (.ref p)) Q E s:=by
 have j:s.TypeIs (.ref p) "set":=⟨_,ho,rfl⟩;unfold gx;refine aa (wpAny_specialOf j cJb ?_);dsimp only;have B:splitId "set.__len__"=some ("set", "__len__"):=by decide +kernel
 rw[B];dsimp only;refine aa (wpAny_isInstance (b:=true) j (by rw[isSubtype_type];kernel_rfl) ?_)
 rw[if_neg (show ¬ ((!true)=true) by decide)]
 refine gk (λz=>?_) (λz=>absurd (by decide +kernel) z)
 refine aa (gv j ?_);exact af h
theorem aJw{α:Type}{l:List α}{i:Nat}(h:i<l.length):(l[i]::l.eraseIdx i).Perm l:=by
 have e:l=l.take i++l[i]::l.drop (i+1):=by
  rw[<- bN h,a6]
 rw[List.eraseIdx_eq_take_drop_succ];refine List.perm_middle.symm.trans ?_;rw[<- e]
theorem dZm{n:Nat}{Q:Nat->ah->Prop}(hn:n≠0)(h:∀i,i<n->Q i {s with drawn:=s.drawn.bump .order}):aF (az prog w) A (choose .order n) Q E s:=fun Γ p hΓ=>by
 show Sem.wp _ _ (.choose .order n .pure) _ _ _ _;rw[Sem.wp_choose];exact⟨hn,h _ (Nat.mod_lt _ (Nat.pos_of_ne_zero hn))⟩
theorem eQr{α:Type}:∀(n:Nat) (xs:List α) {s:ah}{Q:List α->ah->Prop},xs.length=n->(∀ys d,ys.Perm xs->Q ys {s with drawn:=d})->aF (az prog w) A (drawOrder n xs) Q E s
 |0,xs,s,Q,hl,h=>by
  have e:xs=[]:=fA.mp hl;subst e;unfold drawOrder;exact af (h [] s.drawn (dh _))
 |n+1,xs,s,Q,hl,h=>by
  cases xs with
  |nil=>cases hl
  |cons x r =>
   unfold drawOrder;refine aa ?_;have j:(x::r).length≠0:=by simp
   refine dZm j λi hi=>?_;have B:(x::r)[i]?=some (x::r)[i]:=ag hi;rw[B];dsimp only;refine aa (eQr n ((x::r).eraseIdx i) (s:={s with drawn:=s.drawn.bump .order}) (by rw[gT hi];simp at hl ⊢;omega) λys d z=>?_)
   refine af (h _ d ?_);refine(z.cons _).trans ?_;exact aJw hi
theorem bZ0{α:Type}(next:Nat->Nat):∀(fuel k:Nat) (left:List α) (out:Array α),left.length=fuel->(jr next fuel k left out).toList.Perm (out.toList++left)
 |0,k,left,out,j=>by
  have e:left=[]:=fA.mp j;subst e;unfold jr;rw[bY]
 |fuel+1,k,left,out,j=>by
  unfold jr;have hi:next k%left.length<left.length:=Nat.mod_lt _ (by omega)
  rw[ag hi];dsimp only;refine(bZ0 next fuel (k+1) _ _ (by rw[gT hi];omega)).trans ?_
  rw[ca,aS];exact dN _ (aJw hi)
theorem aJs{α:Type}(next:Nat->Nat)(xs:Array α):(gE next xs).toList.Perm xs.toList:=by
 have:=bZ0 next xs.size 0 xs.toList #[] (by simp)
 simpa [gE] using this
def itOb(first:ad)(i:Nat)(p:Addr)(n ep:Nat):Obj:={cls:=.type "set_iterator",dict:=none,data:=.fields #[first,.int i 0,.ref p,.int n 0,.int ep 0],slots:=#[]}
theorem dZn{I:Addr}{Q:Option ad->ah->Prop}{s:ah}(hh:A.in1.handled=none)(h:∀h',(∀b o,s.heap.get? b=some o->h'.get? b=some o)->Q none {s with heap:=h'}) :
  aF (az prog w) A.in1 (newExc (.type "StopIteration") []>>=λe=>(raiseNew e:Sem Fin)) (λfin s'=>∃r,fin=.done (.ret r)/\aF (az prog w) A (pure (some r)) Q E s') (λe s'=>aF (az prog w) A (do if <- isInstance e (.type "StopIteration") then pure none else throw e) Q E s') s:=by
 refine aa ?_;simp only[newExc,newTuple];refine aa (bd ?_ (by size_fits))
 refine aa (m:=firstArgMember _ _) (wpAny_of_eq (a:=bJ) (by first|rfl|(simp only[firstArgMember];rfl)) ?_)
 refine bd ?_ (by size_fits)
 simp only[raiseNew];refine aa (wpAny_handled ?_);rw[hh];refine aa (af (wpAny_throw ?_));refine aa (wpAny_isInstance (T:="StopIteration") (b:=true) ⟨_,ax _ rfl,rfl⟩ isSubtype_stop ?_);exact af (h _ λb o e=>ae _ (ae _ e))
theorem aXd{I p:Addr}{es:Array (Int×ad)}{ep:Nat}{t:cg}{first:ad}{i:Nat}{Q:Option ad->ah->Prop}(hp:s.heap.get? p=some (setOb es ep t))(hf:t.fits es.size=true)(hI:s.heap.get? I=some (itOb first i p es.size ep))
  (h:aF (az prog w) A.in1 (if let .int slot _:=first then do
    match <- setNext p slot.toNat (i:Int).toNat (ep:Int).toNat with
    |some (x,next)=>do
     jc (.ref I) 0 (d4 next)
     jc (.ref I) 1 (d4 ((i:Int)+1))
     ret x
    |none=>do jc (.ref I) 2 .none;raiseNew (<- newExc (.type "StopIteration") [])
   else do
    let some places <- seqItems? first|gg "internal:set_iterator"
    match places[(i:Int).toNat]? with
    |some (.int place _)=>do
     let x <- setNextDrawn p place.toNat (ep:Int).toNat
     jc (.ref I) 1 (d4 ((i:Int)+1))
     ret x
    |some _=>gg "internal:set_iterator"
    |none=>do jc (.ref I) 0 (d4 0);jc (.ref I) 2 .none;raiseNew (<- newExc (.type "StopIteration") []))
   (λfin s'=>∃r,fin=.done (.ret r)/\aF (az prog w) A (pure (some r)) Q E s') (λe s'=>aF (az prog w) A (do if <- isInstance e (.type "StopIteration") then pure none else throw e) Q E s') s) :
  aF (az prog w) A (fj (.ref I)) Q E s:=by
 have j:s.TypeIs (.ref I) "set_iterator":=⟨_,hI,rfl⟩;unfold fj;refine aa (wpAny_attempt (fy (name:=Str.ofString "__next__") j slot_setit_next
  (dD slot_setit_next j aXt ?_ (aJe _))))
 unfold cK.«set_iterator.__next__» slotArgs;simp only[iD,Bool.not_true,cA,↓reduceIte,bind_assoc,dr,bne_self_eq_false];refine aa (af ?_)
 try dsimp only
 refine aa (wpAny_fieldsOf hI rfl ?_);dsimp only;refine aa (wpAny_setEntries_of hp rfl hf ?_);rw[if_neg (by simp)]
 exact h
structure Gives(prog:aC)(w:aL)(A:aO)(I:Addr)(fp:List Addr)(vals:List ad)(St:Nat->aY->Prop):Prop where
 mem:I∈fp
 frame:∀i h h',St i h->(∀b∈fp,∀o,h.get? b=some o->h'.get? b=some o)->St i h'
 item:∀(i:Nat) (s:ah) (v:ad) (Q:Option ad->ah->Prop) (E:ad->ah->Prop),vals[i]?=some v->St i s.heap ->
  (∀h',St (i+1) h'->(∀b o,b≠I->s.heap.get? b=some o->h'.get? b=some o)->Q (some v) {s with heap:=h'})->aF (az prog w) A (fj (.ref I)) Q E s
 done:∀(s:ah) (Q:Option ad->ah->Prop) (E:ad->ah->Prop),St vals.length s.heap ->
  (∀h',(∀b o,b≠I->s.heap.get? b=some o->h'.get? b=some o)->Q none {s with heap:=h'})->aF (az prog w) A (fj (.ref I)) Q E s
theorem bXl{p:Addr}{es:Array (Int×ad)}{ep i:Nat}{t:cg}{Q:Option (ad×Nat)->ah->Prop}(hp:s.heap.get? p=some (setOb es ep t))(hf:t.fits es.size=true)(hw:w.params.followText "set-order"=true)
  (h:Q (((gE (w.params.setOrder p ep) es)[i]?).map λe=>(e.2,0)) s):aF (az prog w) A (setNext p (0:Int).toNat (i:Int).toNat (ep:Int).toNat) Q E s:=by
 unfold setNext;refine aa (dX hp rfl hf ?_);dsimp only;unfold iT;refine aa (aa (da (af ?_)));have j:(az prog w).w.params.followText "set-order"=true:=hw;rw[j,if_pos rfl,if_neg (by simp)]
 unfold setWalk;refine aa (aa (dX hp rfl hf ?_));dsimp only;unfold iT;refine aa (aa (da (af ?_)));rw[j,if_pos rfl];refine aa (da ?_);refine af (af ?_);rw[cv];exact h
theorem eQs{p I T:Addr}{es:Array (Int×ad)}{ep:Nat}{t:cg}{vals:List ad}{places:Array ad}(hh:A.in1.handled=none)(hTI:T≠I)(hpI:p≠I)(hl:places.size=vals.length)
  (hpl:∀(j:Nat) (pl:ad),places[j]?=some pl->∃q:Nat,pl=gC (q:Int) 0/\∃e,es[q]?=some e/\vals[j]?=some e.2) :
  Gives prog w A I [I,p,T] vals (λi h=>h.get? p=some (setOb es ep t)/\t.fits es.size=true/\h.get? I=some (itOb (.ref T) i p es.size ep)/\∃o c,h.get? T=some o/\o.data=.seq places c) where
 mem:=by simp
 frame:=λi h h' st k=>by
  obtain⟨h1,h2,z,o,c,D,B⟩:=st;exact⟨k p (by simp) _ h1,h2,k I (by simp) _ z,o,c,k T (by simp) _ D,B⟩
 item:=λi s v Q E U st L=>by
  obtain⟨h1,h2,z,o,c,D,B⟩:=st;refine aXd h1 h2 z ?_;dsimp only;refine aa (fM D B ?_);dsimp only;have hi:i<places.size:=by rw[hl];exact(aE.mp U).1
  obtain⟨q,e1,e,e2,Y⟩:=hpl i places[i] (by simp[hi])
  have O:places[(i:Int).toNat]?=some (gC (q:Int) 0):=by rw[cv,<- e1];simp[hi]
  rw[O];dsimp only;have ev:e.2=v:=by rw[U] at Y;exact(aM Y).symm
  refine aa ?_;unfold setNextDrawn;refine aa (dX h1 rfl h2 ?_);dsimp only;rw[if_neg (by simp),cv,e2]
  dsimp only;refine af ?_;refine aa (cB z (by show 1<5;decide) λh' g1 g2=>?_)
  rw[ev];refine af ⟨v,rfl,af (L h' ⟨?_,h2,?_,o,c,?_,B⟩ λb o' J e=>(g2.2 b J).trans e)⟩
  ·exact(g2.2 p hpI).trans h1
  ·exact g1
  ·exact(g2.2 T hTI).trans D
 done:=λs Q E st L=>by
  obtain⟨h1,h2,z,o,c,D,B⟩:=st;refine aXd h1 h2 z ?_;dsimp only;refine aa (fM D B ?_);dsimp only;have O:places[(vals.length:Int).toNat]?=none:=by rw[cv,<- hl];simp
  rw[O];dsimp only;refine aa (cB z (by show 0<5;decide) λh' g1 g2=>?_)
  refine aa (cB g1 (by show 2<5;decide) λZ g3 g4=>?_)
  exact dZn (I:=I) hh λN k=>L N λb o' J e=>k b o' ((g4.2 b J).trans ((g2.2 b J).trans e))
theorem eQt{p I:Addr}{es:Array (Int×ad)}{ep:Nat}{t:cg}{vals:List ad}(hh:A.in1.handled=none)(hpI:p≠I)(hw:w.params.followText "set-order"=true)(hv:vals=(gE (w.params.setOrder p ep) es).toList.map (·.2)) :
  Gives prog w A I [I,p] vals (λi h=>h.get? p=some (setOb es ep t)/\t.fits es.size=true/\h.get? I=some (itOb (.int 0 0) i p es.size ep)) where
 mem:=by simp
 frame:=λi h h' st k=>by
  obtain⟨h1,h2,j⟩:=st;exact⟨k p (by simp) _ h1,h2,k I (by simp) _ j⟩
 item:=λi s v Q E hv' st J=>by
  obtain⟨h1,h2,j⟩:=st;refine aXd h1 h2 j ?_;dsimp only;refine aa (bXl h1 h2 hw ?_);have N:((gE (w.params.setOrder p ep) es)[i]?).map (λe=>(e.2,0))=some (v,0):=by
   rw[hv,aK,aT] at hv';cases q:(gE (w.params.setOrder p ep) es)[i]? with
   |none=>rw[q] at hv';cases hv'
   |some e=>rw[q] at hv';cases hv';rfl
  rw[N];dsimp only;refine aa (cB j (by show 0<5;decide) λh' g1 g2=>?_)
  refine aa (cB g1 (by show 1<5;decide) λz g3 D=>?_)
  refine af ⟨v,rfl,af (J z ⟨?_,h2,g3⟩ λb o' B e=>(D.2 b B).trans ((g2.2 b B).trans e))⟩;exact(D.2 p hpI).trans ((g2.2 p hpI).trans h1)
 done:=λs Q E st J=>by
  obtain⟨h1,h2,j⟩:=st;refine aXd h1 h2 j ?_;dsimp only;refine aa (bXl h1 h2 hw ?_);have N:(gE (w.params.setOrder p ep) es)[vals.length]?=none:=by
   rw[hv];simp
  rw[N];dsimp only[Option.map];refine aa (cB j (by show 2<5;decide) λz g3 D=>?_)
  exact dZn (I:=I) hh λL k=>J L λb o' B e=>k b o' ((D.2 b B).trans e)
end
end ST
set_option maxHeartbeats 4000000
namespace ST
open PySem PySem.SetTable PySem.Spec PyProof.Rows
section
variable{prog:aC}{w:aL}{A:aO}{E:ad->ah->Prop}{s:ah}
theorem bZ1{p:Addr}{es:Array (Int×ad)}{ep i sl:Nat}{t:cg}{Q:Option (ad×Nat)->ah->Prop}(hp:s.heap.get? p=some (setOb es ep t))(hf:t.fits es.size=true)(hw:w.params.followText "set-order"=false)(hled:t.led=true)(h1:es.size<=1)
  (h:Q (match es[below t.place sl]?,t.place[below t.place sl]? with|some (_,x),some j=>some (x,j+1)|_,_=>none) s):aF (az prog w) A (setNext p (sl:Int).toNat (i:Int).toNat (ep:Int).toNat) Q E s:=by
 unfold setNext;refine aa (dX hp rfl hf ?_);dsimp only;unfold iT;refine aa (aa (da (af ?_)));have z:(az prog w).w.params.followText "set-order"=false:=hw;rw[z,if_neg dI];refine gk (λD=>?_) (λ_=>?_)
 ·have B:(!t.plain&&decide (es.size>1))=true:=D;simp only[a4,decide_eq_true_eq] at B;lia
 ·refine aa ?_;show aF _ _ (if (!t.led && !es.isEmpty)=true then gg "set:maker-not-led" else pure ()) _ _ _
  rw[hled,if_neg (by simp)]
  refine af ?_;refine af ?_;rw[cv];exact h
theorem bZ2(j sl:Nat):below #[j] sl=if j<sl then 1 else 0:=by
 unfold below;simp only[aq,List.length_singleton];unfold below.go;simp only[Nat.lt_irrefl,if_true,Nat.zero_lt_one]
 split
 ·rename_i h;have h':j<sl:=by simpa using h
  rw[if_pos h'];rfl
 ·rename_i h;have h':¬ j<sl:=by simpa using h
  rw[if_neg h'];rfl
theorem bXm{es:Array (Int×ad)}{t:cg}(hf:t.fits es.size=true):t.place.size=es.size:=by
 unfold cg.fits at hf;simp only[a4,beq_iff_eq] at hf;exact hf.1
theorem eQu{p I:Addr}{es:Array (Int×ad)}{ep:Nat}{t:cg}{vals:List ad}(hh:A.in1.handled=none)(hpI:p≠I)(hw:w.params.followText "set-order"=false)(hled:t.led=true)(h1s:es.size<=1)(hv:vals=es.toList.map (·.2)) :
  Gives prog w A I [I,p] vals (λi h=>h.get? p=some (setOb es ep t)/\t.fits es.size=true/\∃sl:Nat,h.get? I=some (itOb (.int sl 0) i p es.size ep)/\(i=0->sl=0)/\(i=1->∀j,t.place=#[j]->sl=j+1)) where
 mem:=by simp
 frame:=λi h h' st k=>by
  obtain⟨h1,h2,sl,D,U⟩:=st;exact⟨k p (by simp) _ h1,h2,sl,k I (by simp) _ D,U⟩
 item:=λi s v Q E B st hQ=>by
  obtain⟨h1,h2,sl,D,U,h5⟩:=st;refine aXd h1 h2 D ?_;dsimp only;refine aa (bZ1 h1 h2 hw hled h1s ?_);have hi:i<es.size:=by
   have:=(aE.mp B).1
   rw[hv] at this;simpa using this
  have i0:i=0:=by lia
  subst i0;have Z:=U rfl;subst Z;have hps:=bXm h2;obtain⟨j,N⟩:∃j,t.place=#[j]:=by
   have:t.place.size=1:=by lia
   exact⟨t.place[0],Array.ext (by simp[this]) λk hk1 hk2=>by
    have:k=0:=by lia
    subst this;simp⟩
  rw[N,bZ2,if_neg (Nat.not_lt_zero _)];have ee:es[0]?=some es[0]:=by simp[hi]
  have e0:es[0].2=v:=by
   rw[hv,aK,aT,ee] at B;exact aM B
  have e1:es[0]?=some (es[0].1,v):=by rw[ee,<- e0]
  have e2:(#[j]:Array Nat)[0]?=some j:=rfl;rw[e1,e2];dsimp only;refine aa (cB D (by show 0<5;decide) λh' g1 g2=>?_)
  refine aa (cB g1 (by show 1<5;decide) λJ g3 Y=>?_)
  refine af ⟨v,rfl,af (hQ J ⟨?_,h2,j+1,g3,(λz=>nomatch z),λ_ j' L=>?_⟩ λb o' O e=>(Y.2 b O).trans ((g2.2 b O).trans e))⟩
  ·exact(Y.2 p hpI).trans ((g2.2 p hpI).trans h1)
  ·rw[N] at L
   have:=congrArg (λa:Array Nat=>a[0]?) L
   simp at this;rw[this]
 done:=λs Q E st hQ=>by
  obtain⟨h1,h2,sl,D,U,h5⟩:=st;refine aXd h1 h2 D ?_;dsimp only;refine aa (bZ1 h1 h2 hw hled h1s ?_);have hlen:vals.length=es.size:=by rw[hv];simp
  have hps:=bXm h2;have nn:es[below t.place sl]?=none:=by
   by_cases c:es.size=0
   ·simp[c]
   ·have c1:es.size=1:=by lia
    obtain⟨j,N⟩:∃j,t.place=#[j]:=by
     have:t.place.size=1:=by lia
     exact⟨t.place[0],Array.ext (by simp[this]) λk hk1 hk2=>by
      have:k=0:=by lia
      subst this;simp⟩
    have:=h5 (by lia) j N
    rw[N,bZ2,if_pos (by lia)]
    simp[c1]
  rw[nn];dsimp only;refine aa (cB D (by show 2<5;decide) λJ g3 Y=>?_)
  exact dZn (I:=I) hh λh3' k=>hQ h3' λb o' O e=>k b o' ((Y.2 b O).trans e)
theorem eJm{p:Addr}{es:Array (Int×ad)}{ep:Nat}{t:cg}{Q:ad->ah->Prop}(hh:A.in1.handled=none)(hp:s.heap.get? p=some (setOb es ep t))(hf:t.fits es.size=true)(hled:t.led=ledOf w)(hpl:t.plain=true->es.size<=1)(hn:es.size<=300)
  (h:∀I fp vals St h' d,vals.Perm (es.toList.map (·.2))->Gives prog w A I fp vals St->St 0 h'->s.heap.objs.size<=I->(∀b∈fp,b=p\/s.heap.objs.size<=b)->(∀b o,s.heap.get? b=some o->h'.get? b=some o)->Q (.ref I) {s with heap:=h',drawn:=d}) :
  aF (az prog w) A (pyIter (.ref p)) Q E s:=by
 have hT:s.TypeIs (.ref p) "set":=⟨_,hp,rfl⟩;have Y:p<s.heap.objs.size:=aD hp;refine wpAny_pyIter_slot hT i9 (dD i9 hT aJr ?_ (PySem.F.args_set_iter_1 _));unfold cK.«frozenset.__iter__» cK.Frozenset.slot0 slotArgs;simp only[iD,Bool.not_true,cA,↓reduceIte,bind_assoc,dr,bne_self_eq_false];unfold ip cK.Frozenset.sizeOf;refine aa (af ?_)
 try dsimp only
 refine aa (af ?_);refine aa (aa (wpAny_setEntries_of hp rfl hf (af ?_)));unfold setDrawn iT;refine aa (aa (dX hp rfl hf ?_));dsimp only;refine aa (aa (da (af ?_)));refine af ?_;have fin:∀(first:ad) (h1:aY) (d:Drawn) (Q':Fin->ah->Prop),h1.get? p=some (setOb es ep t) ->
   Q' (.done (.ret (.ref h1.objs.size))) {s with heap:=h1.push (itOb first 0 p es.size ep),drawn:=d} ->
   aF (az prog w) A.in1 (do
    let e <- setEpoch p
    let v <- newFields "set_iterator" [first,d4 0,.ref p,d4 es.size,d4 e]
    ret v) Q' E {s with heap:=h1,drawn:=d}:=by
  intro first h1 d Q' ho hQ';refine aa (wpAny_setEpoch_of (s:={s with heap:=h1,drawn:=d}) ho rfl hf ?_)
  exact aa (bd (af hQ'))
 refine gk (λhc=>?_) (λhc=>?_)
 ·refine aa (eQr es.size (bu es.size) (by simp) λys d B=>?_)
  have yl:ys.length=es.size:=by have:=B.length_eq;simpa using this
  have yr:∀q∈ys,q<es.size:=λq hq=>bO.mp (B.mem_iff.mp hq);obtain⟨f1,f2⟩:=cQp (l:=ys) (f:=λq=>(es[q]?).map (·.2)) (λq hq=>by have:=yr q hq;simp[this])
  refine aa (bd ?_ (by show(ys.map λ(i:Nat)=>d4 i).toArray.size<=sizeLine;rw[aq,am,yl,aW];lia))
  generalize N:s.heap.push _=h1;have D:h1.objs.size=s.heap.objs.size+1:=by rw[<- N,d5]
  have old:∀b o,s.heap.get? b=some o->h1.get? b=some o:=λb o e=>by rw[<- N];exact ae _ e
  have hTup:h1.get? s.heap.objs.size=some {cls:=.type "tuple",dict:=none,data:=.seq (ys.map λ(i:Nat)=>d4 i).toArray}:=by rw[<- N];exact ax _ rfl
  refine fin (.ref s.heap.objs.size) h1 d _ (old p _ hp) ?_;have G:=eQs (prog:=prog) (w:=w) (A:=A) (p:=p) (I:=h1.objs.size) (T:=s.heap.objs.size) (es:=es) (ep:=ep) (t:=t) (vals:=ys.filterMap λq=>(es[q]?).map (·.2)) (places:=(ys.map λ(i:Nat)=>d4 i).toArray) hh (by rw[D];exact Nat.ne_of_lt (Nat.lt_succ_self _)) (by rw[D];exact Nat.ne_of_lt (Nat.lt_succ_of_lt Y)) (by simp[f1]) (λj pl hj=>by
   have hj':(ys.map λ(i:Nat)=>d4 i)[j]?=some pl:=by simpa using hj
   rw[aK] at hj';cases q:ys[j]? with
   |none=>rw[q] at hj';cases hj'
   |some z =>
    rw[q] at hj';have hz:=yr z (ao q);refine⟨z,(aM hj').symm,es[z],by simp[hz],?_⟩
    rw[f2 j,q];simp[hz])
  refine⟨_,rfl, "set_iterator",_,⟨_,ax _ rfl,rfl⟩,slot_setit_next.lookup,h _ _ _ _ _ d ?_ G ⟨ae _ (old p _ hp),hf,ax _ rfl,_,_,ae _ hTup,rfl⟩ (by rw[D];exact Nat.le_succ _) (λb Z=>?_) λb o e=>ae _ (old b o e)⟩
  ·refine(B.filterMap _).trans ?_;have e:(bu es.size).filterMap (λq=>(es[q]?).map (·.2))=es.toList.map (·.2):=by
    rw[<- cJ8 es,List.map_filterMap]
   rw[e]
  ·simp only[aQ,eW,or_false] at Z;rcases Z with e|e|e
   ·right;rw[e,D];exact Nat.le_succ _
   ·exact .inl e
   ·right;rw[e];exact Nat.le_refl _
 ·refine aa (af ?_);refine fin (d4 0) s.heap s.drawn _ hp ?_;have O:p≠s.heap.objs.size:=Nat.ne_of_lt Y;have small:∀b∈[s.heap.objs.size,p],b=p\/s.heap.objs.size<=b:=λb Z=>by
   simp only[aQ,eW,or_false] at Z;rcases Z with e|e
   ·right;rw[e];exact Nat.le_refl _
   ·exact .inl e
  by_cases hw:w.params.followText "set-order"=true
  ·have G:=eQt (prog:=prog) (w:=w) (A:=A) (p:=p) (I:=s.heap.objs.size) (es:=es) (ep:=ep) (t:=t) hh O hw rfl;exact⟨_,rfl, "set_iterator",_,⟨_,ax _ rfl,rfl⟩,slot_setit_next.lookup,h _ _ _ _ _ s.drawn ((aJs _ _).map _) G ⟨ae _ hp,hf,ax _ rfl⟩ (Nat.le_refl _) small λb o e=>ae _ e⟩
  ·have L:w.params.followText "set-order"=false:=fJ.mpr hw;have h1:es.size<=1:=by
    have J:¬ ((!(w.params.followText "set-order")&&(!t.plain&&decide (es.size>1)))=true):=hc;rw[L] at J
    by_cases U:t.plain=true
    ·exact hpl U
    ·have:t.plain=false:=fJ.mpr U
     rw[this] at J;simp at J;exact J
   have hl':t.led=true:=by rw[hled];show(!(w.params.followText "set-order"))=true;rw[L];rfl
   have G:=eQu (prog:=prog) (w:=w) (A:=A) (p:=p) (I:=s.heap.objs.size) (es:=es) (ep:=ep) (t:=t) hh O L hl' h1 rfl;exact⟨_,rfl, "set_iterator",_,⟨_,ax _ rfl,rfl⟩,slot_setit_next.lookup,h _ _ _ _ _ s.drawn (dh _) G ⟨ae _ hp,hf,0,ax _ rfl,λ_=>rfl,(λz=>nomatch z)⟩ (Nat.le_refl _) small λb o e=>ae _ e⟩
theorem cJc{I S:Addr}{fp:List Addr}{vals:List ad}{St:Nat->aY->Prop}{R:Result->ah->Prop}(G:Gives prog w A.in1 I fp vals St)(hn:vals.length<=300)(hSf:S∉fp)(res:ad) :
  ∀(k i:Nat) (s:ah) (c:Nat),vals.length-i=k->i<=vals.length->St i s.heap->s.heap.get? S=some {cls:=.type "list",dict:=none,data:=.seq (vals.take i).toArray c,slots:=#[]} ->
  (∀h' c',(∀b o,b≠S->b≠I->s.heap.get? b=some o->h'.get? b=some o)->h'.get? S=some {cls:=.type "list",dict:=none,data:=.seq vals.toArray c',slots:=#[]}->R (.ok (.ret res)) {s with heap:=h'}) ->
  eF (az prog w) A (.builtin "list.extend.loop" ⟨[.ref S,.ref I,res],[]⟩) R s:=by
 have N:S≠I:=λe=>hSf (e▸G.mem);intro k
 induction k with
 |zero =>
  intro i s c hk hi j Y hR;have hin:i=vals.length:=by lia
  subst hin;refine cH g6 ?_;rw[bH dP _];show aF _ A.in1 (fj (.ref I)>>=_) _ _ s;refine aa (G.done s _ _ j λh' D=>?_);rw[bQ (Nat.le_refl _)] at Y;exact af (hR h' c (λb o _ hb e=>D b o hb e) (D S _ N Y))
 |succ k ih =>
  intro i s c hk hi j Y hR;have B:i<vals.length:=by lia
  have hv:vals[i]?=some vals[i]:=ag B;refine cH g6 ?_;rw[bH dP _];show aF _ A.in1 (fj (.ref I)>>=_) _ _ s;refine aa (G.item i s _ _ _ hv j λh1 Z k1=>?_);have U:=k1 S _ N Y;have szl:=aW;have z:(vals.take i).toArray.size=i:=by rw[aq,aV];lia
  show aF _ A.in1 (updateSeq S (·.push vals[i])>>=_) _ _ _;refine aa ?_;refine eB (s:={s with heap:=h1}) U rfl (af ⟨cV dP _,?_⟩) (by rw[z];lia) (by show((vals.take i).toArray.push vals[i]).size<=sizeLine+1;rw[cZ,z];lia)
  have hS2:=c7 (ba (·.push vals[i])) U rfl;have et:(vals.take i).toArray.push vals[i]=(vals.take (i+1)).toArray:=by
   rw[cw,hv];simp
  obtain⟨c1,O⟩:∃c1,(h1.update S (ba (·.push vals[i]))).get? S=some {cls:=.type "list",dict:=none,data:=.seq (vals.take (i+1)).toArray c1,slots:=#[]}:=⟨_,by rw[<- et];exact hS2⟩
  refine ih (i+1) {s with heap:=h1.update S (ba (·.push vals[i]))} c1 (by lia) B (G.frame _ _ _ Z λb hb o e=>(a7 _ _ (λh:S=b=>hSf (by rw[h];exact hb))).trans e) O λh' c' a1 a2=>?_
  ·exact hR h' c' (λb o L J e=>a1 b o L J ((a7 _ _ (cy L)).trans (k1 b o J e))) a2
theorem collectT{p:Addr}{es:Array (Int×ad)}{ep:Nat}{t:cg}{Q:List ad->ah->Prop}(hh:A.handled=none)(hp:s.heap.get? p=some (setOb es ep t))(hf:t.fits es.size=true)(hled:t.led=ledOf w)(hpl:t.plain=true->es.size<=1)(hn:es.size<=300)
  (h:∀vals h' d,vals.Perm (es.toList.map (·.2))->(∀b o,s.heap.get? b=some o->h'.get? b=some o)->Q vals {s with heap:=h',drawn:=d}):aF (az prog w) A (collect (.ref p)) Q E s:=by
 have N:p<s.heap.objs.size:=aD hp;have hT:∀s':ah,s'.heap.get? p=some (setOb es ep t)->s'.TypeIs (.ref p) "set":=λs' e=>⟨_,e,rfl⟩;unfold collect;refine aa (wpAny_runValue (cH PySem.F.entry_proto_collect ?_));rw[bH PySem.F.plain_proto_collect _];show aF _ A.in1 (newList []>>=λl=>again (.builtin "list.__iadd__" ⟨[l,.ref p],[]⟩)) _ _ s;refine aa (bd ?_);refine af ⟨cV iE _,cH PySem.F.entry_list_iadd ?_⟩;rw[bH iE _];show aF _ A.in1 (gy (.ref s.heap.objs.size) (.ref p) (.ref s.heap.objs.size)) _ _ _;generalize J:s.heap.push _=h1;have old:∀b o,s.heap.get? b=some o->h1.get? b=some o:=λb o e=>by rw[<- J];exact ae _ e
 have L:h1.objs.size=s.heap.objs.size+1:=by rw[<- J,d5]
 have hS1:h1.get? s.heap.objs.size=some {cls:=.type "list",dict:=none,data:=.seq #[] 0,slots:=#[]}:=by rw[<- J];exact ax _ rfl
 have D:=old p _ hp;unfold gy;refine aa (gv (hT {s with heap:=h1} D) ?_)
 have e1:iq (.ref s.heap.objs.size) (.ref p)=false:=by simp[iq,Nat.ne_of_gt N]
 rw[if_neg (by rw[e1];decide)]
 refine aa (eJm (s:={s with heap:=h1}) hh D hf hled hpl hn λI fp vals St h2 d B G Z hI hfp k2=>?_)
 have hvl:vals.length=es.size:=by have:=B.length_eq;simpa using this
 have hI':h1.objs.size<=I:=hI;have hSI:s.heap.objs.size≠I:=by lia
 refine aa (bM (dZl (k2 p _ D) ?_));have O:s.heap.objs.size∉fp:=λz=>by
  have q:=hfp _ z;have q':s.heap.objs.size=p\/h1.objs.size<=s.heap.objs.size:=q;rcases q' with e|e
  ·exact absurd e (Nat.ne_of_gt N)
  ·rw[L] at e;exact absurd e (Nat.not_succ_le_self _)
 refine gk (λ_=>?_) (λhc=>absurd (by decide +kernel) hc)
 refine aa (cJ ?_);refine aa ?_;have Y:=k2 _ _ hS1;show aF _ _ (updateSeq s.heap.objs.size (·.push .none)>>=λ_=>updateSeq s.heap.objs.size (·.pop)) _ _ _;refine aa (eB Y rfl ?_);have U:=c7 (ba (·.push bJ)) Y rfl;refine eB (hz:=by seq_fits) U rfl ?_
 have hS4:=c7 (ba (·.pop)) U rfl;refine af ⟨cV dP _,?_⟩;refine cJc G (by lia) O _ (vals.length-0) 0 _ _ rfl (Nat.zero_le _) (G.frame _ _ _ Z λb hb o e=>?_) hS4 λh' c' a1 a2=>?_
 ·have j:b≠s.heap.objs.size:=λz=>O (z▸hb);exact(a7 _ _ (cy j)).trans ((a7 _ _ (cy j)).trans e)
 ·show aF _ A (load s.heap.objs.size>>=_) _ _ _;refine aa (wpAny_load a2 ?_)
  have:=h vals h' d B λb o e=>?_
  ·exact af this
  ·have j:b≠s.heap.objs.size:=Nat.ne_of_lt (aD e);have hbI:b≠I:=Nat.ne_of_lt (Nat.lt_of_lt_of_le (aD e) (Nat.le_trans (by rw[L];exact Nat.le_succ _) hI'))
   exact a1 b o j hbI ((a7 _ _ (cy j)).trans ((a7 _ _ (cy j)).trans (k2 b o (old b o e))))
end
end ST
namespace KS
open PySem PySem.W PyProof.Rows
def TS(h:aY)(v:ad)(d:List Str):Prop:=∃b items,v=.ref b/\gH h b items/\HT.SAre items.toList d
section
variable{prog:aC}{w:aL}{A:aO}{E:ad->ah->Prop}{s:ah}
theorem dQg{Q:Bool->ah->Prop}:∀{us vs:List ad}{d e:List Str}(i:Nat) {fin:Bool},HT.SAre us d->HT.SAre vs e->fin=decide (d.length<e.length)->Q (HT.lexS d e) s->KatLex prog w A true fin Q (us.zip vs) i s
 |_,_,_,_,i,fin,.nil,.nil,hf,h=>by subst hf;exact kat_nil h
 |_,_,_,_,i,fin,.nil,.cons _ _,hf,h=>by
  subst hf;rw[eH];rw[HT.lexS_nil_cons] at h;exact kat_nil (by simpa using h)
 |_,_,_,_,i,fin,.cons _ _,.nil,hf,h=>by
  subst hf;rw[eg];rw[HT.lexS_cons_nil] at h;exact kat_nil (by simpa using h)
 |_,_,x::d,y::e,i,fin,.cons ⟨t,B⟩ p,.cons ⟨u,j⟩ q,hf,h=>by
  subst B j;rw[cb];rw[HT.lexS_cons] at h;refine kat_cons (gS x t y u _ _ _ _ ?_);refine kat_go (λz=>kat_yes (dQg (i+1) p q (by subst hf;simp) (by rw[if_pos (by simpa using z)] at h;exact h))) λz=>kat_no ?_
  rw[if_neg (by simpa using z)] at h
  cases i with
  |zero=>exact oneLt_str h
  |succ i =>
   show aF _ _ (oneLt' false _ _) _ _ _;exact kat_one _ _ (jm (show iF Q (.bool (HT.ltS x y)) s from h))
theorem cQw{x y:ad}{d e:List Str}{Q:Bool->ah->Prop}(hx:TS s.heap x d)(hy:TS s.heap y e)(h:Q (HT.lexS d e) s):aF (az prog w) A (keyLt' (tuples' true) x y) Q E s:=by
 obtain⟨b,items,rfl,⟨o,J,_,n,hd⟩,p⟩:=hx;obtain⟨O,j,rfl,⟨L,z,_,N,hd2⟩,p2⟩:=hy;refine kat_lt J hd z hd2 (dQg 0 p p2 ?_ h);have D:=p.len;have B:=p2.len;simp only[aJ] at D B;rw[D,B]
theorem bJk{x y:ad}{d e:List Str}{Q:Bool->ah->Prop}(hu:A.units<bU)(hx:TS s.heap x d)(hy:TS s.heap y e)(h:Q (HT.lexS d e) s):aF (az prog w) A (keyLt' general' x y) Q E s:=by
 obtain⟨b,items,rfl,t1,p⟩:=hx;obtain⟨B,j,rfl,z,p2⟩:=hy;show aF _ _ (oneLt' false _ _) _ _ _;exact kat_one _ _ (HT.lt_tupStrs t1 z p p2 hu (show iF Q (.bool (HT.lexS d e)) s from h))
theorem eQv{x y:ad}{d e:List Str}{Q:Bool->ah->Prop}(hu:A.units<bU)(hx:TS s.heap x d)(hy:TS s.heap y e)(h:Q (HT.lexS d e) s):aF (az prog w) A (keyLt' jd x y) Q E s:=by
 obtain⟨b,items,rfl,t1,p⟩:=hx;obtain⟨Z,j,rfl,U,p2⟩:=hy;rw[gU,oneLt'_eq];simp only[if_true];obtain⟨⟨cls,dd,data,sl⟩,J,N,n,hd⟩:=id t1;obtain⟨⟨O,L,data2,B⟩,D,z,Y,hd2⟩:=id U;simp only at N hd z hd2;subst N hd z hd2;refine aa (wpAny_cRoomFor hu ?_);refine aa (fZ ⟨_,J,rfl⟩ c8 (iS c8 ⟨_,J,rfl⟩ eh (d6 _ _) (HT.tuple_lt_strs b Z items j n Y dd L sl B d e p p2) ⟨J,D,?_⟩));exact cW h
theorem bZ3:∀{vs:List ad}{ds:List (List Str)}{Q:List (Option ad)->ah->Prop},bx (TS s.heap) vs ds->(∀fs:List (Option ad),bx (λf d=>match f with|none=>d=[]|some v=>∃x r t,d=x::r/\v=.str x t) fs ds->Q fs s)->aF (az prog w) A (vs.mapM firstOfTuple') Q E s
 |_,_,_,.nil,h=>by rw[jp];exact af (h [] .nil)
 |_,_,Q,.cons p q,h=>by
  obtain⟨b,items,rfl,⟨o,j,J,n,hd⟩,sa⟩:=p;rw[je];refine aa ?_;rw[kas_first_eq];refine aa (Looks.here (show Looks (az prog w) s.heap (typeOf (.ref b)) o.cls from(Looks.ld j).andThen .now) ?_)
  rw[J,if_neg (by first|decide|simp)]
  refine aa (listItems_at j hd (af ?_));refine aa (bZ3 q λfs B=>af (h _ (.cons ?_ B)));obtain⟨items⟩:=items;have sa:HT.SAre items _:=sa;have e:(Array.mk items)[0]?=items[0]?:=by simp
  rw[e];cases sa with
  |nil=>rfl
  |cons z _=>obtain⟨t,D⟩:=z;exact⟨_,_,t,rfl,D⟩
theorem dZo{vs:List ad}{ds:List (List Str)}{Q:dJ->ah->Prop}(p:bx (TS s.heap) vs ds)(hne:vs≠[])(h:∀κ,κ=tuples' true\/κ=general'\/κ=jd->Q κ s):aF (az prog w) A (keyKind' vs.toArray) Q E s:=by
 rw[kat_kind_eq,eJ,map_eq_pure_bind];refine aa (aa (bZ3 p λfs N=>af ?_))
 by_cases j:(fs.toArray.all λx=>x.isSome)=true
 ·rw[if_pos j];refine aa (cJ ?_);rw[oneTypeOnly'_eq];have L:∀v∈(fs.toArray.filterMap id).toList,∃x t,v=.str x t:=λv L=>by
   simp only[Array.toList_filterMap,fk,id] at L;obtain⟨f,hf,rfl⟩:=L
   have:∀{fs:List (Option ad)}{ds:List (List Str)},bx (λf d=>match f with|none=>d=[]|some v=>∃x r t,d=x::r/\v=.str x t) fs ds->some v∈fs->∃x t,v=.str x t:=by
    intro fs ds N
    induction N with
    |nil=>intro hm;cases hm
    |cons z _ O =>
     intro hm;rcases aQ.mp hm with e|hm
     ·subst e;obtain⟨x,r,t,_,e⟩:=z;exact⟨x,t,e⟩
     ·exact O hm
   exact this N hf
  have B:(fs.toArray.filterMap id).toList≠[]:=by
   have Y:fs.length=vs.length:=by have:=cQ p;have:=cQ N;lia
   cases fs with
   |nil=>exact absurd (bL (by simpa using Y.symm)) hne
   |cons f fs =>
    simp only[List.all_toArray,ir,a4] at j;obtain⟨v,rfl⟩:=de.mp j.1;simp
  generalize (fs.toArray.filterMap id)=gs at L B;obtain⟨gs⟩:=gs;rw[eJ,map_eq_pure_bind];refine aa (aa (aa (kas_mapM (r:=dG "str") gs (λv D Q' U=>?_) (af ?_))))
  ·obtain⟨x,t,rfl⟩:=L v D;exact af U
  ·obtain⟨g,gr,rfl⟩:∃g gr,gs=g::gr:=by
    cases gs with
    |nil=>exact absurd rfl B
    |cons g gr=>exact⟨g,gr,rfl⟩
   have h0:(List.map (λ_=>dG "str") (g::gr)).toArray[0]?=some (dG "str"):=by simp
   have J:((List.map (λ_=>dG "str") (g::gr)).toArray.all λx=>x==dG "str")=true:=by
    simp only[List.all_toArray,fN,bI];intro _ _;simp
   rw[h0];simp only[J,if_true];exact af (af (h _ (.inl rfl)))
 ·rw[if_neg j]
  by_cases h1:((fs.toArray[0]?.bind id).isSome)=true
  ·rw[if_pos h1];exact af (h _ (.inr (.inl rfl)))
  ·rw[if_neg h1,oneTypeOnly'_eq,eJ,map_eq_pure_bind];refine aa (aa (aa (kas_mapM (r:=dG "tuple") vs (λv D Q' U=>?_) (af ?_))))
   ·have:∀{vs:List ad}{ds:List (List Str)},bx (TS s.heap) vs ds->v∈vs->∃d,TS s.heap v d:=by
     intro vs ds pp
     induction pp with
     |nil=>intro hm;cases hm
     |cons z _ O =>
      intro hm;rcases aQ.mp hm with e|hm
      ·subst e;exact⟨_,z⟩
      ·exact O hm
    obtain⟨d,b,items,rfl,⟨o,Z,hc,_⟩,_⟩:=this p D;refine Looks.here (show Looks (az prog w) s.heap (typeOf (.ref b)) (.type "tuple") from ?_) U
    rw[<- hc];exact(Looks.ld Z).andThen .now
   ·generalize (List.map (λ_=>dG "tuple") vs).toArray=ts;cases ts[0]? with
    |none=>exact af (af (by first|exact h _ (.inr (.inl rfl))|exact h _ (.inr (.inr rfl))))
    |some t =>
     by_cases h2:(ts.all (· ==t))=true
     ·simp only[h2,if_true];exact af (af (h _ (.inr (.inr rfl))))
     ·simp only[h2,if_false];exact af (af (h _ (.inr (.inl rfl))))
end
end KS
namespace SF
open PySem PyProof.Rows
abbrev SM:=StateT cC Sem
def gal:Bool->aG->Array aG->Nat->Nat->Nat->SM (Option Nat):=sortPriv% PySem.Builtin.gallop
def mLo:Array aG->Array aG->SM (Array aG):=sortPriv% PySem.Builtin.mergeLo
def mHi:Array aG->Array aG->SM (Array aG):=sortPriv% PySem.Builtin.mergeHi
abbrev setG(st:cC)(g:Nat):cC:=gV (kindOf st) (aH st) (br st) g (eQ st)
def bey(lf:Bool)(key:aG)(arr:Array aG)(b0 i:Nat):SM (Option Bool):=do
 let x <- dM arr (b0+i)
 if lf then lt' x key else return (<- lt' key x).map (!·)
theorem eQw(lf:Bool)(key:aG)(arr:Array aG)(b0 n at0:Nat):gal lf key arr b0 n at0=(do
 let mut lastofs:=0
 let mut ofs:=1
 let mut lo:=0
 let mut hi:=0
 let some rt <- bey lf key arr b0 at0|return none
 if rt then
  let mx:=n-at0
  for _ in [0:n] do
   if ofs>=mx then break
   let some m1 <- bey lf key arr b0 (at0+ofs)|return none
   if !m1 then break
   lastofs:=ofs
   ofs:=2*ofs+1
  lo:=at0+lastofs+1
  hi:=at0+min ofs mx
 else
  let mx:=at0+1
  for _ in [0:n] do
   if ofs>=mx then break
   let some f1 <- bey lf key arr b0 (at0-ofs)|return none
   if f1 then break
   lastofs:=ofs
   ofs:=2*ofs+1
  lo:=at0+1-min ofs mx
  hi:=at0-lastofs
 for _ in [0:n] do
  if lo>=hi then break
  let m:=lo+(hi-lo)/2
  let some m2 <- bey lf key arr b0 m|return none
  if m2 then lo:=m+1 else hi:=m
 return some hi):=rfl
theorem eQx(a b:Array aG):mLo a b=(do
 rule "list.sort.merge-lo"
 let total:=a.size+b.size
 let fin (o:Array aG) (ia ib:Nat):=o++a.extract ia a.size++b.extract ib b.size
 let lst (o:Array aG) (ia ib:Nat):=o++b.extract ib b.size++a.extract ia a.size
 let mut out:Array aG:=#[<- dM b 0]
 let mut ia:=0
 let mut ib:=1
 if ib==b.size then return fin out ia ib
 if ia+1==a.size then return lst out ia ib
 let mut minGallop:=gallopOf (<- get)
 for _ in [0:total] do
  let mut acount:=0
  let mut bcount:=0
  for _ in [0:total] do
   let some bw <- lt' (<- dM b ib) (<- dM a ia)|return fin out ia ib
   if bw then
    out:=out.push (<- dM b ib)
    ib:=ib+1
    bcount:=bcount+1
    acount:=0
    if ib==b.size then return fin out ia ib
    if bcount>=minGallop then break
   else
    out:=out.push (<- dM a ia)
    ia:=ia+1
    acount:=acount+1
    bcount:=0
    if ia+1==a.size then return lst out ia ib
    if acount>=minGallop then break
  rule "list.sort.gallop"
  minGallop:=minGallop+1
  for _ in [0:total] do
   if minGallop>1 then minGallop:=minGallop-1
   modify (λs=>setG s minGallop)
   let some k <- gal false (<- dM b ib) a ia (a.size-ia) 0|return fin out ia ib
   acount:=k
   if k>0 then
    out:=out++a.extract ia (ia+k)
    ia:=ia+k
    if ia+1==a.size then return lst out ia ib
    if ia==a.size then return fin out ia ib
   out:=out.push (<- dM b ib)
   ib:=ib+1
   if ib==b.size then return fin out ia ib
   let some k <- gal true (<- dM a ia) b ib (b.size-ib) 0|return fin out ia ib
   bcount:=k
   if k>0 then
    out:=out++b.extract ib (ib+k)
    ib:=ib+k
    if ib==b.size then return fin out ia ib
   out:=out.push (<- dM a ia)
   ia:=ia+1
   if ia+1==a.size then return lst out ia ib
   if acount<7&&bcount<7 then break
  minGallop:=minGallop+1
  modify (λs=>setG s minGallop)
 gg "internal:list.sort.merge-bound"):=rfl
structure Orc(prog:aC)(w:aL)(A:aO)(s:ah)(κ:dJ)(P:aG->Prop)(lt:aG->aG->Bool):Prop where
 ask:∀x y (Q:Bool->ah->Prop),P x->P y->Q (lt x y) s->aF (az prog w) A (keyLt' κ x.1 y.1) Q (λ_ _=>False) s
 as:∀x y,P x->P y->lt x y=true->lt y x=false
 tr:∀x y z,P x->P y->P z->lt y x=false->lt z y=false->lt z x=false
section
variable{prog:aC}{w:aL}{A:aO}{E:ad->ah->Prop}{s:ah}{κ:dJ}{P:aG->Prop}{lt:aG->aG->Bool}
theorem cQx(o:Orc prog w A s κ P lt){st:cC}{x y:aG}{Q:Option Bool->cC->Prop}(hk:kindOf st=κ)(hx:P x)(hy:P y)(h:Q (some (lt x y)) st):wpS (az prog w) A E s (lt' x y) Q st:=by
 rw[lt'_eq];refine ar (gz ?_);rw[hk];refine ar (gW (wpAny_attempt (cr (o.ask x y (λb s'=>s'=s/\b=lt x y) hx hy ⟨rfl,rfl⟩) (λb s' j=>?_) λ_ _ z=>z.elim)));obtain⟨rfl,rfl⟩:=j;exact⟨rfl,ay h⟩
theorem aZ3{st:cC}{arr:Array aG}{i:Nat}{x:aG}{Q:aG->cC->Prop}(hx:arr[i]?=some x)(h:Q x st):wpS (az prog w) A E s (dM arr i) Q st:=by
 rw[elem'_eq,hx];exact ay h
def bv(lt:aG->aG->Bool)(lf:Bool)(key x:aG):Bool:=if lf then lt x key else !lt key x
theorem bZ4(o:Orc prog w A s κ P lt){st:cC}{lf:Bool}{key x:aG}{arr:Array aG}{b0 i:Nat}{Q:Option Bool->cC->Prop}(hk:kindOf st=κ)(hkey:P key)(hx:arr[b0+i]?=some x)(px:P x)(h:Q (some (bv lt lf key x)) st):wpS (az prog w) A E s (bey lf key arr b0 i) Q st:=by
 unfold bey;refine ar (aZ3 hx ?_);cases lf with
 |true=>exact cQx o hk px hkey h
 |false=>exact ar (cQx o hk hkey px (ay h))
theorem dQh{st:cC}{b:Nat->Bool}{n lo hi:Nat}{body:Nat->Option (Option Nat)×Nat×Nat->SM (ForInStep (Option (Option Nat)×Nat×Nat))}{Q:Option (Option Nat)×Nat×Nat->cC->Prop}
  (hb:∀x lo hi (Q':ForInStep (Option (Option Nat)×Nat×Nat)->cC->Prop),hi<=n->(hi<=lo->Q' (.done (none,lo,hi)) st)->(lo<hi->b (lo+(hi-lo)/2)=true->Q' (.yield (none,lo+(hi-lo)/2+1,hi)) st)->(lo<hi->b (lo+(hi-lo)/2)=false->Q' (.yield (none,lo,lo+(hi-lo)/2)) st)->wpS (az prog w) A E s (body x (none,lo,hi)) Q' st)
  (mono:∀i j,i<=j->j<n->b j=true->b i=true) (h1:lo<=hi) (h2:hi<=n) (h3:∀i,i<lo->b i=true) (h4:∀i,hi<=i->i<n->b i=false)
  (h:∀k,k<=n->(∀i,i<k->b i=true)->(∀i,k<=i->i<n->b i=false)->Q (none,k,k) st):wpS (az prog w) A E s (forIn [0:n] ((none,lo,hi):Option (Option Nat)×Nat×Nat) body) Q st:=by
 refine cS (bA (I:=λx c z=>z=st/\∃ lo hi,c=(none,lo,hi)/\lo<=hi/\hi<=n/\hi + x<=lo + n/\(∀ i,i < lo->b i=true)/\∀ i,hi<=i->i < n->b i=false)
  (Q:=λc z=>z=st/\∃lo hi,c=(none,lo,hi)/\hi<=lo/\lo<=hi/\hi<=n/\(∀i,i<lo->b i=true)/\∀i,hi<=i->i<n->b i=false) ?_ ?_ ⟨rfl,lo,hi,rfl,h1,h2,by omega,h3,h4⟩) ?_
 ·rintro x c z _ O ⟨rfl,lo,hi,rfl,a1,a2,N,D,B⟩;refine hb x lo hi _ a2 (λJ=>⟨rfl,lo,hi,rfl,J,a1,a2,D,B⟩) (λJ e=>⟨rfl,_,_,rfl,by omega,a2,by omega,λi L=>mono i _ (by omega) (by omega) e,B⟩) λJ e=>⟨rfl,_,_,rfl,by omega,by omega,by omega,D,λi h1 h2=>?_⟩
  cases e2:b i with
  |false=>rfl
  |true=>rw[mono _ i h1 h2 e2] at e;cases e
 ·rintro c z ⟨rfl,lo,hi,rfl,a1,a2,N,D,B⟩;exact⟨rfl,lo,hi,rfl,by omega,a1,a2,D,B⟩
 ·rintro c z ⟨rfl,lo,hi,rfl,a0,a1,a2,D,B⟩
  have:lo=hi:=by omega
  subst this;exact h lo a2 D B
theorem aJx(o:Orc prog w A s κ P lt){st:cC}{lf:Bool}{key:aG}{arr:Array aG}{b0 n at0:Nat}{f:Nat->aG}{Q:Option Nat->cC->Prop}(hk:kindOf st=κ)(hkey:P key)
  (hf:∀i,i<n->arr[b0+i]?=some (f i)/\P (f i)) (mono:∀i j,i<=j->j<n->bv lt lf key (f j)=true->bv lt lf key (f i)=true) (h0:at0<n)
  (h:∀k,k<=n->(∀i,i<k->bv lt lf key (f i)=true)->(∀i,k<=i->i<n->bv lt lf key (f i)=false)->Q (some k) st):wpS (az prog w) A E s (gal lf key arr b0 n at0) Q st:=by
 rw[eQw];dsimp only;have up:∀i j,i<=j->j<n->bv lt lf key (f i)=false->bv lt lf key (f j)=false:=λi j h1 h2 h3=>by
  cases e:bv lt lf key (f j) with
  |false=>rfl
  |true=>rw[mono i j h1 h2 e] at h3;cases h3
 refine ar (bZ4 o hk hkey (hf at0 h0).1 (hf at0 h0).2 ?_);dsimp only;cases e0:bv lt lf key (f at0) with
 |true =>
  rw[if_pos rfl];refine ar (cS (bA (I:=λx c D=>D=st/\∃ l B,c=(none,l,B)/\l < B/\x + 1<=B/\at0 + l < n/\bv lt lf key (f (at0 + l))=true)
   (Q:=λc D=>D=st/\∃l B,c=(none,l,B)/\l<B/\at0+l<n/\bv lt lf key (f (at0+l))=true/\(n-at0<=B\/(at0+B<n/\bv lt lf key (f (at0+B))=false))) ?_ ?_ ⟨rfl,0,1,rfl,by decide,by decide,h0,e0⟩) ?_)
  ·rintro x c D _ hx ⟨rfl,l,B,rfl,a1,a2,N,L⟩;dsimp only
   by_cases J:B>=n-at0
   ·rw[if_pos J];exact ay ⟨rfl,l,B,rfl,a1,N,L,.inl J⟩
   ·rw[if_neg J];have hm:at0+B<n:=by omega
    refine ar (bZ4 o hk hkey (hf _ hm).1 (hf _ hm).2 ?_);dsimp only;cases e:bv lt lf key (f (at0+B)) with
    |true=>rw[if_neg (by simp)];exact ay ⟨rfl,B,_,rfl,by omega,by omega,hm,e⟩
    |false=>rw[if_pos (by rfl)];exact ay ⟨rfl,l,B,rfl,a1,N,L,.inr ⟨hm,e⟩⟩
  ·rintro c D ⟨rfl,l,B,rfl,a1,a2,N,L⟩;exact⟨rfl,l,B,rfl,a1,N,L,.inl (by omega)⟩
  ·rintro c D ⟨rfl,l,B,rfl,a1,N,L,a5⟩;have H4:∀i,at0+min B (n-at0)<=i->i<n->bv lt lf key (f i)=false:=λi h1 h2=>by
    rcases a5 with z|⟨z1,O⟩
    ·omega
    ·exact up (at0+B) i (by omega) h2 O
   refine ar (dQh (b:=λi=>bv lt lf key (f i)) (n:=n) (lo:=at0+l+1) (hi:=at0+min B (n-at0)) (λx lo hi Q' hn Z Y U=>?_) mono (by omega) (by omega) (λi hi=>mono i (at0+l) (by omega) N L) H4 λk k1 k2 k3=>ay (h k k1 k2 k3))
   dsimp only
   by_cases J:lo>=hi
   ·rw[if_pos J];exact ay (Z J)
   ·rw[if_neg J];have hm:lo+(hi-lo)/2<n:=by omega
    refine ar (bZ4 o hk hkey (hf _ hm).1 (hf _ hm).2 ?_);dsimp only;cases e:bv lt lf key (f (lo+(hi-lo)/2)) with
    |true=>rw[if_pos rfl];exact ay (Y (by omega) e)
    |false=>rw[if_neg (by simp)];exact ay (U (by omega) e)
 |false =>
  rw[if_neg (by simp)]
  refine ar (cS (bA (I:=λx c D=>D=st/\∃ l B,c=(none,l,B)/\l < B/\x + 1<=B/\l<=at0/\bv lt lf key (f (at0 - l))=false)
   (Q:=λc D=>D=st/\∃l B,c=(none,l,B)/\l<B/\l<=at0/\bv lt lf key (f (at0-l))=false/\(at0+1<=B\/(B<=at0/\bv lt lf key (f (at0-B))=true))) ?_ ?_ ⟨rfl,0,1,rfl,by decide,by decide,Nat.zero_le _,e0⟩) ?_)
  ·rintro x c D _ hx ⟨rfl,l,B,rfl,a1,a2,N,L⟩;dsimp only
   by_cases J:B>=at0+1
   ·rw[if_pos J];exact ay ⟨rfl,l,B,rfl,a1,N,L,.inl J⟩
   ·rw[if_neg J];have hm:at0-B<n:=by omega
    refine ar (bZ4 o hk hkey (hf _ hm).1 (hf _ hm).2 ?_);dsimp only;cases e:bv lt lf key (f (at0-B)) with
    |true=>rw[if_pos rfl];exact ay ⟨rfl,l,B,rfl,a1,N,L,.inr ⟨by omega,e⟩⟩
    |false=>rw[if_neg (by simp)];exact ay ⟨rfl,B,_,rfl,by omega,by omega,by omega,e⟩
  ·rintro c D ⟨rfl,l,B,rfl,a1,a2,N,L⟩;exact⟨rfl,l,B,rfl,a1,N,L,.inl (by omega)⟩
  ·rintro c D ⟨rfl,l,B,rfl,a1,N,L,a5⟩;have H3:∀i,i<at0+1-min B (at0+1)->bv lt lf key (f i)=true:=λi hi=>by
    rcases a5 with z|⟨z1,O⟩
    ·omega
    ·exact mono i (at0-B) (by omega) (by omega) O
   refine ar (dQh (b:=λi=>bv lt lf key (f i)) (n:=n) (lo:=at0+1-min B (at0+1)) (hi:=at0-l) (λx lo hi Q' hn Z Y U=>?_) mono (by omega) (by omega) H3 (λi h1 h2=>up (at0-l) i h1 h2 L) λk k1 k2 k3=>ay (h k k1 k2 k3))
   dsimp only
   by_cases J:lo>=hi
   ·rw[if_pos J];exact ay (Z J)
   ·rw[if_neg J];have hm:lo+(hi-lo)/2<n:=by omega
    refine ar (bZ4 o hk hkey (hf _ hm).1 (hf _ hm).2 ?_);dsimp only;cases e:bv lt lf key (f (lo+(hi-lo)/2)) with
    |true=>rw[if_pos rfl];exact ay (Y (by omega) e)
    |false=>rw[if_neg (by simp)];exact ay (U (by omega) e)
end
def Sd{α:Type}(lt:α->α->Bool)(l:List α):Prop:=l.Pairwise λx y=>lt y x=false
structure Iv{α:Type}(lt:α->α->Bool)(T out rest:List α):Prop where
 perm:(out++rest).Perm T
 sd:Sd lt out
 lo:∀x∈out,∀y∈rest,lt y x=false
section
variable{α:Type}{lt:α->α->Bool}{T out rest:List α}
theorem Iv.step(h:Iv lt T out rest){xs rest':List α}(hp:rest.Perm (xs++rest'))(hs:Sd lt xs)(hl:∀x∈xs,∀y∈rest',lt y x=false):Iv lt T (out++xs) rest':=by
 refine⟨?_,aZ.mpr ⟨h.sd,hs,λx B y j=>h.lo x B y (hp.mem_iff.mpr (dg _ j))⟩,λx B y j=>?_⟩
 ·rw[aS];exact(dN out hp.symm).trans h.perm
 ·rcases aN.mp B with z|z
  ·exact h.lo x z y (hp.mem_iff.mpr (bb _ j))
  ·exact hl x z y j
theorem Iv.done(h:Iv lt T out rest)(hs:Sd lt rest):Sd lt (out++rest)/\(out++rest).Perm T:=⟨aZ.mpr ⟨h.sd,hs,h.lo⟩,h.perm⟩
theorem Iv.perm'(h:Iv lt T out rest){rest':List α}(hp:rest.Perm rest'):Iv lt T out rest':=⟨(dN out hp.symm).trans h.perm,h.sd,λx z y j=>h.lo x z y (hp.mem_iff.mpr j)⟩
theorem Iv.size(h:Iv lt T out rest):out.length+rest.length=T.length:=by rw[<- aB];exact h.perm.length_eq
theorem bZz{l:List α}{i:Nat}{x:α}(h:l[i]?=some x):l.drop i=x::l.drop (i+1):=by
 have hi:=(aE.mp h).1;rw[bN hi]
 congr 1
 exact(aE.mp h).2
theorem Sd.drop{l:List α}(h:Sd lt l)(i:Nat):Sd lt (l.drop i):=h.sublist (List.drop_sublist _ _)
theorem Sd.at{l:List α}(h:Sd lt l){i j:Nat}{x y:α}(hij:i<j)(hx:l[i]?=some x)(hy:l[j]?=some y):lt y x=false:=by
 obtain⟨h1,B⟩:=aE.mp hx;obtain⟨h2,z⟩:=aE.mp hy
 have:=c6.mp h i j h1 h2 hij
 rw[B,z] at this;exact this
theorem aQk{l:List α}{i:Nat}{y:α}(h:y∈l.drop i):∃j,i<=j/\l[j]?=some y:=by
 obtain⟨k,z,e⟩:=bE h;rw[h9] at e;rw[bz] at z;exact⟨i+k,by omega,by rw[ag (by omega),e]⟩
end
section
variable{prog:aC}{w:aL}{A:aO}{s:ah}{κ:dJ}{P:aG->Prop}{lt:aG->aG->Bool}{T out la lb:List aG}{ia ib:Nat}{x y:aG}
theorem bZ5(o:Orc prog w A s κ P lt){l:List aG}(hP:∀z∈l,P z)(hs:Sd lt l){i:Nat}{z:aG}(hz:P z){y:aG}(hy:l[i]?=some y)(h:lt y z=false):∀u∈l.drop i,lt u z=false:=λu D=>by
 obtain⟨j,J,e⟩:=aQk D;rcases Nat.eq_or_lt_of_le J with rfl|B
 ·rw[hy] at e;cases e;exact h
 ·exact o.tr z y u hz (hP y (ao hy)) (hP u (ao e)) h (hs.at B hy e)
theorem Iv.pushB(h:Iv lt T out (la.drop ia++lb.drop ib))(sb:Sd lt lb)(hy:lb[ib]?=some y)(hl:∀u∈la.drop ia,lt u y=false):Iv lt T (out++[y]) (la.drop ia++lb.drop (ib+1)):=by
 refine h.step ?_ (b8 _ _) λx B u D=>?_
 ·rw[bZz hy];exact List.perm_middle
 ·rw[aU.mp B];rcases aN.mp D with z|z
  ·exact hl u z
  ·obtain⟨j,J,e⟩:=aQk z;exact sb.at (by omega) hy e
theorem Iv.pushA(h:Iv lt T out (la.drop ia++lb.drop ib))(sa:Sd lt la)(hx:la[ia]?=some x)(hl:∀u∈lb.drop ib,lt u x=false):Iv lt T (out++[x]) (la.drop (ia+1)++lb.drop ib):=by
 refine h.step ?_ (b8 _ _) λz B u D=>?_
 ·rw[bZz hx];exact dh _
 ·rw[aU.mp B];rcases aN.mp D with z|z
  ·obtain⟨j,J,e⟩:=aQk z;exact sa.at (by omega) hx e
  ·exact hl u z
theorem Iv.blockA(h:Iv lt T out (la.drop ia++lb.drop ib))(sa:Sd lt la)(k:Nat)(hl:∀z∈(la.drop ia).take k,∀u∈lb.drop ib,lt u z=false):Iv lt T (out++(la.drop ia).take k) (la.drop (ia+k)++lb.drop ib):=by
 have e:la.drop ia=(la.drop ia).take k++la.drop (ia+k):=by rw[<- List.drop_drop];exact(a6 k _).symm
 have sd:=sa.drop ia;rw[e] at sd;obtain⟨s1,_,s3⟩:=aZ.mp sd;refine h.step ?_ s1 λz j u B=>?_
 ·rw[<- aS,<- e]
 ·rcases aN.mp B with v|v
  ·exact s3 z j u v
  ·exact hl z j u v
theorem Iv.blockB(h:Iv lt T out (la.drop ia++lb.drop ib))(sb:Sd lt lb)(k:Nat)(hl:∀z∈(lb.drop ib).take k,∀u∈la.drop ia,lt u z=false):Iv lt T (out++(lb.drop ib).take k) (la.drop ia++lb.drop (ib+k)):=by
 have e:lb.drop ib=(lb.drop ib).take k++lb.drop (ib+k):=by rw[<- List.drop_drop];exact(a6 k _).symm
 have sd:=sb.drop ib;rw[e] at sd;obtain⟨s1,_,s3⟩:=aZ.mp sd;refine h.step ?_ s1 λz j u B=>?_
 ·have D:la.drop ia++lb.drop ib=la.drop ia++((lb.drop ib).take k++lb.drop (ib+k)):=by rw[<- e]
  rw[D,<- aS,<- aS];exact dy _ cO
 ·rcases aN.mp B with v|v
  ·exact hl z j u v
  ·exact s3 z j u v
theorem aZd{l:List aG}{i k:Nat}{z:aG}(h:z∈(l.drop i).take k):∃j,j<k/\l[i+j]?=some z:=by
 obtain⟨j,B,e⟩:=bE h;rw[aV,bz] at B;rw[ic,h9] at e;exact⟨j,by omega,by rw[ag (by omega),e]⟩
end
theorem aZ6(a:Array aG)(i j:Nat):(a.extract i j).toList=(a.toList.drop i).take (j-i):=by simp
theorem bX0(a:Array aG)(i:Nat):(a.extract i a.size).toList=a.toList.drop i:=by
 rw[aZ6];exact bQ (by rw[bz];simp)
end SF
theorem hd{g:Prop}(h:∀G:Prop,(g->G)->G):g:=h g id
namespace SF
open PySem PyProof.Rows
section
variable{prog:aC}{w:aL}{A:aO}{E:ad->ah->Prop}{s:ah}{κ:dJ}{P:aG->Prop}{lt:aG->aG->Bool}
theorem aQb{a:Array aG}{i:Nat}(h:i<a.size):∃x,a[i]?=some x/\a.toList[i]?=some x:=⟨a[i],by simp[h],by simp[h]⟩
theorem aQp{σ α:Type}{M:Model}{c:Prop}{di:Decidable c}{X Y:StateT σ Sem α}{Q:α->σ->Prop}{st:σ}(hc:c)(h:wpS M A E s X Q st):wpS M A E s (@ite _ c di X Y) Q st:=by rw[if_pos hc];exact h
theorem aQq{σ α:Type}{M:Model}{c:Prop}{di:Decidable c}{X Y:StateT σ Sem α}{Q:α->σ->Prop}{st:σ}(hc:¬ c)(h:wpS M A E s Y Q st):wpS M A E s (@ite _ c di X Y) Q st:=by rw[if_neg hc];exact h
theorem dQi{σ α:Type}{M:Model}{c:Nat->Prop}{di:∀n,Decidable (c n)}{X Y:Nat->StateT σ Sem α}{Q:α->σ->Prop}{st:σ}(e:∀n,X n=Y (n-1))(h:∀m,wpS M A E s (Y m) Q st)(n:Nat):wpS M A E s (@ite _ (c n) (di n) (X n) (Y n)) Q st:=by
 split
 ·rw[e];exact h _
 ·exact h _
theorem eQy(o:Orc prog w A s κ P lt){st:cC}{a b:Array aG}{Q:Array aG->cC->Prop}(hk:kindOf st=κ)(pa:∀x∈a.toList,P x)(pb:∀y∈b.toList,P y)(sa:Sd lt a.toList)(sb:Sd lt b.toList)(na:1<=a.size)(nb:1<=b.size)
  (hfst:∀y,b.toList[0]?=some y->∀x∈a.toList,lt x y=false) (hlst:∀z,a.toList[a.size-1]?=some z->∀y∈b.toList,lt z y=false)
  (h:∀out g,Sd lt out.toList->out.toList.Perm (a.toList++b.toList)->Q out (setG st g)):wpS (az prog w) A E s (mLo a b) Q st:=by
 have sz:(a.toList++b.toList).length=a.size+b.size:=by simp
 have finA:∀(out:Array aG) ia ib g,ib=b.size->Iv lt (a.toList++b.toList) out.toList (a.toList.drop ia++b.toList.drop ib)->Q (out++a.extract ia a.size++b.extract ib b.size) (setG st g):=λout ia ib g e iv=>by
  have e0:b.toList.drop ib=[]:=bF (by simp[e])
  rw[e0,bY] at iv
  have:=iv.done (sa.drop ia)
  refine h _ g ?_ ?_ <;> simp only[cm,bX0,e0,bY]
  ·exact this.1
  ·exact this.2
 have finB:∀(out:Array aG) ia ib g,ia=a.size->Iv lt (a.toList++b.toList) out.toList (a.toList.drop ia++b.toList.drop ib)->Q (out++a.extract ia a.size++b.extract ib b.size) (setG st g):=λout ia ib g e iv=>by
  have e0:a.toList.drop ia=[]:=bF (by simp[e])
  rw[e0,bo] at iv
  have:=iv.done (sb.drop ib)
  refine h _ g ?_ ?_ <;> simp only[cm,bX0,e0,bY]
  ·exact this.1
  ·exact this.2
 have finL:∀(out:Array aG) ia ib g,ia+1=a.size->Iv lt (a.toList++b.toList) out.toList (a.toList.drop ia++b.toList.drop ib)->Q (out++b.extract ib b.size++a.extract ia a.size) (setG st g):=λout ia ib g e iv=>by
  obtain⟨z,hz,L⟩:=aQb (a:=a) (i:=ia) (by lia)
  have e0:a.toList.drop ia=[z]:=by rw[bZz L,bF (by simp;lia)]
  have iv2:=iv.perm' cO;have hz2:a.toList[a.size-1]?=some z:=by rw[<- e];exact L
  have:=iv2.done (aZ.mpr ⟨sb.drop ib,sa.drop ia,λx hx y hy=>by
   rw[e0] at hy;rw[aU.mp hy];exact hlst z hz2 x (dY hx)⟩)
  refine h _ g ?_ ?_ <;> simp only[cm,bX0,aS]
  ·exact this.1
  ·exact this.2
 have t2:∀(U:ForInStep (Option (Array aG)×Array aG×Nat×Nat×Nat×Nat×Nat)->cC->Prop) (out:Array aG) (ia ib mg ac bc g:Nat),(∀r c',Q r (setG st g)->U (.done (some r,c')) (setG st g)) ->
   (∀D B J ac' bc',B+1<a.size->J<b.size->Iv lt (a.toList++b.toList) D.toList (a.toList.drop B++b.toList.drop J)->out.size<=D.size->U (.done (none,D,B,J,mg,ac',bc')) (setG st g)/\U (.yield (none,D,B,J,mg,ac',bc')) (setG st g)) ->
   ia+1<a.size->ib<b.size->Iv lt (a.toList++b.toList) out.toList (a.toList.drop ia++b.toList.drop ib)->(∀x,a.toList[ia]?=some x->∀u∈b.toList.drop ib,lt u x=false) ->
   wpS (az prog w) A E s (do
    let x <- dM a ia
    if (ia+1+1==a.size)=true then pure (bj (some (out.push x++b.extract ib b.size++a.extract (ia+1) a.size),out.push x,ia+1,ib,mg,ac,bc))
    else if (decide (ac<7)&&decide (bc<7))=true then pure (bj (none,out.push x,ia+1,ib,mg,ac,bc))
    else pure (bn (none,out.push x,ia+1,ib,mg,ac,bc))) U (setG st g):=by
  intro U out ia ib mg ac bc g hd hg hia hib iv hl;obtain⟨x1,hx1,Z⟩:=aQb (a:=a) (i:=ia) (by lia)
  refine ar (aZ3 hx1 ?_);have iv2:Iv lt (a.toList++b.toList) (out.push x1).toList (a.toList.drop (ia+1)++b.toList.drop ib):=by
   rw[ca];exact iv.pushA sa Z (hl x1 Z)
  have sp:(out.push x1).size=out.size+1:=cZ ..
  by_cases c1:(ia+1+1==a.size)=true
  ·refine aQp c1 ?_;exact ay (hd _ _ (finL _ _ _ g (by simpa using c1) iv2))
  ·refine aQq c1 ?_;have c1':ia+1+1≠a.size:=by simpa using c1
   have:=hg (out.push x1) (ia+1) ib ac bc (by lia) hib iv2 (by lia)
   by_cases c2:(decide (ac<7)&&decide (bc<7))=true
   ·refine aQp c2 ?_;exact ay this.1
   ·refine aQq c2 ?_;exact ay this.2
 have t1:∀(U:ForInStep (Option (Array aG)×Array aG×Nat×Nat×Nat×Nat×Nat)->cC->Prop) (out:Array aG) (ia ib mg ac bc g:Nat),(∀r c',Q r (setG st g)->U (.done (some r,c')) (setG st g)) ->
   (∀D B J ac' bc',B+1<a.size->J<b.size->Iv lt (a.toList++b.toList) D.toList (a.toList.drop B++b.toList.drop J)->out.size<=D.size->U (.done (none,D,B,J,mg,ac',bc')) (setG st g)/\U (.yield (none,D,B,J,mg,ac',bc')) (setG st g)) ->
   ia+1<a.size->ib<b.size->Iv lt (a.toList++b.toList) out.toList (a.toList.drop ia++b.toList.drop ib)->(∀y,b.toList[ib]?=some y->∀u∈a.toList.drop ia,lt u y=false) ->
   wpS (az prog w) A E s (do
    let y <- dM b ib
    if (ib+1==b.size)=true then pure (bj (some (out.push y++a.extract ia a.size++b.extract (ib+1) b.size),out.push y,ia,ib+1,mg,ac,bc))
    else do
     let x <- dM a ia
     let z <- gal true x b (ib+1) (b.size-(ib+1)) 0
     match z with
     |some k1 =>
      if k1>0 then
       if (ib+1+k1==b.size)=true then pure (bj (some (out.push y++b.extract (ib+1) (ib+1+k1)++a.extract ia a.size++b.extract (ib+1+k1) b.size),out.push y++b.extract (ib+1) (ib+1+k1),ia,ib+1+k1,mg,ac,k1))
       else do
        let x <- dM a ia
        if (ia+1+1==a.size)=true then pure (bj (some ((out.push y++b.extract (ib+1) (ib+1+k1)).push x++b.extract (ib+1+k1) b.size++a.extract (ia+1) a.size),(out.push y++b.extract (ib+1) (ib+1+k1)).push x,ia+1,ib+1+k1,mg,ac,k1))
        else if (decide (ac<7)&&decide (k1<7))=true then pure (bj (none,(out.push y++b.extract (ib+1) (ib+1+k1)).push x,ia+1,ib+1+k1,mg,ac,k1))
        else pure (bn (none,(out.push y++b.extract (ib+1) (ib+1+k1)).push x,ia+1,ib+1+k1,mg,ac,k1))
      else do
       let x <- dM a ia
       if (ia+1+1==a.size)=true then pure (bj (some ((out.push y).push x++b.extract (ib+1) b.size++a.extract (ia+1) a.size),(out.push y).push x,ia+1,ib+1,mg,ac,k1))
       else if (decide (ac<7)&&decide (k1<7))=true then pure (bj (none,(out.push y).push x,ia+1,ib+1,mg,ac,k1))
       else pure (bn (none,(out.push y).push x,ia+1,ib+1,mg,ac,k1))
     |_=>pure (bj (some (out.push y++a.extract ia a.size++b.extract (ib+1) b.size),out.push y,ia,ib+1,mg,ac,bc))) U (setG st g):=by
  intro U out ia ib mg ac bc g hd hg hia hib iv hl;obtain⟨y1,hy1,Y⟩:=aQb (a:=b) (i:=ib) hib;obtain⟨x1,hx1,Z⟩:=aQb (a:=a) (i:=ia) (by lia)
  have px1:=pa x1 (ao Z);refine ar (aZ3 hy1 ?_);have iv2:Iv lt (a.toList++b.toList) (out.push y1).toList (a.toList.drop ia++b.toList.drop (ib+1)):=by
   rw[ca];exact iv.pushB sb Y (hl y1 Y)
  have sp:(out.push y1).size=out.size+1:=cZ ..
  by_cases c1:(ib+1==b.size)=true
  ·refine aQp c1 ?_;exact ay (hd _ _ (finA _ _ _ g (by simpa using c1) iv2))
  refine aQq c1 ?_;have c1':ib+1≠b.size:=by simpa using c1
  refine ar (aZ3 hx1 (ar (aJx o (f:=λi=>b.toList.getD (ib+1+i) (.none,.none)) hk px1 (λi hi=>?_) (λi j hij hj hb=>?_) (by lia) λk k1 k2 k3=>?_)))
  ·obtain⟨z,hz,L⟩:=aQb (a:=b) (i:=ib+1+i) (by lia)
   rw[ak,L];exact⟨hz,pb z (ao L)⟩
  ·obtain⟨z,hz,L⟩:=aQb (a:=b) (i:=ib+1+i) (by lia)
   obtain⟨z',hz',hzl'⟩:=aQb (a:=b) (i:=ib+1+j) (by lia)
   rw[ak,hzl'] at hb;rw[ak,L];have hb':lt z' x1=true:=hb;show lt z x1=true;cases e:lt z x1 with
   |true=>rfl
   |false =>
    exfalso;have pz:=pb z (ao L);have pz':=pb z' (ao hzl');rcases Nat.eq_or_lt_of_le hij with rfl|hlt
    ·rw[L] at hzl';cases hzl';rw[e] at hb';cases hb'
    ·have:=o.tr x1 z z' px1 pz pz' e (sb.at (by lia) L hzl')
     rw[hb'] at this;cases this
  have behind:∀j y,ib+1+k<=j->b.toList[j]?=some y->lt y x1=false:=λj y hj hy=>by
   have hjb:j<b.size:=by have:=(aE.mp hy).1;simpa using this
   have:=k3 (j-(ib+1)) (by lia) (by lia)
   rw[ak,show ib+1+(j-(ib+1))=j by lia,hy] at this
   exact this
  dsimp only
  by_cases ck:k>0
  ·refine aQp ck ?_;have iv3:Iv lt (a.toList++b.toList) (out.push y1++b.extract (ib+1) (ib+1+k)).toList (a.toList.drop ia++b.toList.drop (ib+1+k)):=by
    rw[cm,aZ6,show ib+1+k-(ib+1)=k by lia]
    refine iv2.blockB sb k λz hz u hu=>?_;obtain⟨j,hj,L⟩:=aZd hz;have pz:=pb z (ao L);have hb:=k2 j hj;rw[ak,L] at hb;exact bZ5 o pa sa pz Z (o.as _ _ pz px1 hb) u hu
   have sz3:out.size<=(out.push y1++b.extract (ib+1) (ib+1+k)).size:=by rw[dl];lia
   by_cases c3:(ib+1+k==b.size)=true
   ·refine aQp c3 ?_;exact ay (hd _ _ (finA _ _ _ g (by simpa using c3) iv3))
   ·refine aQq c3 ?_;have c3':ib+1+k≠b.size:=by simpa using c3
    refine t2 U _ ia (ib+1+k) mg ac k g hd (λo' i1 i2 a1 b1 q1 q2 q3 q4=>hg o' i1 i2 a1 b1 q1 q2 q3 (by lia)) hia (by lia) iv3 λx hx u hu=>?_
    rw[Z] at hx;cases hx;obtain⟨j,hj,e⟩:=aQk hu;exact behind j u hj e
  ·refine aQq ck ?_;have k0:k=0:=by lia
   refine t2 U _ ia (ib+1) mg ac k g hd (λo' i1 i2 a1 b1 q1 q2 q3 q4=>hg o' i1 i2 a1 b1 q1 q2 q3 (by lia)) hia (by lia) iv2 λx hx u hu=>?_
   rw[Z] at hx;cases hx;obtain⟨j,hj,e⟩:=aQk hu;exact behind j u (by lia) e
 rw[eQx];refine ar (gW (cJ ⟨rfl,?_⟩));dsimp only;obtain⟨y0,hy0,hy0l⟩:=aQb (a:=b) (i:=0) nb;refine ar (aZ3 hy0 ?_);have iv0:Iv lt (a.toList++b.toList) (#[y0]:Array aG).toList (a.toList.drop 0++b.toList.drop 1):=by
  have i0:Iv lt (a.toList++b.toList) [] (a.toList.drop 0++b.toList.drop 0):=⟨by simp,fH,by simp⟩
  exact i0.pushB sb hy0l λu hu=>hfst y0 hy0l u hu
 have est:st=setG st (gallopOf st):=rfl
 by_cases hb1:(1==b.size)=true
 ·refine aQp hb1 ?_;refine ay ?_;rw[est];exact finA _ 0 1 _ (by simpa using hb1) iv0
 refine aQq hb1 ?_
 by_cases ha1:(0+1==a.size)=true
 ·refine aQp ha1 ?_;refine ay ?_;rw[est];exact finL _ 0 1 _ (by simpa using ha1) iv0
 refine aQq ha1 ?_;have hb2:1<b.size:=by
  have:1≠b.size:=by simpa using hb1
  lia
 have ha2:0+1<a.size:=by
  have:0+1≠a.size:=by simpa using ha1
  lia
 refine ar (gz ?_);refine ar (cS (bA (I:=λx c N=>∃ out ia ib mg g,c=(none,out,ia,ib,mg)/\N=setG st g/\ia + 1 < a.size/\ib < b.size/\Iv lt (a.toList++b.toList) out.toList (a.toList.drop ia++b.toList.drop ib)/\x + 1<=out.size)
  (Q:=λc N=>∃r,c.fst=some r/\Q r N) ?_ ?_ ⟨#[y0],0,1,_,_,rfl,est,ha2,hb2,iv0,by simp⟩) ?_)
 ·intro x c N _ hx zq;refine hd λGq kq=>?_;obtain⟨out,ia,ib,mg,g,rfl,rfl,hia,hib,iv,hsz⟩:=zq;refine kq ?_;dsimp only;refine ar (cS (bA (I:=λy c N=>∃ D B J ac bc,c=(none,D,B,J,ac,bc)/\N=setG st g/\B + 1 < a.size/\J < b.size/\Iv lt (a.toList++b.toList) D.toList (a.toList.drop B++b.toList.drop J)/\out.size + y<=D.size)
   (Q:=λc N=>N=setG st g/\((∃r,c.fst=some r/\Q r N)\/∃D B J ac bc,c=(none,D,B,J,ac,bc)/\B+1<a.size/\J<b.size/\Iv lt (a.toList++b.toList) D.toList (a.toList.drop B++b.toList.drop J)/\out.size+1<=D.size)) ?_ ?_ ⟨out,ia,ib,0,0,rfl,rfl,hia,hib,iv,Nat.le_refl _⟩) ?_)
  ·intro y c N _ hy zq;refine hd λGq kq=>?_;obtain⟨D,B,J,ac,bc,rfl,rfl,hia',O,iv',hsz'⟩:=zq;refine kq ?_;obtain⟨x1,hx1,Z⟩:=aQb (a:=a) (i:=B) (by lia)
   obtain⟨y1,hy1,Y⟩:=aQb (a:=b) (i:=J) O;have px1:=pa x1 (ao Z);have py1:=pb y1 (ao Y);dsimp only;refine ar (aZ3 hy1 (ar (aZ3 hx1 (ar (cQx o hk py1 px1 ?_)))));dsimp only;cases e:lt y1 x1 with
   |true =>
    refine aQp rfl ?_;refine ar (aZ3 hy1 ?_);have iv2:Iv lt (a.toList++b.toList) (D.push y1).toList (a.toList.drop B++b.toList.drop (J+1)):=by
     rw[ca];exact iv'.pushB sb Y (bZ5 o pa sa py1 Z (o.as _ _ py1 px1 e))
    have sp:(D.push y1).size=D.size+1:=cZ ..
    by_cases c1:(J+1==b.size)=true
    ·refine aQp c1 ?_;exact ay ⟨rfl,.inl ⟨_,rfl,finA _ _ _ g (by simpa using c1) iv2⟩⟩
    ·refine aQq c1 ?_;have c1':J+1≠b.size:=by simpa using c1
     by_cases c2:bc+1>=mg
     ·refine aQp c2 ?_;exact ay ⟨rfl,.inr ⟨_,_,_,_,_,rfl,hia',by lia,iv2,by lia⟩⟩
     ·refine aQq c2 ?_;exact ay ⟨_,_,_,_,_,rfl,rfl,hia',by lia,iv2,by lia⟩
   |false =>
    refine aQq (by simp) ?_
    refine ar (aZ3 hx1 ?_);have iv2:Iv lt (a.toList++b.toList) (D.push x1).toList (a.toList.drop (B+1)++b.toList.drop J):=by
     rw[ca];exact iv'.pushA sa Z (bZ5 o pb sb px1 Y e)
    have sp:(D.push x1).size=D.size+1:=cZ ..
    by_cases c1:(B+1+1==a.size)=true
    ·refine aQp c1 ?_;exact ay ⟨rfl,.inl ⟨_,rfl,finL _ _ _ g (by simpa using c1) iv2⟩⟩
    ·refine aQq c1 ?_;have c1':B+1+1≠a.size:=by simpa using c1
     by_cases c2:ac+1>=mg
     ·refine aQp c2 ?_;exact ay ⟨rfl,.inr ⟨_,_,_,_,_,rfl,by lia,O,iv2,by lia⟩⟩
     ·refine aQq c2 ?_;exact ay ⟨_,_,_,_,_,rfl,rfl,by lia,O,iv2,by lia⟩
  ·intro c N zq;refine hd λGq kq=>?_;obtain⟨D,B,J,ac,bc,rfl,rfl,hia',O,iv',hsz'⟩:=zq;refine kq ?_;exact⟨rfl,.inr ⟨_,_,_,_,_,rfl,hia',O,iv',by lia⟩⟩
  ·rintro c N ⟨rfl,⟨r,hr,q⟩|⟨out1,ia1,ib1,ac1,bc1,rfl,hia1,hib1,iv1,hsz1⟩⟩
   ·obtain⟨c1,c2⟩:=c;dsimp only at hr;subst hr;exact ay ⟨r,rfl,q⟩
   ·dsimp only;refine ar (gW (cJ ⟨rfl,?_⟩));refine ar (cS (bA (I:=λy c N=>∃ D B J mg' ac bc g',c=(none,D,B,J,mg',ac,bc)/\N=setG st g'/\B + 1 < a.size/\J < b.size/\Iv lt (a.toList++b.toList) D.toList (a.toList.drop B++b.toList.drop J)/\out1.size<=D.size)
     (Q:=λc N=>(∃r,c.fst=some r/\Q r N)\/∃D B J mg' ac bc g',c=(none,D,B,J,mg',ac,bc)/\N=setG st g'/\B+1<a.size/\J<b.size/\Iv lt (a.toList++b.toList) D.toList (a.toList.drop B++b.toList.drop J)/\out1.size<=D.size) ?_ ?_ ⟨out1,ia1,ib1,_,ac1,bc1,g,rfl,rfl,hia1,hib1,iv1,Nat.le_refl _⟩) ?_)
    ·intro y c N _ hy zq;refine hd λGq kq=>?_;obtain⟨D,B,J,mg',ac,bc,g',rfl,rfl,hia',O,iv',hsz'⟩:=zq;refine kq ?_;dsimp only;obtain⟨y1,hy1,Y⟩:=aQb (a:=b) (i:=J) O;have py1:=pb y1 (ao Y);have fa:∀i,i<a.size-B->a[B+i]?=some (a.toList.getD (B+i) (.none,.none))/\P (a.toList.getD (B+i) (.none,.none)):=λi hi=>by
      obtain⟨z,hz,L⟩:=aQb (a:=a) (i:=B+i) (by lia)
      rw[ak,L];exact⟨hz,pa z (ao L)⟩
     have mono:∀i j,i<=j->j<a.size-B->bv lt false y1 (a.toList.getD (B+j) (.none,.none))=true->bv lt false y1 (a.toList.getD (B+i) (.none,.none))=true:=λi j hij hj hb=>by
      obtain⟨z,hz,L⟩:=aQb (a:=a) (i:=B+i) (by lia)
      obtain⟨z',hz',hzl'⟩:=aQb (a:=a) (i:=B+j) (by lia)
      rw[ak,hzl'] at hb;rw[ak,L];have hb':lt y1 z'=false:=by simpa [bv] using hb
      show(!lt y1 z)=true;rcases Nat.eq_or_lt_of_le hij with rfl|hlt
      ·rw[L] at hzl';cases hzl';rw[hb'];rfl
      ·rw[o.tr z z' y1 (pa z (ao L)) (pa z' (ao hzl')) py1 (sa.at (by lia) L hzl') hb'];rfl
     clear kq
     revert mg'
     refine dQi (λ_=>rfl) λm2=>?_;refine ar (cD (ar (aZ3 hy1 (ar (aJx o (f:=λi=>a.toList.getD (B+i) (.none,.none)) hk py1 fa mono (by lia) λk k1 k2 k3=>?_)))))
     dsimp only;have behind:∀j z,B+k<=j->a.toList[j]?=some z->lt z y1=false:=λj z hj hz=>by
      have hja:j<a.size:=by have:=(aE.mp hz).1;simpa using this
      have:=k3 (j-B) (by lia) (by lia)
      rw[ak,show B+(j-B)=j by lia,hz] at this
      have h1:(!lt y1 z)=false:=this;exact o.as _ _ py1 (pa z (ao hz)) (by simpa using h1)
     by_cases ck:k>0
     ·refine aQp ck ?_;have iv3:Iv lt (a.toList++b.toList) (D++a.extract B (B+k)).toList (a.toList.drop (B+k)++b.toList.drop J):=by
       rw[cm,aZ6,show B+k-B=k by lia]
       refine iv'.blockA sa k λz hz u hu=>?_;obtain⟨j,hj,L⟩:=aZd hz;have hb:=k2 j hj;rw[ak,L] at hb;have h1:(!lt y1 z)=true:=hb;exact bZ5 o pb sb (pa z (ao L)) Y (by simpa using h1) u hu
      have sz3:out1.size<=(D++a.extract B (B+k)).size:=by rw[dl];lia
      by_cases c3:(B+k+1==a.size)=true
      ·refine aQp c3 ?_;exact ay (.inl ⟨_,rfl,finL _ _ _ _ (by simpa using c3) iv3⟩)
      ·refine aQq c3 ?_;have c3':B+k+1≠a.size:=by simpa using c3
       by_cases c4:(B+k==a.size)=true
       ·refine aQp c4 ?_;exact ay (.inl ⟨_,rfl,finB _ _ _ _ (by simpa using c4) iv3⟩)
       ·refine aQq c4 ?_;have c4':B+k≠a.size:=by simpa using c4
        refine t1 _ _ (B+k) J m2 k bc m2 (λr c' q=>.inl ⟨r,rfl,q⟩) (λo' i1 i2 a1 b1 q1 q2 q3 q4=>⟨.inr ⟨_,_,_,_,_,_,_,rfl,rfl,q1,q2,q3,by lia⟩,⟨_,_,_,_,_,_,_,rfl,rfl,q1,q2,q3,by lia⟩⟩) (by lia) O iv3 λy hy u hu=>?_
        rw[Y] at hy;cases hy;obtain⟨j,hj,e⟩:=aQk hu;exact behind j u hj e
     ·refine aQq ck ?_;refine t1 _ _ B J m2 k bc m2 (λr c' q=>.inl ⟨r,rfl,q⟩) (λo' i1 i2 a1 b1 q1 q2 q3 q4=>⟨.inr ⟨_,_,_,_,_,_,_,rfl,rfl,q1,q2,q3,by lia⟩,⟨_,_,_,_,_,_,_,rfl,rfl,q1,q2,q3,by lia⟩⟩) hia' O iv' λy hy u hu=>?_
      rw[Y] at hy;cases hy;obtain⟨j,hj,e⟩:=aQk hu;exact behind j u (by lia) e
    ·intro c N zq;refine hd λGq kq=>?_;obtain⟨D,B,J,mg',ac,bc,g',rfl,rfl,hia',O,iv',hsz'⟩:=zq;refine kq ?_;exact .inr ⟨_,_,_,_,_,_,_,rfl,rfl,hia',O,iv',hsz'⟩
    ·rintro c N (⟨r,hr,q⟩|⟨D,B,J,mg',ac,bc,g',rfl,rfl,hia',O,iv',hsz'⟩)
     ·obtain⟨c1,c2⟩:=c;dsimp only at hr;subst hr;exact ay ⟨r,rfl,q⟩
     ·dsimp only;exact ar (cD (ay ⟨_,_,_,_,_,rfl,rfl,hia',O,iv',by lia⟩))
 ·intro c N zq;refine hd λGq kq=>?_;obtain⟨out,ia,ib,mg,g,rfl,rfl,hia,hib,iv,hsz⟩:=zq;refine kq ?_;exfalso
  have:=iv.size
  rw[sz,aJ] at this;lia
 ·rintro c N ⟨r,hr,q⟩;obtain⟨c1,c2⟩:=c;dsimp only at hr;subst hr;exact ay q
end
theorem eQz(a b:Array aG):mHi a b=(do
 rule "list.sort.merge-hi"
 let total:=a.size+b.size
 let fin (o:Array aG) (na nb:Nat):=a.extract 0 na++b.extract 0 nb++o.reverse
 let fst (o:Array aG) (na nb:Nat):=b.extract 0 nb++a.extract 0 na++o.reverse
 let mut na:=a.size-1
 let mut nb:=b.size
 let mut out:Array aG:=#[<- dM a na]
 if na==0 then return fin out na nb
 if nb==1 then return fst out na nb
 let mut minGallop:=gallopOf (<- get)
 for _ in [0:total] do
  let mut acount:=0
  let mut bcount:=0
  for _ in [0:total] do
   let some aw <- lt' (<- dM b (nb-1)) (<- dM a (na-1))|return fin out na nb
   if aw then
    na:=na-1
    out:=out.push (<- dM a na)
    acount:=acount+1
    bcount:=0
    if na==0 then return fin out na nb
    if acount>=minGallop then break
   else
    nb:=nb-1
    out:=out.push (<- dM b nb)
    bcount:=bcount+1
    acount:=0
    if nb==1 then return fst out na nb
    if bcount>=minGallop then break
  rule "list.sort.gallop"
  minGallop:=minGallop+1
  for _ in [0:total] do
   if minGallop>1 then minGallop:=minGallop-1
   modify (λs=>setG s minGallop)
   let some p <- gal false (<- dM b (nb-1)) a 0 na (na-1)|return fin out na nb
   let k:=na-p
   acount:=k
   if k>0 then
    out:=out++(a.extract p na).reverse
    na:=p
    if na==0 then return fin out na nb
   nb:=nb-1
   out:=out.push (<- dM b nb)
   if nb==1 then return fst out na nb
   let some p <- gal true (<- dM a (na-1)) b 0 nb (nb-1)|return fin out na nb
   let k:=nb-p
   bcount:=k
   if k>0 then
    out:=out++(b.extract p nb).reverse
    nb:=p
    if nb==1 then return fst out na nb
    if nb==0 then return fin out na nb
   na:=na-1
   out:=out.push (<- dM a na)
   if na==0 then return fin out na nb
   if acount<7&&bcount<7 then break
  minGallop:=minGallop+1
  modify (λs=>setG s minGallop)
 gg "internal:list.sort.merge-bound"):=rfl
section
variable{α:Type}{lt:α->α->Bool}{T out rest:List α}
abbrev rl(lt:α->α->Bool):α->α->Bool:=λx y=>lt y x
theorem Iv.doneR(h:Iv (rl lt) T out rest){l:List α}(hp:l.Perm rest)(hs:Sd lt l):Sd lt (l++out.reverse)/\(l++out.reverse).Perm T:=by
 refine⟨aZ.mpr ⟨hs,fV.mpr h.sd,λx z y j=>h.lo y (iG.mp j) x (hp.mem_iff.mp z)⟩,?_⟩;exact(jl.append hp (ie out)).trans (cO.trans h.perm)
theorem bX1{l:List α}{i:Nat}{x:α}(h:l[i]?=some x):l.take (i+1)=l.take i++[x]:=by rw[cw,h];rfl
theorem Sd.take{l:List α}(h:Sd lt l)(i:Nat):Sd lt (l.take i):=h.sublist (hZ _ _)
theorem aQn{l:List α}{i:Nat}{y:α}(h:y∈l.take i):∃j,j<i/\l[j]?=some y:=by
 obtain⟨k,z,e⟩:=bE h;rw[aV] at z;rw[ic] at e;exact⟨k,by lia,by rw[ag (by lia),e]⟩
end
section
variable{prog:aC}{w:aL}{A:aO}{s:ah}{κ:dJ}{P:aG->Prop}{lt:aG->aG->Bool}{T out la lb:List aG}{na nb:Nat}{x y:aG}
theorem bZ6(o:Orc prog w A s κ P lt){l:List aG}(hP:∀z∈l,P z)(hs:Sd lt l){i:Nat}{z:aG}(hz:P z){y:aG}(hy:l[i]?=some y)(h:lt z y=false):∀u∈l.take (i+1),lt z u=false:=λu D=>by
 obtain⟨j,J,e⟩:=aQn D;rcases Nat.eq_or_lt_of_le (Nat.le_of_lt_succ J) with rfl|B
 ·rw[hy] at e;cases e;exact h
 ·exact o.tr u y z (hP u (ao e)) (hP y (ao hy)) hz (hs.at B e hy) h
theorem Iv.popA(h:Iv (rl lt) T out (la.take (na+1)++lb.take nb))(sa:Sd lt la)(hx:la[na]?=some x)(hl:∀u∈lb.take nb,lt x u=false):Iv (rl lt) T (out++[x]) (la.take na++lb.take nb):=by
 refine h.step ?_ (b8 _ _) λz B u D=>?_
 ·rw[bX1 hx,aS];exact List.perm_middle
 ·rw[aU.mp B];rcases aN.mp D with v|v
  ·obtain⟨j,J,e⟩:=aQn v;exact sa.at J e hx
  ·exact hl u v
theorem Iv.popB(h:Iv (rl lt) T out (la.take na++lb.take (nb+1)))(sb:Sd lt lb)(hy:lb[nb]?=some y)(hl:∀u∈la.take na,lt y u=false):Iv (rl lt) T (out++[y]) (la.take na++lb.take nb):=by
 refine h.step ?_ (b8 _ _) λz B u D=>?_
 ·rw[bX1 hy,<- aS];exact cO
 ·rw[aU.mp B];rcases aN.mp D with v|v
  ·exact hl u v
  ·obtain⟨j,J,e⟩:=aQn v;exact sb.at J e hy
theorem cQy(l:List aG){p n:Nat}(h:p<=n):l.take n=l.take p++(l.drop p).take (n-p):=by
 have:n=p+(n-p):=by lia
 rw[this,List.take_add];simp
theorem Iv.backA(h:Iv (rl lt) T out (la.take na++lb.take nb))(sa:Sd lt la){p:Nat}(hp:p<=na)(hl:∀z∈(la.drop p).take (na-p),∀u∈lb.take nb,lt z u=false):Iv (rl lt) T (out++((la.drop p).take (na-p)).reverse) (la.take p++lb.take nb):=by
 have e:=cQy la hp;have sd:=sa.take na;rw[e] at sd;obtain⟨_,s2,s3⟩:=aZ.mp sd;refine h.step ?_ (fV.mpr s2) λz j u B=>?_
 ·rw[e,aS];refine(List.perm_append_comm_assoc _ _ _).trans ?_;exact dy _ (ie _).symm
 ·have j:=iG.mp j;rcases aN.mp B with v|v
  ·exact s3 u v z j
  ·exact hl z j u v
theorem Iv.backB(h:Iv (rl lt) T out (la.take na++lb.take nb))(sb:Sd lt lb){p:Nat}(hp:p<=nb)(hl:∀z∈(lb.drop p).take (nb-p),∀u∈la.take na,lt z u=false):Iv (rl lt) T (out++((lb.drop p).take (nb-p)).reverse) (la.take na++lb.take p):=by
 have e:=cQy lb hp;have sd:=sb.take nb;rw[e] at sd;obtain⟨_,s2,s3⟩:=aZ.mp sd;refine h.step ?_ (fV.mpr s2) λz j u B=>?_
 ·rw[e,<- aS];refine cO.trans ?_;exact dy _ (ie _).symm
 ·have j:=iG.mp j;rcases aN.mp B with v|v
  ·exact hl z j u v
  ·exact s3 u v z j
end
theorem dQj(a:Array aG)(n:Nat):(a.extract 0 n).toList=a.toList.take n:=by rw[aZ6];simp
section
variable{prog:aC}{w:aL}{A:aO}{E:ad->ah->Prop}{s:ah}{κ:dJ}{P:aG->Prop}{lt:aG->aG->Bool}
theorem eZ0(o:Orc prog w A s κ P lt){st:cC}{a b:Array aG}{Q:Array aG->cC->Prop}(hk:kindOf st=κ)(pa:∀x∈a.toList,P x)(pb:∀y∈b.toList,P y)(sa:Sd lt a.toList)(sb:Sd lt b.toList)(na0:1<=a.size)(nb0:1<=b.size)
  (hfst:∀y,b.toList[0]?=some y->∀x∈a.toList,lt x y=false) (hlst:∀z,a.toList[a.size-1]?=some z->∀y∈b.toList,lt z y=false)
  (h:∀out g,Sd lt out.toList->out.toList.Perm (a.toList++b.toList)->Q out (setG st g)):wpS (az prog w) A E s (mHi a b) Q st:=by
 have sz:(a.toList++b.toList).length=a.size+b.size:=by simp
 have finG:∀(out:Array aG) na nb g,Sd lt (a.toList.take na++b.toList.take nb)->Iv (rl lt) (a.toList++b.toList) out.toList (a.toList.take na++b.toList.take nb)->Q (a.extract 0 na++b.extract 0 nb++out.reverse) (setG st g):=λout na nb g e iv=>by
  have:=iv.doneR (dh _) e
  refine h _ g ?_ ?_ <;> simp only[cm,eR,dQj]
  ·exact this.1
  ·exact this.2
 have finF:∀(out:Array aG) na nb g,nb=1->Iv (rl lt) (a.toList++b.toList) out.toList (a.toList.take na++b.toList.take nb)->Q (b.extract 0 nb++a.extract 0 na++out.reverse) (setG st g):=λout na nb g e iv=>by
  obtain⟨y0,hy0,hy0l⟩:=aQb (a:=b) (i:=0) nb0;have e1:b.toList.take nb=[y0]:=by rw[e];exact(bX1 (i:=0) hy0l)
  have sd:Sd lt (b.toList.take nb++a.toList.take na):=by
   rw[e1];exact bD.mpr ⟨λu hu=>hfst y0 hy0l u (cE hu),sa.take na⟩
  have:=iv.doneR cO sd
  refine h _ g ?_ ?_ <;> simp only[cm,eR,dQj]
  ·exact this.1
  ·exact this.2
 have t2:∀(N:ForInStep (Option (Array aG)×Nat×Nat×Array aG×Nat×Nat×Nat)->cC->Prop) (out:Array aG) (na nb mg ac bc g:Nat),(∀r c',Q r (setG st g)->N (.done (some r,c')) (setG st g)) ->
   (∀na' D B ac' bc',1<=na'->(na'<=a.size/\2<=D/\D<=b.size)->Iv (rl lt) (a.toList++b.toList) B.toList (a.toList.take na'++b.toList.take D)->out.size<=B.size->N (.done (none,na',D,B,mg,ac',bc')) (setG st g)/\N (.yield (none,na',D,B,mg,ac',bc')) (setG st g)) ->
   1<=na->na<=a.size->(2<=nb/\nb<=b.size)->Iv (rl lt) (a.toList++b.toList) out.toList (a.toList.take na++b.toList.take nb)->(∀x,a.toList[na-1]?=some x->∀u∈b.toList.take nb,lt x u=false) ->
   wpS (az prog w) A E s (do
    let x <- dM a (na-1)
    if (na-1==0)=true then pure (bj (some (a.extract 0 (na-1)++b.extract 0 nb++((out).push x).reverse),na-1,nb,(out).push x,mg,ac,bc))
    else if (decide (ac<7)&&decide (bc<7))=true then pure (bj (none,na-1,nb,(out).push x,mg,ac,bc))
    else pure (bn (none,na-1,nb,(out).push x,mg,ac,bc))) N (setG st g):=by
  intro N out na nb mg ac bc g hd hg hna hla hnb iv hl;obtain⟨m,rfl⟩:∃m,na=m+1:=⟨na-1,by lia⟩
  simp only[Nat.add_sub_cancel] at hl ⊢;obtain⟨x1,hx1,U⟩:=aQb (a:=a) (i:=m) (by lia)
  refine ar (aZ3 hx1 ?_);have Z:Iv (rl lt) (a.toList++b.toList) (out.push x1).toList (a.toList.take m++b.toList.take nb):=by
   rw[ca];exact iv.popA sa U (hl x1 U)
  have sp:(out.push x1).size=out.size+1:=cZ ..
  by_cases c1:(m==0)=true
  ·have m0:m=0:=by simpa using c1
   refine aQp c1 ?_;refine ay (hd _ _ (finG _ _ _ g ?_ Z));rw[m0];exact sb.take _
  ·refine aQq c1 ?_;have c1':m≠0:=by simpa using c1
   have:=hg m nb (out.push x1) ac bc (by lia) ⟨by lia,hnb⟩ Z (by lia)
   by_cases c2:(decide (ac<7)&&decide (bc<7))=true
   ·refine aQp c2 ?_;exact ay this.1
   ·refine aQq c2 ?_;exact ay this.2
 have t1:∀(N:ForInStep (Option (Array aG)×Nat×Nat×Array aG×Nat×Nat×Nat)->cC->Prop) (out:Array aG) (na nb mg ac bc g:Nat),(∀r c',Q r (setG st g)->N (.done (some r,c')) (setG st g)) ->
   (∀na' D B ac' bc',1<=na'->(na'<=a.size/\2<=D/\D<=b.size)->Iv (rl lt) (a.toList++b.toList) B.toList (a.toList.take na'++b.toList.take D)->out.size<=B.size->N (.done (none,na',D,B,mg,ac',bc')) (setG st g)/\N (.yield (none,na',D,B,mg,ac',bc')) (setG st g)) ->
   1<=na->na<=a.size->(2<=nb/\nb<=b.size)->Iv (rl lt) (a.toList++b.toList) out.toList (a.toList.take na++b.toList.take nb)->(∀y,b.toList[nb-1]?=some y->∀u∈a.toList.take na,lt y u=false) ->
   wpS (az prog w) A E s (do
    let y <- dM b (nb-1)
    if (nb-1==1)=true then pure (bj (some (b.extract 0 (nb-1)++a.extract 0 na++(out.push y).reverse),na,nb-1,out.push y,mg,ac,bc))
    else do
     let x <- dM a (na-1)
     let z <- gal true x b 0 (nb-1) (nb-1-1)
     match z with
     |some Y =>
      if nb-1-Y>0 then
       if (Y==1)=true then pure (bj (some (b.extract 0 Y++a.extract 0 na++(out.push y++(b.extract Y (nb-1)).reverse).reverse),na,Y,out.push y++(b.extract Y (nb-1)).reverse,mg,ac,nb-1-Y))
       else if (Y==0)=true then pure (bj (some (a.extract 0 na++b.extract 0 Y++(out.push y++(b.extract Y (nb-1)).reverse).reverse),na,Y,out.push y++(b.extract Y (nb-1)).reverse,mg,ac,nb-1-Y))
       else do
        let x <- dM a (na-1)
        if (na-1==0)=true then pure (bj (some (a.extract 0 (na-1)++b.extract 0 Y++((out.push y++(b.extract Y (nb-1)).reverse).push x).reverse),na-1,Y,(out.push y++(b.extract Y (nb-1)).reverse).push x,mg,ac,(nb-1-Y)))
        else if (decide (ac<7)&&decide ((nb-1-Y)<7))=true then pure (bj (none,na-1,Y,(out.push y++(b.extract Y (nb-1)).reverse).push x,mg,ac,(nb-1-Y)))
        else pure (bn (none,na-1,Y,(out.push y++(b.extract Y (nb-1)).reverse).push x,mg,ac,(nb-1-Y)))
      else do
       let x <- dM a (na-1)
       if (na-1==0)=true then pure (bj (some (a.extract 0 (na-1)++b.extract 0 (nb-1)++((out.push y).push x).reverse),na-1,(nb-1),(out.push y).push x,mg,ac,(nb-1-Y)))
       else if (decide (ac<7)&&decide ((nb-1-Y)<7))=true then pure (bj (none,na-1,(nb-1),(out.push y).push x,mg,ac,(nb-1-Y)))
       else pure (bn (none,na-1,(nb-1),(out.push y).push x,mg,ac,(nb-1-Y)))
     |_=>pure (bj (some (a.extract 0 na++b.extract 0 (nb-1)++(out.push y).reverse),na,nb-1,out.push y,mg,ac,bc))) N (setG st g):=by
  intro N out na nb mg ac bc g hd hg hna hla hnb iv hl;obtain⟨m,rfl⟩:∃m,nb=m+1:=⟨nb-1,by lia⟩
  simp only[Nat.add_sub_cancel] at hl ⊢;obtain⟨y1,hy1,O⟩:=aQb (a:=b) (i:=m) (by lia)
  obtain⟨x1,hx1,U⟩:=aQb (a:=a) (i:=na-1) (by lia)
  have px1:=pa x1 (ao U);refine ar (aZ3 hy1 ?_);have Z:Iv (rl lt) (a.toList++b.toList) (out.push y1).toList (a.toList.take na++b.toList.take m):=by
   rw[ca];exact iv.popB sb O (hl y1 O)
  have sp:(out.push y1).size=out.size+1:=cZ ..
  by_cases c1:(m==1)=true
  ·refine aQp c1 ?_;exact ay (hd _ _ (finF _ _ _ g (by simpa using c1) Z))
  refine aQq c1 ?_;have c1':m≠1:=by simpa using c1
  refine ar (aZ3 hx1 (ar (aJx o (f:=λi=>b.toList.getD (0+i) (.none,.none)) hk px1 (λi hi=>?_) (λi j hij hj hb=>?_) (by lia) λk k1 k2 k3=>?_)))
  ·obtain⟨z,hz,L⟩:=aQb (a:=b) (i:=0+i) (by lia)
   rw[ak,L];exact⟨hz,pb z (ao L)⟩
  ·obtain⟨z,hz,L⟩:=aQb (a:=b) (i:=0+i) (by lia)
   obtain⟨z',hz',hzl'⟩:=aQb (a:=b) (i:=0+j) (by lia)
   rw[ak,hzl'] at hb;rw[ak,L];have hb':lt z' x1=true:=hb;show lt z x1=true;cases e:lt z x1 with
   |true=>rfl
   |false =>
    exfalso;have pz:=pb z (ao L);have pz':=pb z' (ao hzl');rcases Nat.eq_or_lt_of_le hij with rfl|hlt
    ·rw[L] at hzl';cases hzl';rw[e] at hb';cases hb'
    ·have:=o.tr x1 z z' px1 pz pz' e (sb.at (by lia) L hzl')
     rw[hb'] at this;cases this
  have ahead:∀u∈b.toList.take k,lt x1 u=false:=λu hu=>by
   obtain⟨j,hj,e⟩:=aQn hu
   have:=k2 j hj
   rw[ak,Nat.zero_add,e] at this;exact o.as _ _ (pb u (ao e)) px1 this
  dsimp only
  by_cases ck:m-k>0
  ·refine aQp ck ?_;have iv3:Iv (rl lt) (a.toList++b.toList) (out.push y1++(b.extract k m).reverse).toList (a.toList.take na++b.toList.take k):=by
    rw[cm,eR,aZ6];refine Z.backB sb k1 λz hz u hu=>?_;obtain⟨j,hj,L⟩:=aZd hz;have pz:=pb z (ao L);have hb:=k3 (k+j) (by lia) (by lia)
    rw[ak,Nat.zero_add,L] at hb
    have:=bZ6 o pa sa pz U hb
    rw[show na-1+1=na by lia] at this
    exact this u hu
   have sz3:out.size<=(out.push y1++(b.extract k m).reverse).size:=by rw[dl];lia
   by_cases c3:(k==1)=true
   ·refine aQp c3 ?_;exact ay (hd _ _ (finF _ _ _ g (by simpa using c3) iv3))
   ·refine aQq c3 ?_;have c3':k≠1:=by simpa using c3
    by_cases c4:(k==0)=true
    ·have k0:k=0:=by simpa using c4
     refine aQp c4 ?_;refine ay (hd _ _ (finG _ _ _ g ?_ iv3));rw[k0,jf,bY];exact sa.take _
    ·refine aQq c4 ?_;have c4':k≠0:=by simpa using c4
     refine t2 N _ na k mg ac (m-k) g hd (λn1 n2 o' a1 b1 q1 q2 q3 q4=>hg n1 n2 o' a1 b1 q1 q2 q3 (by lia)) hna hla ⟨by lia,by lia⟩ iv3 λx hx u hu=>?_
     rw[U] at hx;cases hx;exact ahead u hu
  ·refine aQq ck ?_;have ek:k=m:=by lia
   refine t2 N _ na m mg ac (m-k) g hd (λn1 n2 o' a1 b1 q1 q2 q3 q4=>hg n1 n2 o' a1 b1 q1 q2 q3 (by lia)) hna hla ⟨by lia,by lia⟩ Z λx hx u hu=>?_
   rw[U] at hx;cases hx;exact ahead u (by rw[ek];exact hu)
 rw[eQz];refine ar (gW (cJ ⟨rfl,?_⟩));dsimp only;obtain⟨x0,hx0,hx0l⟩:=aQb (a:=a) (i:=a.size-1) (by lia)
 refine ar (aZ3 hx0 ?_);have iv0:Iv (rl lt) (a.toList++b.toList) (#[x0]:Array aG).toList (a.toList.take (a.size-1)++b.toList.take b.size):=by
  have e1:a.toList.take (a.size-1+1)=a.toList:=bQ (by simp;lia)
  have e2:b.toList.take b.size=b.toList:=bQ (by simp)
  have i0:Iv (rl lt) (a.toList++b.toList) [] (a.toList.take (a.size-1+1)++b.toList.take b.size):=⟨by rw[e1,e2];exact dh _,fH,by simp⟩
  exact i0.popA sa hx0l λu hu=>hlst x0 hx0l u (cE hu)
 have est:st=setG st (gallopOf st):=rfl
 by_cases ha1:(a.size-1==0)=true
 ·refine aQp ha1 ?_;have a0:a.size-1=0:=by simpa using ha1
  refine ay ?_;rw[est];refine finG _ _ _ _ ?_ iv0;rw[a0];exact sb.take _
 refine aQq ha1 ?_
 by_cases hb1:(b.size==1)=true
 ·refine aQp hb1 ?_;refine ay ?_;rw[est];exact finF _ _ _ _ (by simpa using hb1) iv0
 refine aQq hb1 ?_;have hb2:2<=b.size:=by
  have:b.size≠1:=by simpa using hb1
  lia
 have ha2:1<=a.size-1:=by
  have:a.size-1≠0:=by simpa using ha1
  lia
 refine ar (gz ?_);refine ar (cS (bA (I:=λx c J=>∃ na nb out mg g,c=(none,na,nb,out,mg)/\J=setG st g/\1<=na/\na<=a.size/\(2<=nb/\nb<=b.size)/\Iv (rl lt) (a.toList++b.toList) out.toList (a.toList.take na++b.toList.take nb)/\x + 1<=out.size)
  (Q:=λc J=>∃r,c.fst=some r/\Q r J) ?_ ?_ ⟨_,_,#[x0],_,_,rfl,est,ha2,by lia,⟨hb2,Nat.le_refl _⟩,iv0,by simp⟩) ?_)
 ·intro x c J _ hx zq;refine hd λGq kq=>?_;obtain⟨na,nb,out,mg,g,rfl,rfl,hna,hla,hnb,iv,hsz⟩:=zq;refine kq ?_;dsimp only;refine ar (cS (bA (I:=λy c J=>∃ na' D B ac bc,c=(none,na',D,B,ac,bc)/\J=setG st g/\1<=na'/\na'<=a.size/\(2<=D/\D<=b.size)/\Iv (rl lt) (a.toList++b.toList) B.toList (a.toList.take na'++b.toList.take D)/\out.size + y<=B.size)
   (Q:=λc J=>J=setG st g/\((∃r,c.fst=some r/\Q r J)\/∃na' D B ac bc,c=(none,na',D,B,ac,bc)/\1<=na'/\na'<=a.size/\(2<=D/\D<=b.size)/\Iv (rl lt) (a.toList++b.toList) B.toList (a.toList.take na'++b.toList.take D)/\out.size+1<=B.size)) ?_ ?_ ⟨na,nb,out,0,0,rfl,rfl,hna,hla,hnb,iv,Nat.le_refl _⟩) ?_)
  ·intro y c J _ hy zq;refine hd λGq kq=>?_;obtain⟨na',D,B,ac,bc,rfl,rfl,hna',hla',hnb',iv',hsz'⟩:=zq;refine kq ?_;obtain⟨ma,rfl⟩:∃m,na'=m+1:=⟨na'-1,by lia⟩
   obtain⟨mb,rfl⟩:∃m,D=m+1:=⟨D-1,by lia⟩
   obtain⟨x1,hx1,U⟩:=aQb (a:=a) (i:=ma) (by lia)
   obtain⟨y1,hy1,O⟩:=aQb (a:=b) (i:=mb) (by lia)
   have px1:=pa x1 (ao U);have py1:=pb y1 (ao O);dsimp only;simp only[Nat.add_sub_cancel];refine ar (aZ3 hy1 (ar (aZ3 hx1 (ar (cQx o hk py1 px1 ?_)))));dsimp only;cases e:lt y1 x1 with
   |true =>
    refine aQp rfl ?_;refine ar (aZ3 hx1 ?_);have Z:Iv (rl lt) (a.toList++b.toList) (B.push x1).toList (a.toList.take ma++b.toList.take (mb+1)):=by
     rw[ca];exact iv'.popA sa U (bZ6 o pb sb px1 O (o.as _ _ py1 px1 e))
    have sp:(B.push x1).size=B.size+1:=cZ ..
    by_cases c1:(ma==0)=true
    ·have m0:ma=0:=by simpa using c1
     refine aQp c1 ?_;refine ay ⟨rfl,.inl ⟨_,rfl,finG _ _ _ g ?_ Z⟩⟩;rw[m0];exact sb.take _
    ·refine aQq c1 ?_;have c1':ma≠0:=by simpa using c1
     by_cases c2:ac+1>=mg
     ·refine aQp c2 ?_;exact ay ⟨rfl,.inr ⟨_,_,_,_,_,rfl,by lia,by lia,hnb',Z,by lia⟩⟩
     ·refine aQq c2 ?_;exact ay ⟨_,_,_,_,_,rfl,rfl,by lia,by lia,hnb',Z,by lia⟩
   |false =>
    refine aQq (by simp) ?_
    refine ar (aZ3 hy1 ?_);have Z:Iv (rl lt) (a.toList++b.toList) (B.push y1).toList (a.toList.take (ma+1)++b.toList.take mb):=by
     rw[ca];exact iv'.popB sb O (bZ6 o pa sa py1 U e)
    have sp:(B.push y1).size=B.size+1:=cZ ..
    by_cases c1:(mb==1)=true
    ·refine aQp c1 ?_;exact ay ⟨rfl,.inl ⟨_,rfl,finF _ _ _ g (by simpa using c1) Z⟩⟩
    ·refine aQq c1 ?_;have c1':mb≠1:=by simpa using c1
     by_cases c2:bc+1>=mg
     ·refine aQp c2 ?_;exact ay ⟨rfl,.inr ⟨_,_,_,_,_,rfl,by lia,by lia,⟨by lia,by lia⟩,Z,by lia⟩⟩
     ·refine aQq c2 ?_;exact ay ⟨_,_,_,_,_,rfl,rfl,by lia,by lia,⟨by lia,by lia⟩,Z,by lia⟩
  ·intro c J zq;refine hd λGq kq=>?_;obtain⟨na',D,B,ac,bc,rfl,rfl,hna',hla',hnb',iv',hsz'⟩:=zq;refine kq ?_;exact⟨rfl,.inr ⟨_,_,_,_,_,rfl,hna',hla',hnb',iv',by lia⟩⟩
  ·rintro c J ⟨rfl,⟨r,hr,q⟩|⟨na1,nb1,out1,ac1,bc1,rfl,hna1,hla1,hnb1,iv1,hsz1⟩⟩
   ·obtain⟨c1,c2⟩:=c;dsimp only at hr;subst hr;exact ay ⟨r,rfl,q⟩
   ·dsimp only;refine ar (gW (cJ ⟨rfl,?_⟩));refine ar (cS (bA (I:=λy c J=>∃ na' D B mg' ac bc g',c=(none,na',D,B,mg',ac,bc)/\J=setG st g'/\1<=na'/\(na'<=a.size/\2<=D/\D<=b.size)/\Iv (rl lt) (a.toList++b.toList) B.toList (a.toList.take na'++b.toList.take D)/\out1.size<=B.size)
     (Q:=λc J=>(∃r,c.fst=some r/\Q r J)\/∃na' D B mg' ac bc g',c=(none,na',D,B,mg',ac,bc)/\J=setG st g'/\1<=na'/\(na'<=a.size/\2<=D/\D<=b.size)/\Iv (rl lt) (a.toList++b.toList) B.toList (a.toList.take na'++b.toList.take D)/\out1.size<=B.size) ?_ ?_ ⟨na1,nb1,out1,_,ac1,bc1,g,rfl,rfl,hna1,⟨hla1,hnb1⟩,iv1,Nat.le_refl _⟩) ?_)
    ·intro y c J _ hy zq;refine hd λGq kq=>?_;obtain⟨na',D,B,mg',ac,bc,g',rfl,rfl,hna',⟨hla',hnb'⟩,iv',hsz'⟩:=zq;refine kq ?_;dsimp only;obtain⟨y1,hy1,O⟩:=aQb (a:=b) (i:=D-1) (by lia)
     have py1:=pb y1 (ao O);have fa:∀i,i<na'->a[0+i]?=some (a.toList.getD (0+i) (.none,.none))/\P (a.toList.getD (0+i) (.none,.none)):=λi hi=>by
      obtain⟨z,hz,L⟩:=aQb (a:=a) (i:=0+i) (by lia)
      rw[ak,L];exact⟨hz,pa z (ao L)⟩
     have mono:∀i j,i<=j->j<na'->bv lt false y1 (a.toList.getD (0+j) (.none,.none))=true->bv lt false y1 (a.toList.getD (0+i) (.none,.none))=true:=λi j hij hj hb=>by
      obtain⟨z,hz,L⟩:=aQb (a:=a) (i:=0+i) (by lia)
      obtain⟨z',hz',hzl'⟩:=aQb (a:=a) (i:=0+j) (by lia)
      rw[ak,hzl'] at hb;rw[ak,L];have hb':lt y1 z'=false:=by simpa [bv] using hb
      show(!lt y1 z)=true;rcases Nat.eq_or_lt_of_le hij with rfl|hlt
      ·rw[L] at hzl';cases hzl';rw[hb'];rfl
      ·rw[o.tr z z' y1 (pa z (ao L)) (pa z' (ao hzl')) py1 (sa.at (by lia) L hzl') hb'];rfl
     clear kq
     revert mg'
     refine dQi (λ_=>rfl) λm2=>?_;refine ar (cD (ar (aZ3 hy1 (ar (aJx o (f:=λi=>a.toList.getD (0+i) (.none,.none)) hk py1 fa mono (by lia) λk k1 k2 k3=>?_)))))
     dsimp only;have ahead:∀u∈a.toList.take k,lt y1 u=false:=λu hu=>by
      obtain⟨j,hj,e⟩:=aQn hu
      have:=k2 j hj
      rw[ak,Nat.zero_add,e] at this;have h1:(!lt y1 u)=true:=this;simpa using h1
     by_cases ck:na'-k>0
     ·refine aQp ck ?_;have iv3:Iv (rl lt) (a.toList++b.toList) (B++(a.extract k na').reverse).toList (a.toList.take k++b.toList.take D):=by
       rw[cm,eR,aZ6];refine iv'.backA sa k1 λz hz u hu=>?_;obtain⟨j,hj,L⟩:=aZd hz;have hb:=k3 (k+j) (by lia) (by lia)
       rw[ak,Nat.zero_add,L] at hb;have h1:(!lt y1 z)=false:=hb;have pz:=pa z (ao L)
       have:=bZ6 o pb sb pz O (o.as _ _ py1 pz (by simpa using h1))
       rw[show D-1+1=D by lia] at this
       exact this u hu
      have sz3:out1.size<=(B++(a.extract k na').reverse).size:=by rw[dl];lia
      by_cases c3:(k==0)=true
      ·have k0:k=0:=by simpa using c3
       refine aQp c3 ?_;refine ay (.inl ⟨_,rfl,finG _ _ _ _ ?_ iv3⟩);rw[k0];exact sb.take _
      ·refine aQq c3 ?_;have c3':k≠0:=by simpa using c3
       refine t1 _ _ k D m2 (na'-k) bc m2 (λr c' q=>.inl ⟨r,rfl,q⟩) (λn1 n2 o' a1 b1 q1 q2 q3 q4=>⟨.inr ⟨_,_,_,_,_,_,_,rfl,rfl,q1,q2,q3,by lia⟩,⟨_,_,_,_,_,_,_,rfl,rfl,q1,q2,q3,by lia⟩⟩) (by lia) (by lia) hnb' iv3 λy hy u hu=>?_
       rw[O] at hy;cases hy;exact ahead u hu
     ·refine aQq ck ?_;have ek:k=na':=by lia
      refine t1 _ _ na' D m2 (na'-k) bc m2 (λr c' q=>.inl ⟨r,rfl,q⟩) (λn1 n2 o' a1 b1 q1 q2 q3 q4=>⟨.inr ⟨_,_,_,_,_,_,_,rfl,rfl,q1,q2,q3,by lia⟩,⟨_,_,_,_,_,_,_,rfl,rfl,q1,q2,q3,by lia⟩⟩) hna' hla' hnb' iv' λy hy u hu=>?_
      rw[O] at hy;cases hy;exact ahead u (by rw[ek];exact hu)
    ·intro c J zq;refine hd λGq kq=>?_;obtain⟨na',D,B,mg',ac,bc,g',rfl,rfl,hna',hl',iv',hsz'⟩:=zq;refine kq ?_;exact .inr ⟨_,_,_,_,_,_,_,rfl,rfl,hna',hl',iv',hsz'⟩
    ·rintro c J (⟨r,hr,q⟩|⟨na',D,B,mg',ac,bc,g',rfl,rfl,hna',hl',iv',hsz'⟩)
     ·obtain⟨c1,c2⟩:=c;dsimp only at hr;subst hr;exact ay ⟨r,rfl,q⟩
     ·dsimp only;exact ar (cD (ay ⟨_,_,_,_,_,rfl,rfl,hna',hl'.1,hl'.2,iv',by lia⟩))
 ·intro c J zq;refine hd λGq kq=>?_;obtain⟨na,nb,out,mg,g,rfl,rfl,hna,hla,hnb,iv,hsz⟩:=zq;refine kq ?_;exfalso
  have:=iv.size
  rw[sz,aJ] at this;lia
 ·rintro c J ⟨r,hr,q⟩;obtain⟨c1,c2⟩:=c;dsimp only at hr;subst hr;exact ay q
end
theorem eZ1(i:Nat):mergeAt' i=(do
 let s <- get
 let (some (sa,na,pw),some (sb,nb,_)):=((br s)[i]?,(br s)[i+1]?)|gg "internal:list.sort.pending"
 set (eT s (((br s).setIfInBounds i (sa,na+nb,pw)).eraseIdxIfInBounds (i+1)))
 let some k <- gal false (<- dM (aH s) sb) (aH s) sa na 0|return false
 let (sa,na):=(sa+k,na-k)
 if na==0 then return true
 let some nb <- gal true (<- dM (aH s) (sa+na-1)) (aH s) sb nb (nb-1)|return false
 if nb==0 then return true
 let x:=(aH s).extract sa sb
 let y:=(aH s).extract sb (sb+nb)
 let m <- if na<=nb then mLo x y else mHi x y
 modify λs=>cx s (m.toList.zipIdx.foldl (λa (p,j)=>a.setIfInBounds (sa+j) p) (aH s))
 return (eQ (<- get)).isNone):=rfl
theorem dZp{M:Model}{A:aO}{E:ad->ah->Prop}{s:ah}{σ:Type}{st st':σ}{Q:PUnit->σ->Prop}(h:Q ⟨⟩ st'):wpS M A E s (set st':StateT σ Sem PUnit) Q st:=by
 unfold wpS;show aF M A (pure (PUnit.unit,st'):Sem (PUnit×σ)) _ E s;exact af ⟨rfl,h⟩
theorem bXn(off:Nat):∀(M:List aG) (k:Nat) (xs:Array aG),off+k+M.length<=xs.size->((M.zipIdx k).foldl (λa pj=>a.setIfInBounds (off+pj.2) pj.1) xs).toList=xs.toList.take (off+k)++M++xs.toList.drop (off+k+M.length)
 |[],k,xs,h=>by simp
 |x::M,k,xs,h=>by
  rw[List.zipIdx_cons,List.foldl_cons,bXn off M (k+1) _ (by simp at h ⊢;lia)]
  simp only[gX];rw[b7] at h ⊢;have z:off+k<xs.toList.length:=by simp;lia
  rw[show off+(k+1)=off+k+1 by lia,List.take_set,List.drop_set_of_lt (by lia),List.set_eq_take_append_cons_drop]
  have j:(off+k)<(xs.toList.take (off+k+1)).length:=by rw[aV];lia
  rw[if_pos j,List.take_take,Nat.min_eq_left (by lia),bF (by rw[aV];lia)]
  simp[aS,show off+k+1+M.length=off+k+(M.length+1) by lia]
section
variable{prog:aC}{w:aL}{A:aO}{E:ad->ah->Prop}{s:ah}{κ:dJ}{P:aG->Prop}{lt:aG->aG->Bool}
theorem eZ2(o:Orc prog w A s κ P lt){st:cC}{i sa na pw sb nb pw':Nat}{L1 Aa Bb L2:List aG}{Q:Bool->cC->Prop}(hk:kindOf st=κ)(hf:eQ st=none)(hp1:(br st)[i]?=some (sa,na,pw))(hp2:(br st)[i+1]?=some (sb,nb,pw'))
  (hsb:sb=sa+na) (hl:(aH st).toList=L1++(Aa++(Bb++L2))) (l1:L1.length=sa) (lA:Aa.length=na) (lB:Bb.length=nb) (na1:1<=na) (nb1:1<=nb) (PA:∀x∈Aa,P x) (PB:∀x∈Bb,P x) (sA:Sd lt Aa) (sB:Sd lt Bb)
  (h:∀C g xs,xs.toList=L1++(C++L2)->Sd lt C->C.Perm (Aa++Bb)->Q true (gV κ xs (((br st).setIfInBounds i (sa,na+nb,pw)).eraseIdxIfInBounds (i+1)) g none)):wpS (az prog w) A E s (mergeAt' i) Q st:=by
 have hsz:(aH st).size=sa+na+nb+L2.length:=by
  have:=congrArg jb hl
  simp only[aJ,aB] at this;lia
 have atA:∀j x,Aa[j]?=some x->(aH st)[sa+j]?=some x:=λj x B=>by
  have hjl:=(aE.mp B).1;rw[<- aT,hl,cz (by lia),l1,Nat.add_sub_cancel_left,e6 hjl];exact B
 have atB:∀j x,Bb[j]?=some x->(aH st)[sb+j]?=some x:=λj x B=>by
  have hjl:=(aE.mp B).1;rw[<- aT,hl,cz (by lia),l1,cz (by lia),lA,e6 (by lia)]
  rw[show sb+j-sa-na=j by lia];exact B
 have U:∀j,j<na->∃x,Aa[j]?=some x:=λj B=>⟨Aa[j],ag (by lia)⟩
 have O:∀j,j<nb->∃x,Bb[j]?=some x:=λj B=>⟨Bb[j],ag (by lia)⟩
 obtain⟨b0,hb0⟩:=O 0 nb1;have pb0:=PB b0 (ao hb0);rw[eZ1];refine ar (gz ?_);rw[hp1,hp2];dsimp only;refine ar (dZp ?_);have hk2:kindOf (eT st (((br st).setIfInBounds i (sa,na+nb,pw)).eraseIdxIfInBounds (i+1)))=κ:=hk;have est:∀g xs,cx (setG (eT st (((br st).setIfInBounds i (sa,na+nb,pw)).eraseIdxIfInBounds (i+1))) g) xs=gV κ xs (((br st).setIfInBounds i (sa,na+nb,pw)).eraseIdxIfInBounds (i+1)) g none:=λg xs=>by
  show gV (kindOf st) xs _ g (eQ st)=_;rw[hk,hf]
 refine ar (aZ3 (x:=b0) (by have:=atB 0 b0 hb0;rwa [Nat.add_zero] at this) (ar (aJx o (f:=λj=>Aa.getD j (.none,.none)) hk2 pb0 (λj B=>?_) (λj j' hjj B hb=>?_) (by lia) λk k1 k2 k3=>?_)))
 ·obtain⟨x,J⟩:=U j B;rw[ak,J];exact⟨atA j x J,PA x (ao J)⟩
 ·obtain⟨z,hz⟩:=U j (by lia)
  obtain⟨z',hz'⟩:=U j' B;rw[ak,hz'] at hb;rw[ak,hz];have hb':lt b0 z'=false:=by simpa [bv] using hb
  show(!lt b0 z)=true;rcases Nat.eq_or_lt_of_le hjj with rfl|hlt
  ·rw[hz] at hz';cases hz';rw[hb'];rfl
  ·rw[o.tr z z' b0 (PA z (ao hz)) (PA z' (ao hz')) pb0 (sA.at hlt hz hz') hb'];rfl
 have Z:∀u∈Aa.take k,∀v∈Bb,lt v u=false:=λu L v N=>by
  obtain⟨j,B,e⟩:=aQn L
  have:=k2 j B
  rw[ak,e] at this;have h1:(!lt b0 u)=true:=this;exact bZ5 o PB sB (i:=0) (PA u (ao e)) hb0 (by simpa using h1) v N
 have upA:∀u∈Aa.drop k,lt u b0=false:=λu L=>by
  obtain⟨j,B,e⟩:=aQk L;have hjl:=(aE.mp e).1
  have:=k3 j B (by lia)
  rw[ak,e] at this;have h1:(!lt b0 u)=false:=this;exact o.as _ _ pb0 (PA u (ao e)) (by simpa using h1)
 dsimp only;have whole:∀g,Sd lt (Aa++Bb)->Q true (setG (eT st (((br st).setIfInBounds i (sa,na+nb,pw)).eraseIdxIfInBounds (i+1))) g):=λg hs=>by
  have:=h (Aa++Bb) g (aH st) (by rw[hl,aS]) hs (dh _)
  rw[<- est g (aH st)] at this;exact this
 by_cases c1:(na-k==0)=true
 ·rw[if_pos c1];have kn:k=na:=by
   have:na-k=0:=by simpa using c1
   lia
  refine ay (whole _ (aZ.mpr ⟨sA,sB,λu L v N=>Z u ?_ v N⟩));rw[kn,<- lA,cT];exact L
 rw[if_neg c1];have c1':na-k≠0:=by simpa using c1
 obtain⟨al,hal⟩:=U (na-1) (by lia)
 have pal:=PA al (ao hal);refine ar (aZ3 (x:=al) (by have:=atA _ al hal;rwa [show sa+k+(na-k)-1=sa+(na-1) by lia]) (ar (aJx o (f:=λj=>Bb.getD j (.none,.none)) hk2 pal (λj B=>?_) (λj j' hjj B hb=>?_) (by lia) λm m1 m2 m3=>?_)))
 ·obtain⟨x,J⟩:=O j B;rw[ak,J];exact⟨atB j x J,PB x (ao J)⟩
 ·obtain⟨z,hz⟩:=O j (by lia)
  obtain⟨z',hz'⟩:=O j' B;rw[ak,hz'] at hb;rw[ak,hz];have hb':lt z' al=true:=hb;show lt z al=true;cases e:lt z al with
  |true=>rfl
  |false =>
   exfalso;have pz:=PB z (ao hz);have pz':=PB z' (ao hz');rcases Nat.eq_or_lt_of_le hjj with rfl|hlt
   ·rw[hz] at hz';cases hz';rw[e] at hb';cases hb'
   ·have:=o.tr al z z' pal pz pz' e (sB.at hlt hz hz')
    rw[hb'] at this;cases this
 have upB:∀v∈Bb.drop m,∀u∈Aa,lt v u=false:=λv N u L=>by
  obtain⟨j,B,e⟩:=aQk N;have hjl:=(aE.mp e).1
  have:=m3 j B (by lia)
  rw[ak,e] at this;have h1:lt v al=false:=this
  have:=bZ6 o PA sA (PB v (ao e)) hal h1
  rw[show na-1+1=Aa.length by lia,cT] at this
  exact this u L
 have lowB:∀v∈Bb.take m,lt al v=false:=λv N=>by
  obtain⟨j,B,e⟩:=aQn N
  have:=m2 j B
  rw[ak,e] at this;exact o.as _ _ (PB v (ao e)) pal this
 dsimp only
 by_cases c2:(m==0)=true
 ·rw[if_pos c2];have m0:m=0:=by simpa using c2
  refine ay (whole _ (aZ.mpr ⟨sA,sB,λu L v N=>upB v ?_ u L⟩));rw[m0];exact N
 rw[if_neg c2];have c2':m≠0:=by simpa using c2
 have ex:((aH st).extract (sa+k) sb).toList=Aa.drop k:=by
  rw[aZ6,hl,<- l1,eY,bF (by lia),bo,Nat.add_sub_cancel_left,d8 (by lia),cL (by rw[bz];lia)]
  exact bQ (by rw[bz];lia)
 have ey:((aH st).extract sb (sb+m)).toList=Bb.take m:=by
  rw[aZ6,hl,Nat.add_sub_cancel_left,eY,bF (by lia),bo,eY,bF (by lia),bo,show sb-L1.length-Aa.length=0 by lia,jg,cL (by lia)]
 have zx:((aH st).extract (sa+k) sb).size=na-k:=by rw[<- aJ,ex,bz,lA]
 have zy:((aH st).extract sb (sb+m)).size=m:=by rw[<- aJ,ey,aV];lia
 have fin:∀ (M:Array aG) g,Sd lt M.toList->M.toList.Perm (((aH st).extract (sa + k) sb).toList++((aH st).extract sb (sb + m)).toList)->wpS (az prog w) A E s (do
   modify λs=>cx s (M.toList.zipIdx.foldl (λa Y=>a.setIfInBounds (sa+k+Y.2) Y.1) (aH s))
   let z <- get
   pure (eQ z).isNone) Q (setG (eT st (((br st).setIfInBounds i (sa,na+nb,pw)).eraseIdxIfInBounds (i+1))) g):=λM g hs D=>by
  refine ar (cD (ar (gz (ay ?_))));rw[ex,ey] at D;have ml:=D.length_eq;rw[aB,bz,aV] at ml;have ll:=bXn (sa+k) M.toList 0 (aH st) (by lia)
  have hfn:(eQ (cx (setG (eT st (((br st).setIfInBounds i (sa,na+nb,pw)).eraseIdxIfInBounds (i+1))) g) (M.toList.zipIdx.foldl (λa Y=>a.setIfInBounds (sa+k+Y.2) Y.1) (aH st)))).isNone=true:=by
   show(eQ st).isNone=true;rw[hf];rfl
  have main:=h (Aa.take k++(M.toList++Bb.drop m)) g (M.toList.zipIdx.foldl (λa Y=>a.setIfInBounds (sa+k+Y.2) Y.1) (aH st)) ?_ ?_ ?_
  ·rw[<- est g] at main;show Q _ _;have e0:(eQ (cx (setG (eT st (((br st).setIfInBounds i (sa,na+nb,pw)).eraseIdxIfInBounds (i+1))) g) (M.toList.zipIdx.foldl (λa Y=>a.setIfInBounds (sa+k+Y.2) Y.1) (aH st)))).isNone=true:=hfn;exact(e0.symm▸main)
  ·rw[ll,hl];have t1:(L1++(Aa++(Bb++L2))).take (sa+k+0)=L1++Aa.take k:=by
    rw[<- l1,Nat.add_zero,List.take_append,bQ (by lia),Nat.add_sub_cancel_left,cL (by lia)]
   have t2:(L1++(Aa++(Bb++L2))).drop (sa+k+0+M.toList.length)=Bb.drop m++L2:=by
    rw[eY,bF (by lia),bo,eY,bF (by lia),bo,show sa+k+0+M.toList.length-L1.length-Aa.length=m by lia,d8 (by lia)]
   rw[t1,t2];simp only[aS]
  ·have sA':Sd lt (Aa.take k++Aa.drop k):=by rw[a6];exact sA
   have sB':Sd lt (Bb.take m++Bb.drop m):=by rw[a6];exact sB
   obtain⟨a1,_,a3⟩:=aZ.mp sA';obtain⟨_,b2,b3⟩:=aZ.mp sB';refine aZ.mpr ⟨a1,aZ.mpr ⟨hs,b2,λu L v N=>?_⟩,λu L v N=>?_⟩
   ·rcases aN.mp (D.mem_iff.mp L) with z|z
    ·exact upB v N u (dY z)
    ·exact b3 u z v N
   ·rcases aN.mp N with z|z
    ·rcases aN.mp (D.mem_iff.mp z) with y|y
     ·exact a3 u L v y
     ·exact Z u L v (cE y)
    ·exact Z u L v (dY z)
  ·have e1:(Aa++Bb)=Aa.take k++(Aa.drop k++(Bb.take m++Bb.drop m)):=by rw[<- aS,a6,a6]
   rw[e1];refine dN _ ?_;rw[<- aS];exact dy _ D
 have pX:∀x∈((aH st).extract (sa+k) sb).toList,P x:=λx J=>PA x (dY (by rw[ex] at J;exact J))
 have pY:∀x∈((aH st).extract sb (sb+m)).toList,P x:=λx J=>PB x (cE (by rw[ey] at J;exact J))
 have hF:∀y,((aH st).extract sb (sb+m)).toList[0]?=some y->∀x∈((aH st).extract (sa+k) sb).toList,lt x y=false:=λy hy x J=>by
  rw[ey,im (by lia),hb0] at hy
  cases hy;rw[ex] at J;exact upA x J
 have hL:∀z,((aH st).extract (sa+k) sb).toList[((aH st).extract (sa+k) sb).size-1]?=some z->∀y∈((aH st).extract sb (sb+m)).toList,lt z y=false:=λz hz y hy=>by
  rw[ex,zx,List.getElem?_drop,show k+(na-k-1)=na-1 by lia,hal] at hz
  cases hz;rw[ey] at hy;exact lowB y hy
 have sX:Sd lt ((aH st).extract (sa+k) sb).toList:=by rw[ex];exact sA.drop k
 have sY:Sd lt ((aH st).extract sb (sb+m)).toList:=by rw[ey];exact sB.take m
 by_cases c3:na-k<=m
 ·rw[if_pos c3];exact ar (eQy o hk2 pX pY sX sY (by lia) (by lia) hF hL λM g hs D=>fin M g hs D)
 ·rw[if_neg c3];exact ar (eZ0 o hk2 pX pY sX sY (by lia) (by lia) hF hL λM g hs D=>fin M g hs D)
end
def at0(xs:Array aG)(i:Nat):aG:=(xs[i]?).getD (.none,.none)
theorem cQz{xs ys:Array aG}{i j:Nat}(h:xs[i]?=ys[j]?):at0 xs i=at0 ys j:=by unfold at0;rw[h]
def Gd(lo:Nat)(a xs:Array aG):Prop:=xs.Perm a/\∀i,i<lo->xs[i]?=a[i]?
theorem Gd.size{lo:Nat}{a xs:Array aG}(h:Gd lo a xs):xs.size=a.size:=h.1.size_eq
def Up(lt:aG->aG->Bool)(xs:Array aG)(i j:Nat):Prop:=∀p q,i<=p->p<q->q<j->lt (at0 xs q) (at0 xs p)=false
def Dn(lt:aG->aG->Bool)(xs:Array aG)(i j:Nat):Prop:=∀p q,i<=p->p<q->q<j->lt (at0 xs p) (at0 xs q)=false
def Eqs(lt:aG->aG->Bool)(xs:Array aG)(i j:Nat):Prop:=∀p q,i<=p->p<j->i<=q->q<j->lt (at0 xs p) (at0 xs q)=false
theorem aJf{xs:Array aG}{i j:Nat}(hj:j<=xs.size)(k:Nat):at0 (c5 xs i j ((j-i)/2)) k=if i<=k/\k<j then at0 xs (i+j-1-k) else at0 xs k:=by
 have e:=getElem?_mirror_all (i:=i) hj k
 split at e
 ·next h=>rw[if_pos h];exact cQz e
 ·next h=>rw[if_neg h];exact cQz e
theorem Gd.rev{lo i j d:Nat}{a xs:Array aG}(h:Gd lo a xs)(hi:lo<=i)(hj:j<=xs.size)(hd:d=(j-i)/2):Gd lo a (c5 xs i j d):=by
 subst hd;refine⟨(mirror_perm _ _ _ _).trans h.1,λk z=>?_⟩;rw[getElem?_mirror_all hj,if_neg (by lia)]
 exact h.2 k z
section
variable{prog:aC}{w:aL}{A:aO}{E:ad->ah->Prop}{s:ah}{κ:dJ}{P:aG->Prop}{lt:aG->aG->Bool}
theorem gd_P{lo:Nat}{a xs:Array aG}(h:Gd lo a xs)(PA:∀x∈a.toList,P x){i:Nat}(hi:i<a.size):xs[i]?=some (at0 xs i)/\P (at0 xs i):=by
 have j:i<xs.size:=by rw[h.size];exact hi
 have e:xs[i]?=some xs[i]:=getElem?_pos _ i j;have z:at0 xs i=xs[i]:=by unfold at0;rw[e];rfl
 rw[z];exact⟨e,PA _ ((b9.mp h.1).mem_iff.mp (by simp))⟩
theorem aZ4(o:Orc prog w A s κ P lt){st:cC}{xs:Array aG}{lo i j:Nat}{Q:Option Bool->cC->Prop}(hk:kindOf st=κ)(PA:∀x∈(aH st).toList,P x)(g:Gd lo (aH st) xs)(hi:i<(aH st).size)(hj:j<(aH st).size)(h:Q (some (lt (at0 xs i) (at0 xs j))) (cx st xs)) :
  wpS (az prog w) A E s (ltAt' i j) Q (cx st xs):=by
 rw[ltAt'_eq];refine ar (gz ?_);obtain⟨D,z⟩:=gd_P g PA hi;obtain⟨B,p2⟩:=gd_P g PA hj;exact ar (aZ3 D (ar (aZ3 B (cQx o hk z p2 h))))
theorem irr(o:Orc prog w A s κ P lt){x:aG}(hx:P x):lt x x=false:=by
 cases e:lt x x with
 |false=>rfl
 |true=>exact absurd (e.symm.trans (o.as x x hx hx e)) (by decide)
variable{st:cC}{xs:Array aG}{lo:Nat}
theorem Up.more(o:Orc prog w A s κ P lt){i j:Nat}(hP:∀p,p<=j->P (at0 xs p))(h:Up lt xs i j)(hij:i<j)(e:lt (at0 xs j) (at0 xs (j-1))=false):Up lt xs i (j+1):=λp q h1 h2 B=>by
 rcases Nat.lt_or_ge q j with z|z
 ·exact h p q h1 h2 z
 ·have:q=j:=by lia
  subst this;rcases Nat.lt_or_ge p (q-1) with y|y
  ·exact o.tr _ _ _ (hP p (by lia)) (hP (q-1) (by lia)) (hP q (by lia)) (h p (q-1) h1 y (by lia)) e
  ·have:p=q-1:=by lia
   rw[this];exact e
theorem Dn.more(o:Orc prog w A s κ P lt){i j:Nat}(hP:∀p,p<=j->P (at0 xs p))(h:Dn lt xs i j)(hij:i<j)(e:lt (at0 xs (j-1)) (at0 xs j)=false):Dn lt xs i (j+1):=λp q h1 h2 B=>by
 rcases Nat.lt_or_ge q j with z|z
 ·exact h p q h1 h2 z
 ·have:q=j:=by lia
  subst this;rcases Nat.lt_or_ge p (q-1) with y|y
  ·exact o.tr _ _ _ (hP q (by lia)) (hP (q-1) (by lia)) (hP p (by lia)) e (h p (q-1) h1 y (by lia))
  ·have:p=q-1:=by lia
   rw[this];exact e
theorem Dn.rev{i j d:Nat}(h:Dn lt xs i j)(hj:j<=xs.size)(hd:d=(j-i)/2):Up lt (c5 xs i j d) i j:=λp q h1 h2 z=>by
 subst hd;rw[aJf hj,aJf hj,if_pos ⟨by lia,by lia⟩,if_pos ⟨by lia,by lia⟩]
 exact h _ _ (by lia) (by lia) (by lia)
theorem Dn.eqs{i j c d:Nat}(h:Dn lt xs i j)(hc:i<=c)(he:Eqs lt xs c j)(hj:j<=xs.size)(hd:d=(j-c)/2):Dn lt (c5 xs c j d) i j:=λp q h1 h2 z=>by
 subst hd;rw[aJf hj,aJf hj]
 by_cases a1:c<=p/\p<j
 ·rw[if_pos a1,if_pos ⟨by lia,by lia⟩]
  exact he _ _ (by lia) (by lia) (by lia) (by lia)
 ·rw[if_neg a1]
  by_cases a2:c<=q/\q<j
  ·rw[if_pos a2];exact h _ _ h1 (by lia) (by lia)
  ·rw[if_neg a2];exact h _ _ h1 h2 z
theorem eZ3(o:Orc prog w A s κ P lt){nrem:Nat}{Q:Option Nat->cC->Prop}(hk:kindOf st=κ)(PA:∀x∈(aH st).toList,P x)(hn:1<=nrem)(hs:lo+nrem<=(aH st).size)
  (h:∀n xs,1<=n->n<=nrem->Gd lo (aH st) xs->Up lt xs lo (lo+n)->Q (some n) (cx st xs)):wpS (az prog w) A E s (countRun' lo nrem) Q st:=by
 have J:∀ {xs},Gd lo (aH st) xs->∀ p,p < (aH st).size->P (at0 xs p):=λg p L=>(gd_P g PA L).2;rw[countRun'_eq];dsimp only;have est:st=cx st (aH st):=rfl;have g0:Gd lo (aH st) (aH st):=⟨i6 _,λ_ _=>rfl⟩;refine ar (cS (bA (I:=λx c B=>B=cx st (aH st)/\c=(none,x)/\1<=x/\Up lt (aH st) lo (lo + x))
  (Q:=λc B=>B=cx st (aH st)/\∃n,c=(none,n)/\1<=n/\n<=nrem/\Up lt (aH st) lo (lo+n)/\(n<nrem->lt (at0 (aH st) (lo+n)) (at0 (aH st) (lo+n-1))=true)) ?_ ?_ ⟨est,rfl,Nat.le_refl _,λp q _ _ _=>by lia⟩) ?_)
 ·rintro x c B _ hx ⟨rfl,rfl,h1,D⟩;dsimp only;refine ar (aZ4 o (i:=lo+x) (j:=lo+x-1) hk PA g0 (by lia) (by lia) ?_)
  dsimp only;cases e:lt (at0 (aH st) (lo+x)) (at0 (aH st) (lo+x-1)) with
  |true=>rw[if_pos rfl];exact ay ⟨rfl,x,rfl,h1,by lia,D,λ_=>e⟩
  |false=>rw[if_neg (by simp)];exact ay ⟨rfl,rfl,by lia,Up.more o (i:=lo) (j:=lo+x) (λp L=>J g0 p (by lia)) D (by lia) e⟩
 ·rintro c B ⟨rfl,rfl,h1,D⟩;refine⟨rfl,_,rfl,by lia,by lia,D,λz=>by lia⟩
 ·rintro c B ⟨rfl,n,rfl,O,N,D,hlt⟩;dsimp only
  by_cases c0:(n==nrem)=true
  ·rw[if_pos c0];exact ay (h n _ O N g0 D)
  rw[if_neg c0];have c0':n<nrem:=by
   have:n≠nrem:=by simpa using c0
   lia
  have hlt':=hlt c0';have pp:∀p,p<=lo+n->P (at0 (aH st) p):=λp L=>J g0 p (by lia)
  have hle:=o.as _ _ (pp _ (Nat.le_refl _)) (pp _ (by lia)) hlt'
  by_cases cn:n>1
  ·rw[if_pos cn];refine ar (aZ4 o (i:=lo) (j:=lo+n-1) hk PA g0 (by lia) (by lia) ?_)
   dsimp only;cases e:lt (at0 (aH st) lo) (at0 (aH st) (lo+n-1)) with
   |true=>rw[if_pos rfl];exact ay (h n _ O N g0 D)
   |false =>
    rw[if_neg (by simp),cU]
    have down:∀p,lo<=p->p<lo+n->lt (at0 (aH st) p) (at0 (aH st) (lo+n-1))=false:=λp h1 h2=>by
     rcases Nat.eq_or_lt_of_le h1 with rfl|h1
     ·exact e
     ·exact o.tr _ _ _ (pp _ (by lia)) (pp _ (by lia)) (pp _ (by lia)) e (D lo p (Nat.le_refl _) h1 h2)
    have dn:Dn lt (aH st) lo (lo+n):=λp q h1 h2 h3=>by
     rcases Nat.eq_or_lt_of_le (show q<=lo+n-1 by lia) with z|z
     ·rw[z];exact down p h1 (by lia)
     ·exact o.tr _ _ _ (pp _ (by lia)) (pp _ (by lia)) (pp _ (by lia)) (D q (lo+n-1) (by lia) z (by lia)) (down p h1 (by lia))
    have eqs:Eqs lt (aH st) lo (lo+n):=λp q h1 h2 h3 h4=>by
     rcases Nat.lt_trichotomy p q with z|z|z
     ·exact dn p q h1 z h4
     ·subst z;exact irr o (pp _ (by lia))
     ·exact D q p h3 z h2
    have g2:Gd lo (aH st) (c5 (aH st) lo (lo+n) ((lo+n-lo)/2)):=g0.rev (Nat.le_refl _) (by lia) rfl
    have hd:Dn lt (c5 (aH st) lo (lo+n) ((lo+n-lo)/2)) lo (lo+(n+1)):=by
     refine Dn.more o (i:=lo) (j:=lo+n) (λp L=>J g2 p (by lia)) (dn.eqs (Nat.le_refl _) eqs (by lia) rfl) (by lia) ?_
     have rv:=aJf (xs:=aH st) (i:=lo) (j:=lo+n) (by lia)
     rw[rv,rv,if_pos ⟨by lia,by lia⟩,if_neg (by lia)]
     exact o.tr _ _ _ (pp _ (by lia)) (pp (lo+n-1) (by lia)) (pp _ (by lia)) hle (down _ (by lia) (by lia))
    have N:=c0';refine ar (cD ?_);change wpS _ _ _ _ _ _ (cx st (c5 (aH st) lo (lo+n) ((lo+n-lo)/2)))
    rename Gd lo (aH st) (c5 (aH st) lo (lo+n) ((lo+n-lo)/2))=>g
    generalize c5 (aH st) lo (lo + n) ((lo + n - lo) / 2)=xs at g hd ⊢;refine ar (gW (cJ ⟨rfl,?_⟩));refine ar (cS (bA (I:=λx c B=>∃ xs q,B=cx st xs/\c=(none,x,q)/\2<=x/\q + 1<=x/\Gd lo (aH st) xs/\Dn lt xs lo (lo + x)/\Eqs lt xs (lo + x - (q + 1)) (lo + x))
     (Q:=λc B=>∃ xs n q,B=cx st xs/\c=(none,n,q)/\1<=n/\n<=nrem/\q + 1<=n/\Gd lo (aH st) xs/\Dn lt xs lo (lo + n)/\Eqs lt xs (lo + n - (q + 1)) (lo + n)) ?_ ?_ ⟨xs,0,rfl,rfl,by lia,by lia,g,hd,λp q h1 h2 h3 h4=>by
      have:p=q:=by lia
      subst this;exact irr o (J g p (by lia))⟩) ?_)
    ·rintro x c B _ hx ⟨xs,q,rfl,rfl,x2,Z,g,hd,he⟩;have hxs:xs.size=(aH st).size:=g.size;dsimp only;refine ar (aZ4 o (i:=lo+x) (j:=lo+x-1) hk PA g (by lia) (by lia) ?_)
     dsimp only;cases e:lt (at0 xs (lo+x)) (at0 xs (lo+x-1)) with
     |true =>
      rw[if_pos rfl];have e2:=o.as _ _ (J g _ (by lia)) (J g _ (by lia)) e
      have one:∀ys,Gd lo (aH st) ys->Eqs lt ys (lo+(x+1)-(0+1)) (lo+(x+1)):=λys g' p q h1 h2 h3 h4=>by
       have:p=q:=by lia
       subst this;exact irr o (J g' p (by lia))
      by_cases Y:q>0
      ·rw[if_pos Y,cU];have hd2:(lo+x-(lo+x-(q+1)))/2=(lo+x-(lo+x-(q+1)))/2:=rfl;have g2:Gd lo (aH st) (c5 xs (lo+x-(q+1)) (lo+x) ((lo+x-(lo+x-(q+1)))/2)):=g.rev (by lia) (by lia) rfl
       have d2:Dn lt (c5 xs (lo+x-(q+1)) (lo+x) ((lo+x-(lo+x-(q+1)))/2)) lo (lo+x):=hd.eqs (by lia) he (by lia) rfl
       refine ar (cD (ay ⟨_,0,rfl,rfl,by lia,by lia,g2,Dn.more o (i:=lo) (j:=lo+x) (λp L=>J g2 p (by lia)) d2 (by lia) ?_,one _ g2⟩))
       have rv:=aJf (xs:=xs) (i:=lo+x-(q+1)) (j:=lo+x) (by lia)
       rw[rv,rv,if_pos ⟨by lia,by lia⟩,if_neg (by lia)]
       exact o.tr (at0 xs (lo+x)) (at0 xs (lo+x-1)) _ (J g _ (by lia)) (J g _ (by lia)) (J g _ (by lia)) e2 (he _ _ (by lia) (by lia) (by lia) (by lia))
      ·rw[if_neg Y];exact ay ⟨xs,0,rfl,rfl,by lia,by lia,g,Dn.more o (i:=lo) (j:=lo+x) (λp L=>J g p (by lia)) hd (by lia) e2,one _ g⟩
     |false =>
      rw[if_neg (by simp)]
      refine ar (aZ4 o (i:=lo+x-1) (j:=lo+x) hk PA g (by lia) (by lia) ?_)
      dsimp only;cases e2:lt (at0 xs (lo+x-1)) (at0 xs (lo+x)) with
      |true=>rw[if_pos rfl];exact ay ⟨xs,x,q,rfl,rfl,by lia,by lia,Z,g,hd,he⟩
      |false =>
       rw[if_neg (by simp)]
       refine ay ⟨xs,q+1,rfl,rfl,by lia,by lia,g,Dn.more o (i:=lo) (j:=lo+x) (λp L=>J g p (by lia)) hd (by lia) e2,λp r h1 h2 h3 h4=>?_⟩
       have pp:∀p,p<=lo+x->P (at0 xs p):=λp L=>J g p (by lia)
       have low:∀p,lo+x-(q+1)<=p->p<lo+x->lt (at0 xs p) (at0 xs (lo+x))=false/\lt (at0 xs (lo+x)) (at0 xs p)=false:=λp a1 a2=>by
        have b1:=he p (lo+x-1) a1 a2 (by lia) (by lia)
        have b2:=he (lo+x-1) p (by lia) (by lia) a1 a2
        exact⟨o.tr _ _ _ (pp _ (by lia)) (pp _ (by lia)) (pp _ (by lia)) e2 b1,o.tr _ _ _ (pp _ (by lia)) (pp _ (by lia)) (pp _ (by lia)) b2 e⟩
       by_cases z1:p=lo+x
       ·by_cases z2:r=lo+x
        ·rw[z1,z2];exact irr o (pp _ (by lia))
        ·rw[z1];exact(low r (by lia) (by lia)).2
       ·by_cases z2:r=lo+x
        ·rw[z2];exact(low p (by lia) (by lia)).1
        ·exact he p r (by lia) (by lia) (by lia) (by lia)
    ·rintro c B ⟨xs,q,rfl,rfl,x2,Z,g,hd,he⟩;exact⟨xs,_,q,rfl,rfl,by lia,by lia,Z,g,by rwa [show max (n+1) nrem=nrem by lia] at hd ⊢,he⟩
    ·rintro c B ⟨xs,n,q,rfl,rfl,O,N,Z,g,hd,he⟩;have hxs:xs.size=(aH st).size:=g.size;dsimp only
     by_cases Y:q>0
     ·rw[if_pos Y,cU,cU];have g2:Gd lo (aH st) (c5 xs (lo+n-(q+1)) (lo+n) ((lo+n-(lo+n-(q+1)))/2)):=g.rev (by lia) (by lia) rfl
      have d2:Dn lt (c5 xs (lo+n-(q+1)) (lo+n) ((lo+n-(lo+n-(q+1)))/2)) lo (lo+n):=hd.eqs (by lia) he (by lia) rfl
      have s2:=g2.size;have g3:=g2.rev (i:=lo) (j:=lo+n) (Nat.le_refl _) (by lia) rfl
      have U:=d2.rev (i:=lo) (j:=lo+n) (by lia) rfl
      refine ar (cD (ar (cD ?_)));change wpS _ _ _ _ _ _ (cx st (c5 (c5 xs (lo + n - (q + 1)) (lo + n) ((lo + n - (lo + n - (q + 1))) / 2)) lo (lo + n) ((lo + n - lo) / 2)));generalize c5 (c5 xs (lo + n - (q + 1)) (lo + n) ((lo + n - (lo + n - (q + 1))) / 2)) lo (lo + n) ((lo + n - lo) / 2)=zs at g3 U ⊢;refine ar (cS (bA (I:=λx c B=>B=cx st zs/\c=(none,x)/\n<=x/\Up lt (zs) lo (lo + x))
       (Q:=λc B=>B=cx st zs/\∃n,c=(none,n)/\1<=n/\n<=nrem/\Up lt (zs) lo (lo+n)) ?_ ?_ ⟨rfl,rfl,Nat.le_refl _,U⟩) ?_)
      ·rintro x c B _ hx ⟨rfl,rfl,h1,D⟩;dsimp only;refine ar (aZ4 o (i:=lo+x) (j:=lo+x-1) hk PA g3 (by lia) (by lia) ?_)
       dsimp only;cases e:lt (at0 (zs) (lo+x)) (at0 (zs) (lo+x-1)) with
       |true=>rw[if_pos rfl];exact ay ⟨rfl,x,rfl,by lia,by lia,D⟩
       |false=>rw[if_neg (by simp)];exact ay ⟨rfl,rfl,by lia,Up.more o (i:=lo) (j:=lo+x) (λp L=>J g3 p (by lia)) D (by lia) e⟩
      ·rintro c B ⟨rfl,rfl,h1,D⟩;exact⟨rfl,_,rfl,by lia,by lia,D⟩
      ·rintro c B ⟨rfl,n,rfl,O,N,D⟩;exact ay (h n (zs) O N g3 D)
     ·rw[if_neg Y,cU];have g3:=g.rev (i:=lo) (j:=lo+n) (Nat.le_refl _) (by lia) rfl
      have U:=hd.rev (i:=lo) (j:=lo+n) (by lia) rfl
      refine ar (cD ?_);change wpS _ _ _ _ _ _ (cx st (c5 xs lo (lo + n) ((lo + n - lo) / 2)));generalize c5 xs lo (lo + n) ((lo + n - lo) / 2)=zs at g3 U ⊢;refine ar (cS (bA (I:=λx c B=>B=cx st zs/\c=(none,x)/\n<=x/\Up lt (zs) lo (lo + x))
       (Q:=λc B=>B=cx st zs/\∃n,c=(none,n)/\1<=n/\n<=nrem/\Up lt (zs) lo (lo+n)) ?_ ?_ ⟨rfl,rfl,Nat.le_refl _,U⟩) ?_)
      ·rintro x c B _ hx ⟨rfl,rfl,h1,D⟩;dsimp only;refine ar (aZ4 o (i:=lo+x) (j:=lo+x-1) hk PA g3 (by lia) (by lia) ?_)
       dsimp only;cases e:lt (at0 (zs) (lo+x)) (at0 (zs) (lo+x-1)) with
       |true=>rw[if_pos rfl];exact ay ⟨rfl,x,rfl,by lia,by lia,D⟩
       |false=>rw[if_neg (by simp)];exact ay ⟨rfl,rfl,by lia,Up.more o (i:=lo) (j:=lo+x) (λp L=>J g3 p (by lia)) D (by lia) e⟩
      ·rintro c B ⟨rfl,rfl,h1,D⟩;exact⟨rfl,_,rfl,by lia,by lia,D⟩
      ·rintro c B ⟨rfl,n,rfl,O,N,D⟩;exact ay (h n (zs) O N g3 D)
  ·rw[if_neg cn];have e1:n=1:=by lia
   subst e1;have hd:Dn lt (aH st) lo (lo+(1+1)):=λp q h1 h2 h3=>by
    have ep:p=lo:=by lia
    have eq:q=lo+1:=by lia
    rw[ep,eq];exact hle
   have N:=c0';have g:=g0;refine ar (gW (cJ ⟨rfl,?_⟩));refine ar (cS (bA (I:=λx c B=>∃ xs q,B=cx st xs/\c=(none,x,q)/\2<=x/\q + 1<=x/\Gd lo (aH st) xs/\Dn lt xs lo (lo + x)/\Eqs lt xs (lo + x - (q + 1)) (lo + x))
    (Q:=λc B=>∃ xs n q,B=cx st xs/\c=(none,n,q)/\1<=n/\n<=nrem/\q + 1<=n/\Gd lo (aH st) xs/\Dn lt xs lo (lo + n)/\Eqs lt xs (lo + n - (q + 1)) (lo + n)) ?_ ?_ ⟨aH st,0,rfl,rfl,by lia,by lia,g,hd,λp q h1 h2 h3 h4=>by
     have:p=q:=by lia
     subst this;exact irr o (J g p (by lia))⟩) ?_)
   ·rintro x c B _ hx ⟨xs,q,rfl,rfl,x2,Z,g,hd,he⟩;have hxs:xs.size=(aH st).size:=g.size;dsimp only;refine ar (aZ4 o (i:=lo+x) (j:=lo+x-1) hk PA g (by lia) (by lia) ?_)
    dsimp only;cases e:lt (at0 xs (lo+x)) (at0 xs (lo+x-1)) with
    |true =>
     rw[if_pos rfl];have e2:=o.as _ _ (J g _ (by lia)) (J g _ (by lia)) e
     have one:∀ys,Gd lo (aH st) ys->Eqs lt ys (lo+(x+1)-(0+1)) (lo+(x+1)):=λys g' p q h1 h2 h3 h4=>by
      have:p=q:=by lia
      subst this;exact irr o (J g' p (by lia))
     by_cases Y:q>0
     ·rw[if_pos Y,cU];have hd2:(lo+x-(lo+x-(q+1)))/2=(lo+x-(lo+x-(q+1)))/2:=rfl;have g2:Gd lo (aH st) (c5 xs (lo+x-(q+1)) (lo+x) ((lo+x-(lo+x-(q+1)))/2)):=g.rev (by lia) (by lia) rfl
      have d2:Dn lt (c5 xs (lo+x-(q+1)) (lo+x) ((lo+x-(lo+x-(q+1)))/2)) lo (lo+x):=hd.eqs (by lia) he (by lia) rfl
      refine ar (cD (ay ⟨_,0,rfl,rfl,by lia,by lia,g2,Dn.more o (i:=lo) (j:=lo+x) (λp L=>J g2 p (by lia)) d2 (by lia) ?_,one _ g2⟩))
      have rv:=aJf (xs:=xs) (i:=lo+x-(q+1)) (j:=lo+x) (by lia)
      rw[rv,rv,if_pos ⟨by lia,by lia⟩,if_neg (by lia)]
      exact o.tr (at0 xs (lo+x)) (at0 xs (lo+x-1)) _ (J g _ (by lia)) (J g _ (by lia)) (J g _ (by lia)) e2 (he _ _ (by lia) (by lia) (by lia) (by lia))
     ·rw[if_neg Y];exact ay ⟨xs,0,rfl,rfl,by lia,by lia,g,Dn.more o (i:=lo) (j:=lo+x) (λp L=>J g p (by lia)) hd (by lia) e2,one _ g⟩
    |false =>
     rw[if_neg (by simp)]
     refine ar (aZ4 o (i:=lo+x-1) (j:=lo+x) hk PA g (by lia) (by lia) ?_)
     dsimp only;cases e2:lt (at0 xs (lo+x-1)) (at0 xs (lo+x)) with
     |true=>rw[if_pos rfl];exact ay ⟨xs,x,q,rfl,rfl,by lia,by lia,Z,g,hd,he⟩
     |false =>
      rw[if_neg (by simp)]
      refine ay ⟨xs,q+1,rfl,rfl,by lia,by lia,g,Dn.more o (i:=lo) (j:=lo+x) (λp L=>J g p (by lia)) hd (by lia) e2,λp r h1 h2 h3 h4=>?_⟩
      have pp:∀p,p<=lo+x->P (at0 xs p):=λp L=>J g p (by lia)
      have low:∀p,lo+x-(q+1)<=p->p<lo+x->lt (at0 xs p) (at0 xs (lo+x))=false/\lt (at0 xs (lo+x)) (at0 xs p)=false:=λp a1 a2=>by
       have b1:=he p (lo+x-1) a1 a2 (by lia) (by lia)
       have b2:=he (lo+x-1) p (by lia) (by lia) a1 a2
       exact⟨o.tr _ _ _ (pp _ (by lia)) (pp _ (by lia)) (pp _ (by lia)) e2 b1,o.tr _ _ _ (pp _ (by lia)) (pp _ (by lia)) (pp _ (by lia)) b2 e⟩
      by_cases z1:p=lo+x
      ·by_cases z2:r=lo+x
       ·rw[z1,z2];exact irr o (pp _ (by lia))
       ·rw[z1];exact(low r (by lia) (by lia)).2
      ·by_cases z2:r=lo+x
       ·rw[z2];exact(low p (by lia) (by lia)).1
       ·exact he p r (by lia) (by lia) (by lia) (by lia)
   ·rintro c B ⟨xs,q,rfl,rfl,x2,Z,g,hd,he⟩;exact⟨xs,_,q,rfl,rfl,by lia,by lia,Z,g,by rwa [show max (1+1) nrem=nrem by lia] at hd ⊢,he⟩
   ·rintro c B ⟨xs,n,q,rfl,rfl,O,N,Z,g,hd,he⟩;have hxs:xs.size=(aH st).size:=g.size;dsimp only
    by_cases Y:q>0
    ·rw[if_pos Y,cU,cU];have g2:Gd lo (aH st) (c5 xs (lo+n-(q+1)) (lo+n) ((lo+n-(lo+n-(q+1)))/2)):=g.rev (by lia) (by lia) rfl
     have d2:Dn lt (c5 xs (lo+n-(q+1)) (lo+n) ((lo+n-(lo+n-(q+1)))/2)) lo (lo+n):=hd.eqs (by lia) he (by lia) rfl
     have s2:=g2.size;have g3:=g2.rev (i:=lo) (j:=lo+n) (Nat.le_refl _) (by lia) rfl
     have U:=d2.rev (i:=lo) (j:=lo+n) (by lia) rfl
     refine ar (cD (ar (cD ?_)));change wpS _ _ _ _ _ _ (cx st (c5 (c5 xs (lo + n - (q + 1)) (lo + n) ((lo + n - (lo + n - (q + 1))) / 2)) lo (lo + n) ((lo + n - lo) / 2)));generalize c5 (c5 xs (lo + n - (q + 1)) (lo + n) ((lo + n - (lo + n - (q + 1))) / 2)) lo (lo + n) ((lo + n - lo) / 2)=zs at g3 U ⊢;refine ar (cS (bA (I:=λx c B=>B=cx st zs/\c=(none,x)/\n<=x/\Up lt (zs) lo (lo + x))
      (Q:=λc B=>B=cx st zs/\∃n,c=(none,n)/\1<=n/\n<=nrem/\Up lt (zs) lo (lo+n)) ?_ ?_ ⟨rfl,rfl,Nat.le_refl _,U⟩) ?_)
     ·rintro x c B _ hx ⟨rfl,rfl,h1,D⟩;dsimp only;refine ar (aZ4 o (i:=lo+x) (j:=lo+x-1) hk PA g3 (by lia) (by lia) ?_)
      dsimp only;cases e:lt (at0 (zs) (lo+x)) (at0 (zs) (lo+x-1)) with
      |true=>rw[if_pos rfl];exact ay ⟨rfl,x,rfl,by lia,by lia,D⟩
      |false=>rw[if_neg (by simp)];exact ay ⟨rfl,rfl,by lia,Up.more o (i:=lo) (j:=lo+x) (λp L=>J g3 p (by lia)) D (by lia) e⟩
     ·rintro c B ⟨rfl,rfl,h1,D⟩;exact⟨rfl,_,rfl,by lia,by lia,D⟩
     ·rintro c B ⟨rfl,n,rfl,O,N,D⟩;exact ay (h n (zs) O N g3 D)
    ·rw[if_neg Y,cU];have g3:=g.rev (i:=lo) (j:=lo+n) (Nat.le_refl _) (by lia) rfl
     have U:=hd.rev (i:=lo) (j:=lo+n) (by lia) rfl
     refine ar (cD ?_);change wpS _ _ _ _ _ _ (cx st (c5 xs lo (lo + n) ((lo + n - lo) / 2)));generalize c5 xs lo (lo + n) ((lo + n - lo) / 2)=zs at g3 U ⊢;refine ar (cS (bA (I:=λx c B=>B=cx st zs/\c=(none,x)/\n<=x/\Up lt (zs) lo (lo + x))
      (Q:=λc B=>B=cx st zs/\∃n,c=(none,n)/\1<=n/\n<=nrem/\Up lt (zs) lo (lo+n)) ?_ ?_ ⟨rfl,rfl,Nat.le_refl _,U⟩) ?_)
     ·rintro x c B _ hx ⟨rfl,rfl,h1,D⟩;dsimp only;refine ar (aZ4 o (i:=lo+x) (j:=lo+x-1) hk PA g3 (by lia) (by lia) ?_)
      dsimp only;cases e:lt (at0 (zs) (lo+x)) (at0 (zs) (lo+x-1)) with
      |true=>rw[if_pos rfl];exact ay ⟨rfl,x,rfl,by lia,by lia,D⟩
      |false=>rw[if_neg (by simp)];exact ay ⟨rfl,rfl,by lia,Up.more o (i:=lo) (j:=lo+x) (λp L=>J g3 p (by lia)) D (by lia) e⟩
     ·rintro c B ⟨rfl,rfl,h1,D⟩;exact⟨rfl,_,rfl,by lia,by lia,D⟩
     ·rintro c B ⟨rfl,n,rfl,O,N,D⟩;exact ay (h n (zs) O N g3 D)
end
theorem bub_at{xs:Array aG}{src d:Nat}(hs:src<xs.size)(hd:d<=src)(k:Nat) :
  at0 (bubble xs src d) k=if k=src-d then at0 xs src else if src-d<k/\k<=src then at0 xs (k-1) else at0 xs k:=by
 have e:=getElem?_bubble hs d hd k
 by_cases h1:k=src-d
 ·rw[if_pos h1] at e ⊢;exact cQz e
 ·rw[if_neg h1] at e ⊢
  by_cases h2:src-d<k/\k<=src
  ·rw[if_pos h2] at e ⊢;exact cQz e
  ·rw[if_neg h2] at e ⊢;exact cQz e
section
variable{prog:aC}{w:aL}{A:aO}{E:ad->ah->Prop}{s:ah}{κ:dJ}{P:aG->Prop}{lt:aG->aG->Bool}{st:cC}{lo:Nat}
theorem eZ4(o:Orc prog w A s κ P lt){n ok:Nat}{Q:Bool->cC->Prop}(hk:kindOf st=κ)(PA:∀x∈(aH st).toList,P x)(hs:lo+n<=(aH st).size)(hok:ok<=n)(hu:Up lt (aH st) lo (lo+ok))
  (h:∀xs,Gd lo (aH st) xs->Up lt xs lo (lo+n)->Q true (cx st xs)):wpS (az prog w) A E s (binarySort' lo n ok) Q st:=by
 have pP:∀ {xs},Gd lo (aH st) xs->∀ p,p < (aH st).size->P (at0 xs p):=λg p hp=>(gd_P g PA hp).2;have g0:Gd lo (aH st) (aH st):=⟨i6 _,λ_ _=>rfl⟩;rw[binarySort'_eq];refine ar (cS (bA (I:=λk c D=>∃ xs,D=cx st xs/\c=(none,())/\Gd lo (aH st) xs/\Up lt xs lo (lo + min k n))
  (Q:=λc D=>∃xs,D=cx st xs/\c=(none,())/\Gd lo (aH st) xs/\Up lt xs lo (lo+n)) ?step ?fin ?init) ?post)
 case post =>
  rintro c D ⟨xs,rfl,rfl,g,hu⟩;exact ay (h xs g hu)
 case init =>
  refine⟨aH st,rfl,rfl,g0,λp q h1 h2 h3=>?_⟩
  by_cases z:ok=0
  ·lia
  ·exact hu p q h1 h2 (by lia)
 case fin =>
  rintro c D ⟨xs,rfl,rfl,g,hu⟩;refine⟨xs,rfl,rfl,g,?_⟩;rwa [show min (max (max ok 1) n) n=n by lia] at hu
 case step =>
  rintro k c D hak hkn ⟨xs,rfl,rfl,g,hu⟩;rw[show min k n=k by lia] at hu
  have hxs:xs.size=(aH st).size:=g.size;have pp:∀p,p<lo+n->P (at0 xs p):=λp hp=>pP g p (by lia)
  dsimp only;refine ar (cS (bA (I:=λx c B=>B=cx st xs/\∃ l r,c=(none,l,r)/\l<=r/\r<=k/\r - l<=k - x /\
    (∀i,i<l->lt (at0 xs (lo+k)) (at0 xs (lo+i))=false)/\(∀i,r<=i->i<k->lt (at0 xs (lo+i)) (at0 xs (lo+k))=false))
   (Q:=λc B=>B=cx st xs/\∃ l r,c=(none,l,r)/\l<=k /\
    (∀i,i<l->lt (at0 xs (lo+k)) (at0 xs (lo+i))=false)/\(∀i,l<=i->i<k->lt (at0 xs (lo+i)) (at0 xs (lo+k))=false)) ?istep ?ifin ?iinit) ?ipost)
  case iinit=>exact⟨rfl,0,k,rfl,by lia,by lia,by lia,λi hi=>by lia,λi h1 h2=>by lia⟩
  case ifin =>
   rintro c B ⟨rfl,l,r,rfl,hlr,N,hm,J,L⟩
   have:l=r:=by lia
   subst this;exact⟨rfl,l,l,rfl,N,J,L⟩
  case istep =>
   rintro x c B _ hxk ⟨rfl,l,r,rfl,hlr,N,hm,J,L⟩;dsimp only
   by_cases Z:l>=r
   ·rw[if_pos Z]
    have:l=r:=by lia
    subst this;exact ay ⟨rfl,l,l,rfl,N,J,L⟩
   ·rw[if_neg Z];refine ar (aZ4 o hk PA g (i:=lo+k) (j:=lo+(l+r)/2) (by lia) (by lia) ?_)
    dsimp only;cases e:lt (at0 xs (lo+k)) (at0 xs (lo+(l+r)/2)) with
    |true =>
     rw[if_pos rfl];refine ay ⟨rfl,l,(l+r)/2,rfl,by lia,by lia,by lia,J,λi h1 h2=>?_⟩
     have e2:=o.as _ _ (pp _ (by lia)) (pp _ (by lia)) e
     rcases Nat.eq_or_lt_of_le h1 with z|z
     ·rw[<- z];exact e2
     ·exact o.tr _ _ _ (pp _ (by lia)) (pp (lo+(l+r)/2) (by lia)) (pp _ (by lia)) e2 (hu _ _ (by lia) (by lia) (by lia))
    |false =>
     rw[if_neg (by simp)]
     refine ay ⟨rfl,(l+r)/2+1,r,rfl,by lia,by lia,by lia,λi h1=>?_,L⟩
     rcases Nat.eq_or_lt_of_le (show i<=(l+r)/2 by lia) with z|z
     ·rw[z];exact e
     ·exact o.tr _ _ _ (pp _ (by lia)) (pp (lo+(l+r)/2) (by lia)) (pp _ (by lia)) (hu _ _ (by lia) (by lia) (by lia)) e
  case ipost =>
   rintro c B ⟨rfl,l,r,rfl,hlk,J,L⟩;show wpS _ _ _ _ (do moveDown' (lo+k) (lo+l);pure (bn (none,()))) _ _
   rw[moveDown'_eq];have O:lo+k<xs.size:=by lia
   have ed:lo+k-(lo+l)=k-l:=by lia
   refine ar (cD (ay ⟨bubble xs (lo+k) (lo+k-(lo+l)),rfl,rfl,⟨(bubble_perm _ _ _).trans g.1,λi hi=>?_⟩,?_⟩))
   ·rw[getElem?_bubble O _ (by lia),if_neg (by lia),if_neg (by lia)]
    exact g.2 i hi
   ·rw[show min (k+1) n=k+1 by lia]
    intro p q h1 h2 h3;rw[bub_at O (by lia),bub_at O (by lia),show lo+k-(lo+k-(lo+l))=lo+l by lia]
    have U:∀i,lo<=i->i<lo+l->lt (at0 xs (lo+k)) (at0 xs i)=false:=λi a b=>by
     have:=J (i-lo) (by lia)
     rwa [show lo+(i-lo)=i by lia] at this
    have Y:∀i,lo+l<=i->i<lo+k->lt (at0 xs i) (at0 xs (lo+k))=false:=λi a b=>by
     have:=L (i-lo) (by lia) (by lia)
     rwa [show lo+(i-lo)=i by lia] at this
    repeat' split
    all_goals first
     |(exfalso;lia)
     |exact U _ (by lia) (by lia)
     |exact Y _ (by lia) (by lia)
     |exact hu _ _ (by lia) (by lia) (by lia)
end
def offs:Nat->List (List aG)->List (Nat×Nat)
 |_,[]=>[]
 |k,s::ss=>(k,s.length)::offs (k+s.length) ss
theorem bQb:∀k ss,(offs k ss).length=ss.length
 |_,[]=>rfl
 |k,s::ss=>by simp[offs,bQb]
theorem aJ1:∀k (s1 s2:List (List aG)),offs k (s1++s2)=offs k s1++offs (k+s1.flatten.length) s2
 |k,[],s2=>by simp[offs]
 |k,s::s1,s2=>by simp[offs,aJ1,Nat.add_assoc]
def sl(x:Nat×Nat×Nat):Nat×Nat:=(x.1,x.2.1)
structure Pn(κ:dJ)(P:aG->Prop)(lt:aG->aG->Bool)(a0:List aG)(st:cC)(segs:List (List aG))(rest:List aG):Prop where
 kind:kindOf st=κ
 fl:eQ st=none
 arr:(aH st).toList=segs.flatten++rest
 perm:(aH st).toList.Perm a0
 sd:∀sg∈segs,Sd lt sg/\sg≠[]
 pd:(br st).toList.map sl=offs 0 segs
section
variable{prog:aC}{w:aL}{A:aO}{E:ad->ah->Prop}{s:ah}{κ:dJ}{P:aG->Prop}{lt:aG->aG->Bool}{st:cC}{a0 rest:List aG}{segs:List (List aG)}
theorem Pn.psize(h:Pn κ P lt a0 st segs rest):(br st).size=segs.length:=by
 have:=congrArg jb h.pd
 rwa [am,bQb,aJ] at this
theorem Pn.size(h:Pn κ P lt a0 st segs rest):(aH st).size=a0.length:=by rw[<- aJ];exact h.perm.length_eq
theorem Pn.room(h:Pn κ P lt a0 st segs rest):segs.flatten.length+rest.length=a0.length:=by rw[<- aB,<- h.arr];exact h.perm.length_eq
theorem dQk(o:Orc prog w A s κ P lt)(PA:∀x∈a0,P x)(h:Pn κ P lt a0 st segs rest){i:Nat}(hi:i+1<segs.length){Q:Bool->cC->Prop}
  (hq:∀st' segs',Pn κ P lt a0 st' segs' rest->segs'.length+1=segs.length->segs'.flatten.length=segs.flatten.length->Q true st'):wpS (az prog w) A E s (mergeAt' i) Q st:=by
 obtain⟨S1,j,J,N,rfl,rfl⟩:∃S1 j J N,segs=S1++j::J::N/\S1.length=i:=by
  refine⟨segs.take i,segs[i],segs[i+1],segs.drop (i+2),?_,by rw[aV];lia⟩
  rw[<- bN hi,<- bN (by lia),a6]
 have L:=h.pd;rw[aJ1,Nat.zero_add] at L;obtain⟨p1,p2',e1,e2,e3⟩:=List.map_eq_append_iff.mp L;simp only[offs] at e3;obtain⟨x,p2'',rfl,ex,e4⟩:=List.map_eq_cons_iff.mp e3;obtain⟨y,p2,rfl,ey,e5⟩:=List.map_eq_cons_iff.mp e4;have D:p1.length=S1.length:=by rw[<- am (f:=sl),e2,bQb]
 have g1:(br st)[S1.length]?=some (S1.flatten.length,j.length,x.2.2):=by
  rw[<- aT,e1,<- D,cz (Nat.le_refl _),Nat.sub_self,iH];obtain⟨x1,x2,x3⟩:=x;cases ex;rfl
 have g2:(br st)[S1.length+1]?=some (S1.flatten.length+j.length,J.length,y.2.2):=by
  rw[<- aT,e1,<- D,cz (by lia),Nat.add_sub_cancel_left,List.getElem?_cons_succ,iH]
  obtain⟨y1,y2,y3⟩:=y;cases ey;rfl
 have U:=h.sd j (by simp)
 have sB:=h.sd J (by simp)
 have Z:(aH st).toList=S1.flatten++(j++(J++(N.flatten++rest))):=by rw[h.arr];simp
 have pm:∀x∈j++J,P x:=λx B=>PA x (h.perm.mem_iff.mp (by rw[Z];simp at B ⊢;grind))
 refine eZ2 o h.kind h.fl g1 g2 rfl Z rfl rfl rfl (cY.mpr U.2) (cY.mpr sB.2) (λx B=>pm x (dg _ B)) (λx B=>pm x (bb _ B)) U.1 sB.1 λC g xs B hC hp=>?_;have O:=hp.length_eq;rw[aB] at O;refine hq _ (S1++C::N) ⟨rfl,rfl,?_,?_,λsg Y=>?_,?_⟩ (by simp only[aB,b7];lia) (by simp;lia)
 ·show xs.toList=_;rw[B];simp
 ·show xs.toList.Perm _;refine jl.trans ?_ h.perm;rw[B,Z];refine dN _ ?_
  have:=dy (N.flatten++rest) hp
  rwa [aS j] at this
 ·rcases aN.mp Y with z|z
  ·exact h.sd sg (by simp[z])
  ·rcases aQ.mp z with rfl|z
   ·exact⟨hC,λe=>by
     have:=cY.mpr U.2
     rw[e] at O;simp at O;lia⟩
   ·exact h.sd sg (by simp[z])
 ·show(((br st).setIfInBounds S1.length (S1.flatten.length,j.length+J.length,x.2.2)).eraseIdxIfInBounds (S1.length+1)).toList.map sl=_;rw[Array.toList_eraseIdxIfInBounds,gX,e1,<- D,List.set_append_right _ _ (Nat.le_refl _),Nat.sub_self,List.set_cons_zero,List.eraseIdx_append_of_length_le (by lia),Nat.add_sub_cancel_left,List.eraseIdx_cons_succ,List.eraseIdx_cons_zero,bq,aX,e2,e5,aJ1]
  simp[offs,sl,O,Nat.add_assoc]
theorem Pn.next(h:Pn κ P lt a0 st segs rest){xs:Array aG}{n:Nat}(hn:1<=n)(hs:segs.flatten.length+n<=a0.length)(g:Gd segs.flatten.length (aH st) xs)(hu:Up lt xs segs.flatten.length (segs.flatten.length+n)) :
  ∃sg rest',sg.length=n/\Sd lt sg/\sg≠[]/\Pn κ P lt a0 (cx st xs) segs (sg++rest'):=by
 have N:xs.toList.length=a0.length:=by rw[aJ,g.size,h.size]
 have D:xs.toList.take segs.flatten.length=segs.flatten:=by
  have:(aH st).toList.take segs.flatten.length=segs.flatten:=by rw[h.arr,cL (Nat.le_refl _),cT]
  rw[<- this];refine eG λi=>?_;rw[List.getElem?_take,List.getElem?_take,this]
  split
  ·next hi=>rw[aT,aT];exact g.2 i hi
  ·rfl
 refine⟨(xs.toList.drop segs.flatten.length).take n,(xs.toList.drop segs.flatten.length).drop n,by rw[aV,bz];lia,?_,λe=>?_,h.kind,h.fl,?_,?_,h.sd,h.pd⟩
 ·refine c6.mpr λi j hi J L=>?_;rw[aV,bz] at hi J
  have:=hu (segs.flatten.length+i) (segs.flatten.length+j) (by lia) (by lia) (by lia)
  have B:∀k,segs.flatten.length+k<xs.toList.length->∀z,((xs.toList.drop segs.flatten.length).take n)[k]'z=at0 xs (segs.flatten.length+k):=λk h1 z=>by
   rw[ic,h9];unfold at0;rw[<- aT,ag h1]
   rfl
  rw[B i (by lia),B j (by lia)]
  exact this
 ·have:=congrArg jb e
  rw[aV,bz,dr] at this;lia
 ·show xs.toList=_;rw[a6]
  conv=>lhs;rw[<- a6 segs.flatten.length xs.toList,D]
 ·exact(b9.mp g.1).trans h.perm
theorem Pn.push{sg rest':List aG}(h:Pn κ P lt a0 st segs (sg++rest'))(hs:Sd lt sg)(hne:sg≠[]){lo n:Nat}(hlo:segs.flatten.length=lo)(hn:sg.length=n):Pn κ P lt a0 (eT st ((br st).push (lo,n,0))) (segs++[sg]) rest':=by
 subst hlo hn;refine⟨h.kind,h.fl,?_,h.perm,λx j=>?_,?_⟩
 ·show(aH st).toList=_;rw[h.arr];simp
 ·rcases aN.mp j with z|z
  ·exact h.sd x z
  ·rw[aU.mp z];exact⟨hs,hne⟩
 ·show((br st).push _).toList.map sl=_;rw[ca,bq,h.pd,aJ1];simp[offs,sl]
theorem Pn.repow(h:Pn κ P lt a0 st segs rest)(i pw:Nat):Pn κ P lt a0 (eT st ((br st).modify i λx=>(x.1,x.2.1,pw))) segs rest:=by
 refine⟨h.kind,h.fl,h.arr,h.perm,h.sd,?_⟩;show((br st).modify i _).toList.map sl=_;rw[<- h.pd,Array.toList_modify];refine eG λj=>?_;rw[aK,aK,List.getElem?_modify]
 by_cases c:i=j
 ·simp only[c,if_true];cases (br st).toList[j]? <;> rfl
 ·simp only[c,if_false];cases (br st).toList[j]? <;> rfl
theorem bXo:∀(ss:List (List aG)),(∀sg∈ss,sg≠[])->ss.length<=ss.flatten.length
 |[],_=>Nat.le_refl _
 |s::ss,h=>by
  have:=bXo ss λx j=>h x (.tail _ j)
  have:=cY.mpr (h s (.head _))
  rw[fO,aB,b7];lia
end
section
variable{prog:aC}{w:aL}{A:aO}{E:ad->ah->Prop}{s:ah}{κ:dJ}{P:aG->Prop}{lt:aG->aG->Bool}{st:cC}{a0 rest:List aG}{segs:List (List aG)}
theorem dZq(o:Orc prog w A s κ P lt)(PA:∀x∈(aH st).toList,P x)(hk:kindOf st=κ)(hf:eQ st=none)(hp:br st=#[]){Q:Unit->cC->Prop}
  (h:∀st',(aH st').toList.Perm (aH st).toList->eQ st'=none->Sd lt (aH st').toList->Q () st'):wpS (az prog w) A E s sortRuns' Q st:=by
 have h0:Pn κ P lt (aH st).toList st [] (aH st).toList:=⟨hk,hf,rfl,dh _,λ_ N=>absurd N eW,by rw[hp];rfl⟩
 have pA:∀ {st' segs rest},Pn κ P lt (aH st).toList st' segs rest->∀ x∈(aH st').toList,P x:=λI x N=>PA x (I.perm.mem_iff.mp N);rw[sortRuns'_eq];refine ar (gz ?_);dsimp only;have lz:(aH st).toList.length=(aH st).size:=aJ;refine ar (cS (bA
  (I:=λx c st'=>∃segs rest,c=(none,segs.flatten.length)/\Pn κ P lt (aH st).toList st' segs rest/\x<=segs.flatten.length)
  (Q:=λc st'=>∃segs,c=(none,segs.flatten.length)/\Pn κ P lt (aH st).toList st' segs []) ?step ?fin ⟨[],_,rfl,h0,Nat.le_refl _⟩) ?post)
 case fin =>
  rintro c st' ⟨segs,rest,rfl,I,N⟩;have r:=I.room;obtain rfl:rest=[]:=bL (by lia)
  exact⟨segs,rfl,I⟩
 case post =>
  rintro c st' ⟨segs,rfl,I⟩;have r:=I.room;rw[dr] at r;have fl:=bXo segs λsg hsg=>(I.sd sg hsg).2;dsimp only;refine ar (cS (bA (I:=λx c st'=>∃ segs,c=(none,())/\Pn κ P lt (aH st).toList st' segs []/\(segs.length<=1\/segs.length + x<=(aH st).size))
   (Q:=λc st'=>∃segs,c=(none,())/\Pn κ P lt (aH st).toList st' segs []/\segs.length<=1) ?_ ?_ ⟨segs,rfl,I,by lia⟩) ?_)
  ·rintro x c st' _ N ⟨segs,rfl,I,hc⟩;refine ar (gz ?_);have hps:=I.psize
   by_cases c1:(br st').size<=1
   ·rw[if_pos c1];exact ay ⟨segs,rfl,I,by lia⟩
   ·rw[if_neg c1];have hi:∀b:Bool,(if b=true then (br st').size-2-1 else (br st').size-2)+1<segs.length:=λb=>by split <;> lia
    refine ar (dQk o PA I (hi _) λJ j Z l2 _=>?_);exact ay ⟨j,rfl,Z,by lia⟩
  ·rintro c st' ⟨segs,rfl,I,hc⟩;exact⟨segs,rfl,I,by lia⟩
  ·rintro c st' ⟨segs,rfl,I,hc⟩;refine ay (h st' I.perm I.fl ?_);rw[I.arr,bY]
   match segs,hc,I with
   |[],_,_=>exact fH
   |[sg],_,I=>rw[dz];exact(I.sd sg (.head _)).1
 case step =>
  rintro x c st' _ N ⟨segs,rest,rfl,I,hxs⟩;have r:=I.room;have sz:=I.size;dsimp only
  by_cases c1:segs.flatten.length>=(aH st).size
  ·rw[if_pos c1];obtain rfl:rest=[]:=bL (by lia)
   exact ay ⟨segs,rfl,I⟩
  rw[if_neg c1];refine ar (eZ3 o I.kind (pA I) (lo:=segs.flatten.length) (by lia) (by lia) λn xs n1 n2 g hu=>?_)
  dsimp only
  by_cases c2:n<minRun' (aH st).size (aH st).size 0
  rw[if_pos c2];refine ar (gW (cJ ⟨rfl,?_⟩));refine ar (eZ4 o (st:=cx st' xs) I.kind (λx N=>pA I x ((b9.mp g.1).mem_iff.mp N)) (by have:=g.size;show _<=xs.size;lia) (by lia) hu λys g2 hu2=>?_)
  rw[if_neg (by simp)]
  obtain⟨sg,B,ls,hs,L,Z⟩:=I.next (by lia) (by lia) ⟨g2.1.trans g.1,λi hi=>(g2.2 i hi).trans (g.2 i hi)⟩ hu2
  change Pn κ P lt _ (cx (cx st' xs) ys) _ _ at Z
  rotate_left
  rw[if_neg c2];obtain⟨sg,B,ls,hs,L,Z⟩:=I.next n1 (by lia) g hu
  all_goals
   have lp:=cY.mpr L;refine ar (gz ?_)
   split
   next s1 n1' _ hb =>
    refine ar (cS (bA (I:=λ_ c D=>∃ j,c=(none,())/\Pn κ P lt (aH st).toList D j (sg++B)/\j.flatten.length=segs.flatten.length)
     (Q:=λc D=>∃j,c=(none,())/\Pn κ P lt (aH st).toList D j (sg++B)/\j.flatten.length=segs.flatten.length) ?_ (λ_ _ hh=>hh) ⟨segs,rfl,Z,rfl⟩) ?_)
    ·rintro y c J _ hy ⟨j,rfl,Y,U⟩;refine ar (gz ?_);have hps:=Y.psize
     split
     next older he =>
      have hgt:(br J).size>1:=by
       by_cases z:(br J).size>1
       ·exact z
       ·rw[if_neg z] at he;cases he
      split
      ·exact ay ⟨j,rfl,Y,U⟩
      ·refine ar (dQk o PA Y (by lia) λst4 O I4 _ l4=>?_)
       exact ay ⟨O,rfl,I4,l4.trans U⟩
     next=>exact ay ⟨j,rfl,Y,U⟩
    ·rintro c J ⟨j,rfl,Y,U⟩;dsimp only;refine ar (cD (ar (cD (ay ⟨j++[sg],B,?_,(Y.repow _ _).push hs L U ls,?_⟩))))
     ·rw[bV,aB,dz,ls,U]
     ·rw[bV,aB,dz,U];lia
   next =>
    refine ar (cD (ay ⟨segs++[sg],B,?_,Z.push hs L rfl ls,?_⟩))
    ·rw[bV,aB,dz,ls]
    ·rw[bV,aB,dz];lia
end
theorem aZm{α:Type}:∀{l:List α}{x y:α},(x,y)∈l.zip l->x=y/\x∈l
 |a::l,x,y,h=>by
  rw[cb] at h;rcases aQ.mp h with e|h
  ·cases e;exact⟨rfl,.head _⟩
  ·exact⟨(aZm h).1,.tail _ (aZm h).2⟩
section
variable{prog:aC}{w:aL}{A:aO}{E:ad->ah->Prop}{s:ah}
theorem cJd{α:Type}{R:α->α->Prop}:∀l:List α,l.length<2->l.Pairwise R
 |[],_=>.nil
 |[x],_=>b8 _ _
theorem sort_any{a:Addr}{vs:List ad}{n:Nat}{P:iI->ah->Prop}(lt:ad->ad->Bool)(hz:vs.length<=sizeLine)(ho:s.heap.get? a=some (be "list" vs.toArray n))
  (H:∀h2:aY,(∀b o,b≠a->s.heap.get? b=some o->h2.get? b=some o)->2<=vs.length->∀(Q:dJ->ah->Prop),(∀κ,Orc prog w A {s with heap:=h2} κ (λx=>x.1∈vs) (λx y=>lt x.1 y.1)->Q κ {s with heap:=h2})->aF (az prog w) A (keyKind' vs.toArray) Q E {s with heap:=h2})
  (h:∀xs:Array aG,xs.Perm (fP vs)->xs.toList.Pairwise (λx y=>lt y.1 x.1=false)->P (.done (.ret .none)) {s with heap:=fu s.heap a vs (xs.map (·.2))}) :
  aF (az prog w) A (cK.«list.sort» ⟨[.ref a],[]⟩) P E s:=by
 rw[list_sort_plain];have ha:a<s.heap.objs.size:=aD ho;refine aa (listItems_at ho rfl ?_);refine aa (listUpdate_at ho rfl ?_ (by rw[aq];exact hz) (Nat.zero_le _))
 obtain⟨J,B⟩:∃J,(s.heap.update a (ba λ_=>#[])).get? a=some (be "list" #[] J):=⟨_,dR ho (λ_=>#[])⟩;refine aa (seqEpoch_at B rfl ?_);refine aa (wpAny_newTuple ?_ (by show vs.length<=_;exact hz))
 refine aa (wpAny_newList ?_ (Nat.zero_le _));refine bM ?_;have N:=cj s.heap a (ba λ_=>(#[]:Array ad));have z:(((s.heap.update a (ba λ_=>#[])).push (be "tuple" vs.toArray 0)).push (be "list" #[] 0)).get? a=some (be "list" #[] J):=ae _ (ae _ B);have kp:∀b o,b≠a->s.heap.get? b=some o->(((s.heap.update a (ba λ_=>#[])).push (be "tuple" vs.toArray 0)).push (be "list" #[] 0)).get? b=some o:=λb o Y e=>ae _ (ae _ ((N.2 b Y).trans e));show aF (az prog w) A _ P E {s with heap:=((s.heap.update a (ba λ_=>#[])).push (be "tuple" vs.toArray 0)).push (be "list" #[] 0)}
 dsimp only;have D:(fP vs).size=vs.length:=pairsOf_size vs
 by_cases h2:vs.toArray.size<2
 ·rw[if_pos h2,if_pos h2];refine aa (af ?_);rw[StateT.run_pure];refine aa (af ?_);dsimp only;refine aa (seqEpoch_at z rfl ?_);refine aa (listUpdate_at z rfl ?_ (Nat.zero_le _) (by rw[Array.size_map];show(fP vs).size<=_;rw[D];exact Nat.le_succ_of_le hz))
  simp only[bne_self_eq_false,cA,if_false];refine af (h (fP vs) (i6 _) ?_)
  have:(fP vs).toList.length<2:=by rw[aJ,D];simpa using h2
  exact cJd _ this
 ·rw[if_neg h2,if_neg h2];refine aa (H _ kp (by simpa using h2) _ fun κ o=>?_)
  refine aa (cr (dZq o (st:=gV κ (vs.toArray.zip vs.toArray) #[] 7 none) (Q:=λ_ j=>(aH j).toList.Perm (fP vs).toList/\eQ j=none/\Sd (λx y:aG=>lt x.1 y.1) (aH j).toList)
   (λx O=>(aZm (x:=x.1) (y:=x.2) (by rw[<- fQ];exact O)).2) rfl rfl rfl λj a1 a2 Z=>⟨a1,a2,Z⟩) ?_ λ_ _ e=>e)
  rintro⟨⟨⟩,j⟩ s' ⟨rfl,L,hf,U⟩;dsimp only;refine aa (seqEpoch_at z rfl ?_);refine aa (listUpdate_at z rfl ?_ (Nat.zero_le _) (by rw[Array.size_map,<- aJ,L.length_eq,aJ,D];exact Nat.le_succ_of_le hz))
  rw[hf];simp only[bne_self_eq_false,cA,if_false];exact af (h _ (b9.mpr L) U)
theorem treeK{κ:KeyKind}(hO:κ.OneLt){a:Addr}{vs:List ad}{n:Nat}{P:iI->ah->Prop}(ho:s.heap.get? a=some (be "list" vs.toArray n))
  (h0:KeysOf κ (fP vs)) (hkk:∀v₁ v₂ rest,vs=v₁::v₂::rest->keyKind' (v₁::v₂::rest).toArray=pure jd) (hz:vs.length<=sizeLine)
  (h:∀st':cC,(aH st').Perm (fP vs)->SortedToK κ (aH st') (fP vs).size->P (.done (.ret .none)) {s with heap:=fu s.heap a vs ((aH st').map (·.2))}) :
  aF (az prog w) A (cK.«list.sort» ⟨[.ref a],[]⟩) P E s:=by
 have key:∀ v∈vs,∃ x,κ.keyOf v=some x:=λv hv=>h0 (v,v) (by
  rw[fQ];obtain⟨i,hi,e⟩:=bE hv;exact List.mem_iff_getElem.mpr ⟨i,by simpa using hi,by simp[e]⟩)
 refine sort_any (λu v=>κ.blt ((κ.keyOf u).getD κ.dflt) ((κ.keyOf v).getD κ.dflt)) hz ho (λh2 kp O Q hq=>?_) λxs D hs=>h (gV jd xs #[] 7 none) D λi j N hj=>?_
 ·obtain⟨v₁,v₂,rest,rfl⟩:∃v₁ v₂ rest,vs=v₁::v₂::rest:=by
   match vs,O with
   |v₁::v₂::rest,_=>exact⟨v₁,v₂,rest,rfl⟩
  rw[hkk _ _ _ rfl];refine af (hq _ ⟨λx y Q hx Z q=>?_,λx y _ _ e=>KeyOrd.klt_asymm e,λx y z _ _ _ e1 e2=>KeyOrd.kle_trans e1 e2⟩);obtain⟨p,D⟩:=key _ hx;obtain⟨Y,B⟩:=key _ Z;rw[gU];refine hO _ _ _ _ _ _ _ p Y D B ?_;rw[D,B] at q;exact q
 ·show κ.kle (KK κ xs i) (KK κ xs j);rcases Nat.eq_or_lt_of_le N with rfl|J
  ·exact KeyOrd.kle_refl _
  ·have sz:=D.size_eq;have U:∀k (L:k<xs.size),KK κ xs k=(κ.keyOf (xs.toList[k]'(by simpa using L)).1).getD κ.dflt:=λk L=>by
    unfold KK;rw[<- aT,ag (by simpa using L)]
   rw[U i (by lia),U j (by lia)]
   exact c6.mp hs i j (by simp;lia) (by simp;lia) J
def iv:ad->Int
 |.int n _=>n
 |_=>0
theorem treeI{a:Addr}{vs:List ad}{ns:List Int}{n:Nat}{P:iI->ah->Prop}(ho:s.heap.get? a=some (be "list" vs.toArray n))(hI:gw vs ns)(hz:vs.length<=sizeLine)
  (h:∀(out:Array ad) (ns':List Int),gw out.toList ns'->ns'.Perm ns->ns'.Pairwise (·<=·)->P (.done (.ret .none)) {s with heap:=fu s.heap a vs out}) :
  aF (az prog w) A (cK.«list.sort» ⟨[.ref a],[]⟩) P E s:=by
 have key:∀ v∈vs,∃ x t,v=.int x t:=λv hv=>hI.intKeys (v,v) (by
  rw[fQ];obtain⟨i,hi,e⟩:=bE hv;exact List.mem_iff_getElem.mpr ⟨i,by simpa using hi,by simp[e]⟩)
 refine sort_any (λu v=>decide (iv u<iv v)) hz ho (λh2 kp Y Q hq=>?_) λxs J hs=>?_
 ·obtain⟨D,B,rest,rfl⟩:∃D B rest,vs=D::B::rest:=by
   match vs,Y with
   |D::B::rest,_=>exact⟨D,B,rest,rfl⟩
  rw[keyKind_ints hI];refine af (hq _ ⟨λx y Q hx hy q=>?_,λx y _ _ e=>by simp at e ⊢;lia,λx y z _ _ _ e1 e2=>by simp at e1 e2 ⊢;lia⟩)
  obtain⟨p,t,J⟩:=key _ hx;obtain⟨p',t',N⟩:=key _ hy;rw[gU];rw[J,N] at q ⊢;exact oneLt_int q
 ·have sz:=J.size_eq;obtain⟨ns',h1,h2,h3⟩:=sorted_out hI J (λi j U hj=>by
   rcases Nat.eq_or_lt_of_le U with rfl|O
   ·exact Int.le_refl _
   ·have Z:∀k (L:k<xs.size),K xs k=iv (xs.toList[k]'(by simpa using L)).1:=λk L=>by
     have hm:xs.toList[k]'(by simpa using L)∈(fP vs).toList:=(b9.mp J).mem_iff.mp (db _)
     obtain⟨p,t,e⟩:=hI.intKeys _ hm;unfold K;rw[<- aT,ag (by simpa using L)]
     generalize xs.toList[k]'(by simpa using L)=z at e
     obtain⟨z1,z2⟩:=z;cases e
     rfl
    rw[Z i (by lia),Z j (by lia)]
    have:=c6.mp hs i j (by simp;lia) (by simp;lia) O
    have:=of_decide_eq_false this
    lia)
  exact h _ ns' h1 h2 h3
end
end SF
set_option maxHeartbeats 1000000
namespace HT
open PySem
theorem ltS_tot{a b:Str}(h:ltS a b=false)(hne:a≠b):ltS b a=true:=by
 unfold ltS at *
 refine decide_eq_true ?_;have h1:=of_decide_eq_false h;refine bi λh2=>hne ?_;have e:a.cps.toList=b.cps.toList:=List.le_antisymm (List.not_lt.mp h2) (List.not_lt.mp h1);cases a;cases b
 congr 1
 exact iJ.mp e
theorem ltS_tr{a b c:Str}(h:ltS a b=true)(h':ltS b c=true):ltS a c=true:=decide_eq_true (List.lt_trans (of_decide_eq_true h) (of_decide_eq_true h'))
theorem ltS_ir(a:Str):ltS a a=false:=decide_eq_false (List.lt_irrefl _)
theorem ltS_as{a b:Str}(h:ltS a b=true):ltS b a=false:=decide_eq_false (List.lt_asymm (of_decide_eq_true h))
theorem lexS_tot:∀{a b:List Str},lexS a b=false->a≠b->lexS b a=true
 |[],[],_,h=>absurd rfl h
 |[],_::_,h,_=>by cases h
 |_::_,[],_,_=>rfl
 |x::xs,y::ys,h,j=>by
  rw[lexS_cons] at h ⊢
  by_cases e:x=y
  ·rw[if_pos e] at h;rw[if_pos e.symm];exact lexS_tot h λz=>j (by rw[e,z])
  ·rw[if_neg e] at h;rw[if_neg λz=>e z.symm];exact ltS_tot h e
theorem lexS_as:∀{a b:List Str},lexS a b=true->lexS b a=false
 |[],[],h=>by cases h
 |[],_::_,_=>rfl
 |_::_,[],h=>by cases h
 |x::xs,y::ys,h=>by
  rw[lexS_cons] at h ⊢
  by_cases e:x=y
  ·rw[if_pos e] at h;rw[if_pos e.symm];exact lexS_as h
  ·rw[if_neg e] at h;rw[if_neg (λz=>e z.symm)];exact ltS_as h
theorem lexS_tr:∀{a b c:List Str},lexS a b=true->lexS b c=true->lexS a c=true
 |[],[],_,h,_=>by cases h
 |[],_::_,[],_,h=>by cases h
 |[],_::_,_::_,_,_=>rfl
 |_::_,[],_,h,_=>by cases h
 |_::_,_::_,[],_,h=>by cases h
 |x::xs,y::ys,z::zs,h,h'=>by
  rw[lexS_cons] at h h' ⊢
  by_cases e:x=y
  ·subst e;rw[if_pos rfl] at h
   by_cases j:x=z
   ·rw[if_pos j] at h' ⊢;exact lexS_tr h h'
   ·rw[if_neg j] at h' ⊢;exact h'
  ·rw[if_neg e] at h
   by_cases j:y=z
   ·subst j;rw[if_neg e];exact h
   ·rw[if_neg j] at h';have hxz:=ltS_tr h h'
    have:x≠z:=by rintro rfl;rw[ltS_ir] at hxz;cases hxz
    rw[if_neg this];exact hxz
end HT
namespace KS
open PySem PySem.W PyProof.Rows
theorem TS.keep{h h':aY}{v:ad}{d:List Str}(t:TS h v d)(k:∀b o,h.get? b=some o->o.cls=.type "tuple"->h'.get? b=some o):TS h' v d:=by
 obtain⟨b,items,e,⟨o,z,j,r⟩,p⟩:=t;exact⟨b,items,e,⟨o,k b o z j,j,r⟩,p⟩
section
variable{prog:aC}{w:aL}{A:aO}{E:ad->ah->Prop}{s:ah}
theorem TS.uniq{h:aY}{v:ad}{d d':List Str}(t:TS h v d)(t':TS h v d'):d=d':=by
 obtain⟨b,items,rfl,⟨o,D,U,n,hd⟩,p⟩:=t;obtain⟨Z,j,e,⟨o',ho',B,Y,hd'⟩,N⟩:=t';cases e;rw[D] at ho';cases ho';rw[hd] at hd';cases hd';clear hd D U B;have go:∀{l:List ad}{d d':List Str},HT.SAre l d->HT.SAre l d'->d=d':=by
  intro l d d' p
  induction p generalizing d' with
  |nil=>intro q;cases q;rfl
  |cons z _ O =>
   intro q;cases q with
   |cons J L =>
    obtain⟨t,e⟩:=z;obtain⟨t',e'⟩:=J;rw[e] at e';cases e';rw[O L]
 exact go p N
open Classical in
noncomputable def dec(h:aY)(v:ad):List Str:=if e:∃d,TS h v d then e.choose else []
theorem cZ0{h:aY}{v:ad}{d:List Str}(t:TS h v d):dec h v=d:=by
 unfold dec;have e:∃d,TS h v d:=⟨d,t⟩;rw[dif_pos e];exact e.choose_spec.uniq t
theorem dZr{a b c:List Str}(h1:HT.lexS b a=false)(h2:HT.lexS c b=false):HT.lexS c a=false:=by
 cases e:HT.lexS c a with
 |false=>rfl
 |true =>
  by_cases z:b=a
  ·subst z;rw[h2] at e;cases e
  ·have:=HT.lexS_tr e (HT.lexS_tot h1 z)
   rw[h2] at this;cases this
theorem perm_map{α β:Type}{f:α->β}{l:List β}{k:List β}(h:l.Perm k):∀{m:List α},k=m.map f->∃m':List α,m'.Perm m/\l=m'.map f:=by
 induction h with
 |nil=>exact λe=>⟨_,dh _,e⟩
 |cons x _ O =>
  intro m e;cases m with
  |nil=>cases e
  |cons a m =>
   rw[aX] at e;injection e with z j
   obtain⟨m',p,q⟩:=O j;exact⟨a::m',p.cons a,by rw[aX,q,z]⟩
 |swap x y l =>
  intro m e;cases m with
  |nil=>cases e
  |cons a m =>
   cases m with
   |nil=>simp at e
   |cons b m =>
    rw[aX,aX] at e;injection e with z j
    injection j with j U
    exact⟨b::a::m,.swap _ _ _,by rw[aX,aX,z,j,U]⟩
 |trans p q D B =>
  intro m e;obtain⟨Y,L,z⟩:=B e;obtain⟨N,J,j⟩:=D z;exact⟨N,J.trans L,j⟩
theorem idx_map{α:Type}(l:List α)(d:α):((bu l.length).map λi=>l.getD i d)=l:=by
 apply iK
 ·simp
 ·intro i h1 h2;simp only[iL,List.getElem_range,ak];rw[ag h2]
  rfl
theorem sort_tupsL{a:Addr}{vs:List ad}{ds:List (List Str)}{n:Nat}{P:iI->ah->Prop}(hu:A.units<bU)(ho:s.heap.get? a=some (be "list" vs.toArray n))(hp:bx (TS s.heap) vs ds)(hz:vs.length<=sizeLine)
  (h:∀ (idx:List Nat) (h':aY) (c:Nat),idx.Perm (bu vs.length)->(idx.map λi=>ds.getD i []).Pairwise (λa b=>HT.lexS b a=false)->(idx.map λi=>ds.getD i []).Perm ds->h'.get? a=some (be "list" (idx.map λi=>vs.getD i bJ).toArray c) ->
   (∀b o,b≠a->s.heap.get? b=some o->h'.get? b=some o)->P (.done (.ret .none)) {s with heap:=h'}) :
  aF (az prog w) A (cK.«list.sort» ⟨[.ref a],[]⟩) P E s:=by
 have hl:vs.length=ds.length:=cQ hp;have at_:∀i,i<vs.length->TS s.heap (vs.getD i bJ) (ds.getD i []):=λk hk=>by
  obtain⟨d,hd,t⟩:=L2.Paired.get' hp (ag hk);rw[ak,ak,hd,ag hk];exact t
 have B:∀v∈vs,TS s.heap v (dec s.heap v):=λv hv=>by
  obtain⟨i,hi,e⟩:=bE hv
  have:=at_ i hi
  rw[ak,ag hi] at this;have L:TS s.heap v (ds.getD i []):=by rw[<- e];exact this
  rw[cZ0 L];exact L
 refine SF.sort_any (λu v=>HT.lexS (dec s.heap u) (dec s.heap v)) hz ho (λh2 kp h2l Q hq=>?_) λxs U hs=>?_
 ·have kt:∀ b o,s.heap.get? b=some o->o.cls=.type "tuple"->h2.get? b=some o:=λb o e c=>kp b o (by
   rintro rfl;rw[ho] at e;have e':=aM e;rw[<- e'] at c;have c':dG "list"=dG "tuple":=c;injection c' with c''
   exact absurd c'' (by decide)) e
  have Y:bx (TS h2) vs ds:=L2.Paired.imp (λv d t=>t.keep kt) hp;refine dZo (s:={s with heap:=h2}) Y (by rintro rfl;simp at h2l) fun κ hκ=>hq κ ⟨λx y Q U hy q=>?_,λx y _ _ e=>HT.lexS_as e,λx y z _ _ _ D L=>dZr D L⟩
  have t1:=(B _ U).keep kt;have N:=(B _ hy).keep kt;rcases hκ with rfl|rfl|rfl
  ·exact cQw (s:={s with heap:=h2}) t1 N q
  ·exact bJk (s:={s with heap:=h2}) hu t1 N q
  ·exact eQv (s:={s with heap:=h2}) hu t1 N q
 ·have pl:xs.toList.Perm (fP vs).toList:=b9.mp U;obtain⟨idx,O,D⟩:=perm_map (f:=λi=>(vs.getD i bJ,vs.getD i bJ)) (m:=bu vs.length) pl (by
   rw[fQ]
   conv=>lhs;rw[<- idx_map vs bJ]
   rw[List.zip_map'])
  have J:∀i∈idx,i<vs.length:=λi hi=>bO.mp (O.mem_iff.mp hi);have eo:xs.map (·.2)=(idx.map λi=>vs.getD i bJ).toArray:=by
   apply iJ.mp;rw[Array.toList_map,D,bW]
   rfl
  rw[eo];rw[D,dq] at hs;have s2:=cj (((s.heap.update a (ba λ_=>(#[]:Array ad))).push (be "tuple" vs.toArray 0)).push (be "list" #[] 0)) a (ba λ_=>(idx.map λi=>vs.getD i bJ).toArray);obtain⟨L,Z⟩:∃D,(s.heap.update a (ba λ_=>(#[]:Array ad))).get? a=some (be "list" #[] D):=⟨_,dR ho λ_=>#[]⟩;have sb:=cj s.heap a (ba λ_=>(#[]:Array ad));refine h idx _ _ O ?_ ?_ (dR (ae _ (ae _ Z)) λ_=>_) λb o hb e=>(s2.2 b hb).trans (ae _ (ae _ ((sb.2 b hb).trans e)))
  ·rw[dq];refine hs.imp_of_mem λ{i j} hi hj hij=>?_;have a1:=cZ0 (at_ i (J i hi));have a2:=cZ0 (at_ j (J j hj));rw[<- a1,<- a2];exact hij
  ·have:=O.map λi=>ds.getD i []
   rw[hl,idx_map] at this;exact this
end
end KS
namespace ST
open PySem PySem.SetTable PySem.Spec PyProof.Rows
end ST
namespace L2
open PySem PySem.Spec PyProof.Rows
def stO(p:Addr)(es:Array (Int×ad))(ep:Nat)(t:cg):HO:=.ext λh=>h.get? p=some (ST.setOb es ep t)
theorem Inv.drawn{X:Cx}{pins:List (Addr×Obj)}{σ:St}{H:Hp}{s:ah}(I:Inv X pins σ H s)(d:_):Inv X pins σ H {s with drawn:=d} :=
 ⟨I.ok,I.os,I.bare,I.base,I.loc,I.cell,I.free,I.freeC,I.pin,I.hok,I.len⟩
section
variable{X:Cx}
theorem cZ1{H:Hp}:∀{xs:List V}{us:List ad}{ds:List Str},bx (dS H) xs ds->Vals xs us->iU us ds
 |_,_,_,.nil,.nil=>.nil
 |_,_,_,.cons p q,.cons r t=>by
  cases p;obtain⟨k,rfl⟩:=r;exact .cons _ k (cZ1 q t)
theorem bQc{H:Hp}:∀{us:List ad}{ds:List Str},iU us ds->Vals (ds.map V.str) us/\bx (dS H) (ds.map V.str) ds
 |_,_,.nil=>⟨.nil,.nil⟩
 |_,_,.cons y t r=>⟨.cons ⟨t,rfl⟩ (bQc (H:=H) r).1,.cons rfl (bQc r).2⟩
theorem dQl:∀{l:List Str},sortedS l=true->l.Nodup->l.Pairwise λa b=>HT.ltS a b=true
 |[],_,_=>.nil
 |[x],_,_=>b8 _ _
 |x::y::l,h,nd=>by
  have h':(!ltCps y.cps.toList x.cps.toList&&risingS y l)=true:=h;rw[a4] at h';have D:=dQl (l:=y::l) h'.2 (cG.mp nd).2;have j:HT.ltS x y=true:=by
   have e:HT.ltS y x=false:=by
    have:=h'.1
    rw[bR] at this;rw[ltCps_eq] at this;exact this
   exact HT.ltS_tot e λz=>(cG.mp nd).1 (z▸aA)
  refine bD.mpr ⟨λz B=>?_,D⟩;rcases aQ.mp B with rfl|B
  ·exact j
  ·exact HT.ltS_tr j ((bD.mp D).1 z B)
end
end L2
set_option maxHeartbeats 4000000
namespace L2
open PySem PySem.Spec PyProof.Rows
def cutS(z:Str)(lo hi:Option Int):Str:=if ((bG lo hi 1 z.length).length==z.length)=true then z else ⟨((bG lo hi 1 z.length).filterMap (z.cps[·]?)).toArray⟩
def rSlS:V->Option Int->Option Int->Hp->VK->Prop:=λx lo hi H Q=>∃z,x=.str z/\z.length<=1000000/\Q (.str (cutS z lo hi)) H
theorem sl_str{X:Cx}:SlR X rSlS:=by
 intro pins s σ H x v vl vu lo hi sl Q I N U pl pu h;obtain⟨z,rfl,hz,q⟩:=h;obtain⟨t,rfl⟩:=N;refine⟨"str",_,PySem.F.slot_str_getitem.lookup,typeIs_str _ _ _,?_⟩;have go:∀(l u:Option (Int×Tok)),l.map (·.1)=lo->u.map (·.1)=hi->s.heap.IsSlice sl l u none->aF (az X.prog X.w) X.A (f6 (.str z t) (.ref sl)) (EP X pins σ Q) X.xe s:=λl u Y O Z=>by
  refine wpAny_getItem_str_slice Z rfl ?_;unfold sliceMade slicePicked;simp only[Option.map_none,iz,beq_self_eq_true,ga,Y,O];unfold cutS at q
  by_cases c:((bG lo hi 1 z.length).length==z.length)=true
  ·rw[if_pos c] at q ⊢;exact⟨.str z,H,I,⟨t,rfl⟩,q⟩
  ·rw[if_neg c] at q ⊢;refine⟨?_,.str _,H,I.tok _,⟨_,rfl⟩,q⟩;have h1:=PyProof.Rows.indices_len_le lo hi z.length;have h2:((bG lo hi 1 z.length).filterMap (z.cps[·]?)).length<=(bG lo hi 1 z.length).length:=List.length_filterMap_le _ _;show((bG lo hi 1 z.length).filterMap (z.cps[·]?)).toArray.size<=_;rw[aq,aW];lia
 obtain⟨o,B,D,hd⟩:=U;cases pl with
 |none =>
  cases pu with
  |none=>exact go none none rfl rfl ⟨o,B,D,hd⟩
  |int j J=>exact go none (some (j,J)) rfl rfl ⟨o,B,D,hd⟩
 |int i L =>
  cases pu with
  |none=>exact go (some (i,L)) none rfl rfl ⟨o,B,D,hd⟩
  |int j J=>exact go (some (i,L)) (some (j,J)) rfl rfl ⟨o,B,D,hd⟩
end L2
set_option maxHeartbeats 1000000
namespace L2
open PySem PySem.Spec PyProof.Rows
inductive D where
 |non|bl (b:Bool)|int (i:Int)|str (x:Str)|ty (n:String)|ref (a:Addr)|tup (xs:List D)|lst (xs:List D)
abbrev Am:=Addr->Prop
structure Keep(M:Am)(H:Hp)(M':Am)(H':Hp):Prop where
 st:∀a o,¬ M a->H a=some o->H' a=some o
 nm:∀a,¬ M a->H a≠none->¬ M' a
def Xo:HO->Prop
 |.ext _=>True
 |.ins _ _ _=>True
 |_=>False
inductive DO where
 |lst (xs:List D)|dk (kvs:List (Key×D))|dt (kvs:List (List Key×D))
 |tb (pos:Pos) (qual:Str)
 |ex (f:Am->Hp->Addr->Prop) (hk:∀M M' H H' a,Keep M H M' H'->H' a=H a->f M H a->f M' H' a) (hl:∀M H a,f M H a->∃g,H a=some g/\Xo g)
abbrev Sto:=Addr->Option DO
abbrev Gm:=List (Option D)
def supd(S:Sto)(a:Addr)(o:DO):Sto:=λb=>if b=a then some o else S b
def sdel(S:Sto)(a:Addr):Sto:=λb=>if b=a then none else S b
theorem supd_same{S:Sto}{a:Addr}{o:DO}:supd S a o a=some o:=by unfold supd;rw[if_pos rfl]
theorem aQ6{S:Sto}{a b:Addr}{o:DO}(h:b≠a):supd S a o b=S b:=by unfold supd;rw[if_neg h]
theorem aJg{S:Sto}{a:Addr}:sdel S a a=none:=by unfold sdel;rw[if_pos rfl]
theorem aJh{S:Sto}{a b:Addr}(h:b≠a):sdel S a b=S b:=by unfold sdel;rw[if_neg h]
def TupAt(K:Fg)(M:Am)(H:Hp)(a:Addr)(xs:List V):Prop:=(¬ M a/\Rd H a (.tup xs))\/SqT K (λ_=>none) a xs
theorem TupAt.sq{K:Fg}{M:Am}{H:Hp}{a:Addr}{xs:List V}(h:TupAt K M H a xs):SqT K H a xs:=by
 rcases h with h|(h|⟨o,h⟩)|h
 ·exact .inl h.2
 ·cases h
 ·cases h
 ·exact .inr h
def LstAt(K:Fg)(M:Am)(H:Hp)(a:Addr)(xs:List V):Prop:=(¬ M a/\Rd H a (.lst xs))\/SqL K (λ_=>none) a xs
theorem LstAt.sq{K:Fg}{M:Am}{H:Hp}{a:Addr}{xs:List V}(h:LstAt K M H a xs):SqL K H a xs:=by
 rcases h with h|(h|⟨o,h⟩)|h
 ·exact .inl h.2
 ·cases h
 ·cases h
 ·exact .inr h
mutual
def RepV(K:Fg)(M:Am)(H:Hp):D->V->Prop
 |.non,v=>v=.non
 |.bl b,v=>v=.bl b
 |.int i,v=>v=.int i
 |.str x,v=>v=.str x
 |.ty n,v=>v=.ty n
 |.ref a,v=>v=.ref a
 |.tup ds,v=>∃a xs,v=.ref a/\TupAt K M H a xs/\RepL K M H ds xs
 |.lst ds,v=>∃a xs,v=.ref a/\LstAt K M H a xs/\RepL K M H ds xs
def RepL(K:Fg)(M:Am)(H:Hp):List D->List V->Prop
 |[],xs=>xs=[]
 |d::ds,xs=>∃v vs,xs=v::vs/\RepV K M H d v/\RepL K M H ds vs
end
theorem Rd.live{H:Hp}{a:Addr}{u:HO}(r:Rd H a u):H a≠none:=by
 rcases r with r|⟨o,r⟩ <;> rw[r] <;> exact λz=>by cases z
theorem Keep.rd{M M':Am}{H H':Hp}(k:Keep M H M' H'){a:Addr}{u:HO}(hm:¬ M a)(r:Rd H a u):Rd H' a u:=by
 rcases r with r|⟨o,r⟩
 ·exact .inl (k.st a _ hm r)
 ·exact .inr ⟨o,k.st a _ hm r⟩
theorem TupAt.keep{K:Fg}{M M':Am}{H H':Hp}{p:Addr}{us:List V}(t:TupAt K M H p us)(x:Keep M H M' H'):TupAt K M' H' p us:=by
 rcases t with⟨hm,r⟩|t
 ·exact .inl ⟨x.nm p hm r.live,x.rd hm r⟩
 ·exact .inr t
theorem LstAt.keep{K:Fg}{M M':Am}{H H':Hp}{p:Addr}{us:List V}(t:LstAt K M H p us)(x:Keep M H M' H'):LstAt K M' H' p us:=by
 rcases t with⟨hm,r⟩|t
 ·exact .inl ⟨x.nm p hm r.live,x.rd hm r⟩
 ·exact .inr t
mutual
theorem RepV.keep{K:Fg}{M M':Am}{H H':Hp}(k:Keep M H M' H'):∀{d:D}{v:V},RepV K M H d v->RepV K M' H' d v
 |.non,_,h=>h
 |.bl _,_,h=>h
 |.int _,_,h=>h
 |.str _,_,h=>h
 |.ty _,_,h=>h
 |.ref _,_,h=>h
 |.tup ds,v,h=>by
  unfold RepV at h ⊢;obtain⟨a,xs,e,t,l⟩:=h;exact⟨a,xs,e,t.keep k,RepL.keep k l⟩
 |.lst ds,v,h=>by
  unfold RepV at h ⊢;obtain⟨a,xs,e,t,l⟩:=h;exact⟨a,xs,e,t.keep k,RepL.keep k l⟩
theorem RepL.keep{K:Fg}{M M':Am}{H H':Hp}(k:Keep M H M' H'):∀{ds:List D}{xs:List V},RepL K M H ds xs->RepL K M' H' ds xs
 |[],_,h=>h
 |d::ds,xs,h=>by
  unfold RepL at h ⊢;obtain⟨v,j,e,r,l⟩:=h;exact⟨v,j,e,RepV.keep k r,RepL.keep k l⟩
end
section
variable{K:Fg}{M:Am}{H:Hp}
theorem RepL.length:∀{ds:List D}{xs:List V},RepL K M H ds xs->xs.length=ds.length
 |[],_,h=>by unfold RepL at h;rw[h];rfl
 |d::ds,xs,h=>by
  unfold RepL at h;obtain⟨v,j,rfl,_,l⟩:=h;simp[RepL.length l]
theorem RepL.nil:RepL K M H [] []:=by unfold RepL;rfl
theorem RepL.cons{d:D}{ds:List D}{v:V}{vs:List V}(r:RepV K M H d v)(l:RepL K M H ds vs):RepL K M H (d::ds) (v::vs):=by unfold RepL;exact⟨v,vs,rfl,r,l⟩
theorem RepL.app:∀{ds es:List D}{xs ys:List V},RepL K M H ds xs->RepL K M H es ys->RepL K M H (ds++es) (xs++ys)
 |[],es,xs,ys,h,h'=>by unfold RepL at h;rw[h];exact h'
 |d::ds,es,xs,ys,h,h'=>by
  unfold RepL at h;obtain⟨v,j,rfl,r,l⟩:=h;exact RepL.cons r (RepL.app l h')
theorem RepL.get:∀{ds:List D}{xs:List V}{i:Nat}{d:D},RepL K M H ds xs->ds[i]?=some d->∃v,xs[i]?=some v/\RepV K M H d v
 |[],_,_,_,_,e=>by simp at e
 |d::ds,xs,0,e,h,he=>by
  unfold RepL at h;obtain⟨v,j,rfl,r,l⟩:=h;simp at he;subst he;exact⟨v,rfl,r⟩
 |d::ds,xs,i+1,e,h,he=>by
  unfold RepL at h;obtain⟨v,j,rfl,r,l⟩:=h;obtain⟨w,h1,h2⟩:=RepL.get (i:=i) l (by simpa using he)
  exact⟨w,by simpa using h1,h2⟩
theorem RepL.get'{ds:List D}{xs:List V}{i:Nat}{v:V}(h:RepL K M H ds xs)(e:xs[i]?=some v):∃d,ds[i]?=some d/\RepV K M H d v:=by
 have B:=h.length;have hi:i<xs.length:=by
  rcases Nat.lt_or_ge i xs.length with z|z
  ·exact z
  ·rw[bK z] at e;cases e
 have j:ds[i]?=some ds[i]:=ag (by omega)
 obtain⟨w,h1,h2⟩:=h.get j;rw[e] at h1;cases h1;exact⟨_,j,h2⟩
theorem RepL.take:∀{ds:List D}{xs:List V}(n:Nat),RepL K M H ds xs->RepL K M H (ds.take n) (xs.take n)
 |_,_,0,_=>by simpa using RepL.nil
 |[],_,n+1,h=>by unfold RepL at h;subst h;simpa using RepL.nil
 |d::ds,xs,n+1,h=>by
  unfold RepL at h;obtain⟨v,j,rfl,r,l⟩:=h;simpa using RepL.cons r (RepL.take n l)
theorem RepL.drop:∀{ds:List D}{xs:List V}(n:Nat),RepL K M H ds xs->RepL K M H (ds.drop n) (xs.drop n)
 |_,_,0,h=>by simpa using h
 |[],_,n+1,h=>by unfold RepL at h;subst h;simpa using RepL.nil
 |d::ds,xs,n+1,h=>by
  unfold RepL at h;obtain⟨v,j,rfl,r,l⟩:=h;simpa using RepL.drop n l
theorem RepL.set{d:D}{v:V}(r:RepV K M H d v):∀{ds:List D}{xs:List V}(i:Nat),RepL K M H ds xs->RepL K M H (ds.set i d) (xs.set i v)
 |[],_,i,h=>by unfold RepL at h;subst h;simpa using RepL.nil
 |e::ds,xs,0,h=>by
  unfold RepL at h;obtain⟨w,j,rfl,_,l⟩:=h;simpa using RepL.cons r l
 |e::ds,xs,i+1,h=>by
  unfold RepL at h;obtain⟨w,j,rfl,q,l⟩:=h;simpa using RepL.cons q (RepL.set r i l)
theorem RepL.erase:∀{ds:List D}{xs:List V}(i:Nat),RepL K M H ds xs->RepL K M H (ds.eraseIdx i) (xs.eraseIdx i)
 |[],_,i,h=>by unfold RepL at h;subst h;simpa using RepL.nil
 |e::ds,xs,0,h=>by
  unfold RepL at h;obtain⟨w,j,rfl,_,l⟩:=h;simpa using l
 |e::ds,xs,i+1,h=>by
  unfold RepL at h;obtain⟨w,j,rfl,q,l⟩:=h;simpa using RepL.cons q (RepL.erase i l)
theorem RepL.one{d:D}{xs:List V}(h:RepL K M H [d] xs):∃v,xs=[v]/\RepV K M H d v:=by
 unfold RepL at h;obtain⟨v,j,rfl,r,l⟩:=h;unfold RepL at l;subst l;exact⟨v,rfl,r⟩
theorem RepL.two{d e:D}{xs:List V}(h:RepL K M H [d,e] xs):∃v w,xs=[v,w]/\RepV K M H d v/\RepV K M H e w:=by
 unfold RepL at h;obtain⟨v,z,rfl,r,l⟩:=h;obtain⟨w,rfl,j⟩:=l.one;exact⟨v,w,rfl,r,j⟩
end
def mt(S:Sto)(F:Am):Am:=λa=>S a≠none\/F a
abbrev cdO(c:Addr)(oc:Obj):HO:=.ext λh=>h.get? c=some oc
def TbOk(M:Am)(H:Hp)(pos:Pos)(qual:Str)(ps:Array ad):Prop:=TriplesOk ps.toList/\(gF pos ps.toList=none \/
 ∃c oc,gF pos ps.toList=some (.ref c)/\¬ M c/\H c=some (cdO c oc)/\∃vs t,oc.data=.fields vs/\vs[1]?=some (.str qual t))
theorem TbOk.keep{M M':Am}{H H':Hp}(k:Keep M H M' H'){pos:Pos}{qual:Str}{ps:Array ad}(h:TbOk M H pos qual ps):TbOk M' H' pos qual ps:=by
 obtain⟨h1,h2⟩:=h;refine⟨h1,h2.imp id λ⟨c,oc,B,m,j,r⟩=>⟨c,oc,B,k.nm c m (by rw[j];exact λz=>by cases z),k.st c _ m j,r⟩⟩
def RepO(K:Fg)(M:Am)(H:Hp)(a:Addr):DO->Prop
 |.lst ds=>∃xs,H a=some (.lst xs)/\RepL K M H ds xs
 |.dk kvs=>∃ks,H a=some (.dK ks)/\bx (λ(p:Key×V) (q:Key×D)=>p.1=q.1/\RepV K M H q.2 p.2) ks kvs
 |.dt kvs=>∃ks,H a=some (.dT ks)/\bx (λ(p:List Key×V) (q:List Key×D)=>p.1=q.1/\RepV K M H q.2 p.2) ks kvs
 |.tb pos qual=>∃ps,H a=some (.tbl ps)/\TbOk M H pos qual ps
 |.ex f _ _=>f M H a
theorem RepO.live{K:Fg}{M:Am}{H:Hp}{a:Addr}{o:DO}(h:RepO K M H a o):H a≠none:=by
 cases o with
 |ex f B j=>obtain⟨g,e,_⟩:=j _ _ _ h;rw[e];exact λz=>by cases z
 |_=>obtain⟨xs,e,_⟩:=h;rw[e];exact λz=>by cases z
theorem RepO.keep{K:Fg}{M M':Am}{H H':Hp}(k:Keep M H M' H'){a:Addr}{o:DO}(e:H' a=H a)(h:RepO K M H a o):RepO K M' H' a o:=by
 cases o with
 |lst ds=>obtain⟨xs,j,l⟩:=h;exact⟨xs,e.trans j,l.keep k⟩
 |dk B=>obtain⟨xs,j,l⟩:=h;exact⟨xs,e.trans j,Paired.imp (λ_ _ z=>⟨z.1,z.2.keep k⟩) l⟩
 |dt B=>obtain⟨xs,j,l⟩:=h;exact⟨xs,e.trans j,Paired.imp (λ_ _ z=>⟨z.1,z.2.keep k⟩) l⟩
 |tb pos qual=>obtain⟨xs,j,l⟩:=h;exact⟨xs,e.trans j,l.keep k⟩
 |ex f D J=>exact D _ _ _ _ _ k e h
def Clt:HO->Prop
 |.lst _=>True
 |.ext _=>True
 |_=>False
structure Rp(K:Fg)(F:Am)(S:Sto)(H:Hp):Prop where
 obj:∀a o,S a=some o->RepO K (mt S F) H a o
 frm:∀a,F a->(∃u,H a=some u/\Clt u)/\S a=none
structure Ext(S:Sto)(H:Hp)(S':Sto)(H':Hp):Prop where
 keep:∀a o,S a=none->H a=some o->H' a=some o
 live:∀a,H a≠none->H' a≠none
 new:∀a,S' a≠none->S a≠none\/H a=none
theorem Ext.refl(S:Sto)(H:Hp):Ext S H S H:=⟨λ_ _ _ h=>h,λ_ h=>h,λ_ h=>.inl h⟩
theorem Ext.sn{S S':Sto}{H H':Hp}(x:Ext S H S' H'){a:Addr}(h:S a=none)(h':H a≠none):S' a=none:=by
 cases e:S' a with
 |none=>rfl
 |some o =>
  rcases x.new a (by rw[e];exact λz=>by cases z) with z|z
  ·exact absurd h z
  ·exact absurd z h'
theorem Ext.trans{S S1 S2:Sto}{H H1 H2:Hp}(x:Ext S H S1 H1)(y:Ext S1 H1 S2 H2):Ext S H S2 H2 :=
 ⟨λa o h h'=>y.keep a o (x.sn h (by rw[h'];exact λz=>by cases z)) (x.keep a o h h'),λa h=>y.live a (x.live a h),λa h=>by
  rcases y.new a h with z|z
  ·exact x.new a z
  ·refine .inr (bi λn=>x.live a n z)⟩
theorem Ext.same{S:Sto}{H H':Hp}(s:Same H H'):Ext S H S H' where
 keep:=λa o _ h=>s a o h
 live:=λa h=>by
  cases e:H a with
  |none=>exact absurd e h
  |some o =>
   rw[s a o e];exact λz=>by cases z
 new:=λ_ h=>.inl h
theorem Ext.kp{F:Am}{S S':Sto}{H H':Hp}(x:Ext S H S' H'):Keep (mt S F) H (mt S' F) H':=⟨λa o h e=>x.keep a o (bi λn=>h (.inl n)) e,λa h e=>λz=>by
 rcases z with z|z
 ·rcases x.new a z with y|y
  ·exact h (.inl y)
  ·exact e y
 ·exact h (.inr z)⟩
section
variable{K:Fg}{F:Am}{S S':Sto}{H H':Hp}
theorem RepV.ext{d:D}{v:V}(h:RepV K (mt S F) H d v)(x:Ext S H S' H'):RepV K (mt S' F) H' d v:=h.keep x.kp
theorem RepL.ext{ds:List D}{vs:List V}(h:RepL K (mt S F) H ds vs)(x:Ext S H S' H'):RepL K (mt S' F) H' ds vs:=h.keep x.kp
theorem Rp.same(r:Rp K F S H)(s:Same H H'):Rp K F S H' where
 obj:=λa o h=>by
  have q:=r.obj a o h;have e:H' a=H a:=by
   cases z:H a with
   |none=>exact absurd z q.live
   |some u=>exact s a u z
  exact q.keep (Ext.same s).kp e
 frm:=λa h=>by
  obtain⟨⟨zs,e,ct⟩,h2⟩:=r.frm a h;exact⟨⟨zs,s a _ e,ct⟩,h2⟩
theorem Ext.write{a:Addr}{o:DO}{u:HO}(h:S a≠none):Ext S H (supd S a o) (upd H a u) where
 keep:=λb B h1 h2=>by
  have ne:b≠a:=by rintro rfl;exact h h1
  rw[upd_ne ne];exact h2
 live:=λb j=>by
  by_cases e:b=a
  ·subst e;rw[aQ7];exact λz=>by cases z
  ·rw[upd_ne e];exact j
 new:=λb j=>by
  by_cases e:b=a
  ·subst e;exact .inl h
  ·rw[aQ6 e] at j;exact .inl j
theorem Rp.write{a:Addr}{o:DO}{u:HO}(r:Rp K F S H)(h:S a≠none)(q:RepO K (mt (supd S a o) F) (upd H a u) a o):Rp K F (supd S a o) (upd H a u) where
 obj:=λb j hb=>by
  by_cases e:b=a
  ·subst e;rw[supd_same] at hb;cases hb;exact q
  ·rw[aQ6 e] at hb;exact(r.obj b j hb).keep (Ext.write h).kp (upd_ne e)
 frm:=λb hb=>by
  have e:b≠a:=by rintro rfl;exact h (r.frm b hb).2
  rw[upd_ne e,aQ6 e];exact r.frm b hb
theorem Rp.sn(r:Rp K F S H){a:Addr}(h:H a=none):S a=none:=by
 cases e:S a with
 |none=>rfl
 |some o=>exact absurd h (r.obj a o e).live
theorem Ext.mk'{a:Addr}{o:DO}{u:HO}(h:H a=none):Ext S H (supd S a o) (upd H a u) where
 keep:=λb z h1 h2=>by
  have ne:b≠a:=by rintro rfl;rw[h] at h2;cases h2
  rw[upd_ne ne];exact h2
 live:=λb j=>by
  have ne:b≠a:=by rintro rfl;exact j h
  rw[upd_ne ne];exact j
 new:=λb j=>by
  by_cases e:b=a
  ·subst e;exact .inr h
  ·rw[aQ6 e] at j;exact .inl j
theorem Rp.mk'{a:Addr}{o:DO}{u:HO}(r:Rp K F S H)(h:H a=none)(q:RepO K (mt (supd S a o) F) (upd H a u) a o):Rp K F (supd S a o) (upd H a u) where
 obj:=λb j hb=>by
  by_cases e:b=a
  ·subst e;rw[supd_same] at hb;cases hb;exact q
  ·rw[aQ6 e] at hb;exact(r.obj b j hb).keep (Ext.mk' h).kp (upd_ne e)
 frm:=λb hb=>by
  have e:b≠a:=by
   rintro rfl;obtain⟨⟨zs,e,_⟩,_⟩:=r.frm b hb;rw[h] at e;cases e
  rw[upd_ne e,aQ6 e];exact r.frm b hb
theorem Ext.less{S':Sto}(h:∀ a o,S' a=some o->S a=some o):Ext S H S' H:=⟨λ_ _ _ e=>e,λ_ e=>e,λa e=>.inl λz=>by
 cases q:S' a with
 |none=>exact e q
 |some o=>rw[h a o q] at z;cases z⟩
theorem Rp.less{S':Sto}(r:Rp K F S H)(h:∀a o,S' a=some o->S a=some o):Rp K F S' H where
 obj:=λa o e=>(r.obj a o (h a o e)).keep (Ext.less h).kp rfl
 frm:=λa e=>⟨(r.frm a e).1,by
  cases q:S' a with
  |none=>rfl
  |some o=>have:=h a o q;rw[(r.frm a e).2] at this;cases this⟩
theorem cZ2{a:Addr}:∀b o,sdel S a b=some o->S b=some o:=λb o e=>by
 by_cases z:b=a
 ·subst z;rw[aJg] at e;cases e
 ·rwa [aJh z] at e
end
def look(g:Gm)(i:Nat)(k:D->Prop):Prop:=match i with
 |0=>match g with
  |some d::_=>k d
  |_=>False
 |n+1=>match g with
  |_::g=>look g n k
  |[]=>False
def RepG(K:Fg)(M:Am)(H:Hp):Gm->St->Prop
 |[],σ=>σ=[]
 |none::g,σ=>∃v τ,σ=v::τ/\RepG K M H g τ
 |some d::g,σ=>∃v τ,σ=some v::τ/\RepV K M H d v/\RepG K M H g τ
theorem RepG.keep{K:Fg}{M M':Am}{H H':Hp}(k:Keep M H M' H'):∀{g:Gm}{σ:St},RepG K M H g σ->RepG K M' H' g σ
 |[],_,h=>h
 |none::g,_,⟨v,τ,e,r⟩=>⟨v,τ,e,RepG.keep k r⟩
 |some d::g,_,⟨v,τ,e,q,r⟩=>⟨v,τ,e,q.keep k,RepG.keep k r⟩
theorem RepG.ext{K:Fg}{F:Am}{S S':Sto}{H H':Hp}{g:Gm}{σ:St}(h:RepG K (mt S F) H g σ)(x:Ext S H S' H'):RepG K (mt S' F) H' g σ:=h.keep x.kp
theorem RepG.look{K:Fg}{M:Am}{H:Hp}{k:D->Prop}:∀{g:Gm}{σ:St}{i:Nat},RepG K M H g σ->look g i k->∃v d,σ[i]?=some (some v)/\RepV K M H d v/\k d
 |[],_,0,_,h=>cX h
 |[],_,_+1,_,h=>cX h
 |none::_,_,0,_,h=>cX h
 |some d::g,_,0,⟨v,τ,e,q,r⟩,h=>⟨v,d,by rw[e];rfl,q,h⟩
 |some d::g,_,i+1,⟨v,τ,e,q,r⟩,h=>by
  obtain⟨u,z,j,h1⟩:=RepG.look (i:=i) r h;exact⟨u,z,by rw[e];simpa using j,h1⟩
 |none::g,_,i+1,⟨v,τ,e,r⟩,h=>by
  obtain⟨u,z,j,h1⟩:=RepG.look (i:=i) r h;exact⟨u,z,by rw[e];simpa using j,h1⟩
theorem RepG.set{K:Fg}{M:Am}{H:Hp}{d:D}{v:V}(q:RepV K M H d v):∀{g:Gm}{σ:St}(i:Nat),RepG K M H g σ->RepG K M H (g.set i (some d)) (σ.set i (some v))
 |[],_,_,h=>by cases h;rfl
 |none::g,_,0,⟨w,τ,e,r⟩=>by subst e;exact⟨v,τ,rfl,q,r⟩
 |some _::g,_,0,⟨w,τ,e,_,r⟩=>by subst e;exact⟨v,τ,rfl,q,r⟩
 |none::g,_,i+1,⟨w,τ,e,r⟩=>by subst e;exact⟨w,_,rfl,RepG.set q i r⟩
 |some _::g,_,i+1,⟨w,τ,e,z,r⟩=>by subst e;exact⟨w,_,rfl,z,RepG.set q i r⟩
abbrev DK:=D->Sto->Prop
abbrev ED:=Gm->Sto->DK->Prop
abbrev TD:=Gm->Sto->(Bool->Sto->Prop)->Prop
abbrev AD:=Gm->Sto->(List D->Sto->Prop)->Prop
structure EndsD where
 nx:Gm->Sto->Prop
 rt:DK
 bk:Gm->Sto->Prop:=λ_ _=>False
 ct:Gm->Sto->Prop:=λ_ _=>False
abbrev SD:=EndsD->Gm->Sto->Prop
def upE(K:Fg)(t:ED):TE:=fun σ H Q=>∃F S Γ QD,Rp K F S H/\RepG K (mt S F) H Γ σ/\t Γ S QD/\∀v d H' S',Ext S H S' H'->Rp K F S' H'->RepV K (mt S' F) H' d v->QD d S'->Q v H'
theorem upE.el{K:Fg}{t:ED}{σ:St}{H:Hp}{Q:VK}{p:Prop}(h:upE K t σ H Q)(k:∀F S Γ QD,Rp K F S H->RepG K (mt S F) H Γ σ->t Γ S QD->(∀v d H' S',Ext S H S' H'->Rp K F S' H'->RepV K (mt S' F) H' d v->QD d S'->Q v H')->p):p:=by
 obtain⟨F,S,Γ,QD,h0,h1,h2,j⟩:=h;exact k F S Γ QD h0 h1 h2 j
def upT(K:Fg)(t:TD):TT:=fun σ H Q=>∃F S Γ QD,Rp K F S H/\RepG K (mt S F) H Γ σ/\t Γ S QD/\∀b H' S',Ext S H S' H'->Rp K F S' H'->QD b S'->Q b H'
theorem upT.el{K:Fg}{t:TD}{σ:St}{H:Hp}{Q:Bool->Hp->Prop}{p:Prop}(h:upT K t σ H Q)(k:∀F S Γ QD,Rp K F S H->RepG K (mt S F) H Γ σ->t Γ S QD->(∀b H' S',Ext S H S' H'->Rp K F S' H'->QD b S'->Q b H')->p):p:=by
 obtain⟨F,S,Γ,QD,h0,h1,h2,j⟩:=h;exact k F S Γ QD h0 h1 h2 j
def upA(K:Fg)(t:AD):TA:=fun σ H Q=>∃F S Γ QD,Rp K F S H/\RepG K (mt S F) H Γ σ/\t Γ S QD/\∀vs ds H' S',Ext S H S' H'->Rp K F S' H'->RepL K (mt S' F) H' ds vs->QD ds S'->Q vs H'
theorem upA.el{K:Fg}{t:AD}{σ:St}{H:Hp}{Q:List V->Hp->Prop}{p:Prop}(h:upA K t σ H Q)(k:∀F S Γ QD,Rp K F S H->RepG K (mt S F) H Γ σ->t Γ S QD->(∀vs ds H' S',Ext S H S' H'->Rp K F S' H'->RepL K (mt S' F) H' ds vs->QD ds S'->Q vs H')->p):p:=by
 obtain⟨F,S,Γ,QD,h0,h1,h2,j⟩:=h;exact k F S Γ QD h0 h1 h2 j
structure CnS(K:Fg)(F:Am)(S:Sto)(H:Hp)(E:EndsD)(D':Ends):Prop where
 nx:∀Γ' S' σ' H',Ext S H S' H'->Rp K F S' H'->RepG K (mt S' F) H' Γ' σ'->E.nx Γ' S'->D'.nx σ' H'
 rt:∀v d H' S',Ext S H S' H'->Rp K F S' H'->RepV K (mt S' F) H' d v->E.rt d S'->D'.rt v H'
 bk:∀Γ' S' σ' H',Ext S H S' H'->Rp K F S' H'->RepG K (mt S' F) H' Γ' σ'->E.bk Γ' S'->D'.bk σ' H'
 ct:∀Γ' S' σ' H',Ext S H S' H'->Rp K F S' H'->RepG K (mt S' F) H' Γ' σ'->E.ct Γ' S'->D'.ct σ' H'
theorem CnS.ext{K:Fg}{F:Am}{S S1:Sto}{H H1:Hp}{E:EndsD}{D':Ends}(c:CnS K F S H E D')(x:Ext S H S1 H1):CnS K F S1 H1 E D' :=
 ⟨fun Γ' S' σ' H' y=>c.nx Γ' S' σ' H' (x.trans y),λv d H' S' y=>c.rt v d H' S' (x.trans y),fun Γ' S' σ' H' y=>c.bk Γ' S' σ' H' (x.trans y),fun Γ' S' σ' H' y=>c.ct Γ' S' σ' H' (x.trans y)⟩
def upS(K:Fg)(t:SD):TS:=λD' σ H=>∃F S Γ E,Rp K F S H/\RepG K (mt S F) H Γ σ/\t E Γ S/\CnS K F S H E D'
theorem upS.el{K:Fg}{t:SD}{D':Ends}{σ:St}{H:Hp}{p:Prop}(h:upS K t D' σ H)(k:∀F S Γ E,Rp K F S H->RepG K (mt S F) H Γ σ->t E Γ S->CnS K F S H E D'->p):p:=by
 obtain⟨F,S,Γ,E,h0,h1,h2,j⟩:=h;exact k F S Γ E h0 h1 h2 j
structure PD(K:Fg)(X:Cx)(e:Expr)(t:ED):Prop where
 o:PE X e (upE K t)
structure PTD(K:Fg)(X:Cx)(e:Expr)(t:TD):Prop where
 o:PT X e (upT K t)
structure PAD(K:Fg)(X:Cx)(es:List Expr)(t:AD):Prop where
 o:PA X es (upA K t)
structure PSD(K:Fg)(X:Cx)(st:Stmt)(t:SD):Prop where
 o:PS X st (upS K t)
structure PSsD(K:Fg)(X:Cx)(st:List Stmt)(t:SD):Prop where
 o:PSs X st (upS K t)
section
variable{X:Cx}{K:Fg}
theorem PD.of{e:Expr}{te:TE}{t:ED}(h:PE X e te)(i:∀σ H Q,upE K t σ H Q->te σ H Q):PD K X e t:=⟨λpins s σ H Q I q=>h pins s σ H Q I (i σ H Q q)⟩
theorem PTD.of{e:Expr}{te:TT}{t:TD}(h:PT X e te)(i:∀σ H Q,upT K t σ H Q->te σ H Q):PTD K X e t:=⟨λpins s σ H Q I q=>h pins s σ H Q I (i σ H Q q)⟩
theorem PAD.of{e:List Expr}{te:TA}{t:AD}(h:PA X e te)(i:∀σ H Q,upA K t σ H Q->te σ H Q):PAD K X e t:=⟨λpos pins s σ H Q I q=>h pos pins s σ H Q I (i σ H Q q)⟩
theorem PSD.of{e:Stmt}{te:TS}{t:SD}(h:PS X e te)(i:∀D' σ H,upS K t D' σ H->te D' σ H):PSD K X e t:=⟨λpins s σ H D' I q=>h pins s σ H D' I (i D' σ H q)⟩
theorem PSsD.of{e:List Stmt}{te:TS}{t:SD}(h:PSs X e te)(i:∀D' σ H,upS K t D' σ H->te D' σ H):PSsD K X e t:=⟨λpins s σ H D' I q=>h pins s σ H D' I (i D' σ H q)⟩
def dVar(i:Nat):ED:=fun Γ S Q=>look Γ i λd=>Q d S
def dC(d:D):ED:=λ_ S Q=>Q d S
theorem dv(i:Nat){x:Str}{pos:Pos}(hN:X.N[i]?=some x:=by rfl)(hv:Vis X.env.scope x:=by first|exact bf rfl|exact fw (bf rfl)|exact fw (fw rfl))(hd:(x==("__debug__":Str))=false:=by decide)
  (hcd:(x==("__classdict__":Str))=false:=by decide):PD K X (.Name x pos) (dVar i):=.of (dJl hN hv hd hcd) fun σ H Q j=>j.el λF S Γ QD r g h c=>by
 obtain⟨v,d,e,q,z⟩:=g.look h;exact⟨v,e,c v d H S (Ext.refl _ _) r q z⟩
theorem up_c{d:D}{v:V}(h:∀M H,RepV K M H d v):∀σ H Q,upE K (dC d) σ H Q->tC v σ H Q:=fun σ H Q j=>j.el λF S Γ QD r g q c=>c v d H S (Ext.refl _ _) r (h _ _) q
theorem aQ5{i j pos}:PD K X (.Constant (.int i) j pos) (dC (.int i)):=.of dJm (up_c λ_ _=>by unfold RepV;rfl)
theorem e_bl{b j pos}:PD K X (.Constant (.bool b) j pos) (dC (.bl b)):=.of eJ4 (up_c λ_ _=>by unfold RepV;rfl)
theorem cJe{j pos}:PD K X (.Constant .none j pos) (dC .non):=.of dJn (up_c λ_ _=>by unfold RepV;rfl)
theorem aXe{x j pos}:PD K X (.Constant (.str x) j pos) (dC (.str x)):=.of dJo (up_c λ_ _=>by unfold RepV;rfl)
theorem e_ty{x:Str}{n:String}{pos:Pos}(hg:Gl X x)(hm:X.mg x=none)(hv:bg x=some (.type n))(hn:x ≠ "__name__":=by decide)(hd:(x==("__debug__":Str))=false:=by decide):PD K X (.Name x pos) (dC (.ty n)) :=
 .of (eJk hg hm hv hn hd) (up_c λ_ _=>by unfold RepV;rfl)
def Cn(K:Fg)(F:Am)(S:Sto)(H:Hp)(QD:DK)(Q:VK):Prop:=∀v d H' S',Ext S H S' H'->Rp K F S' H'->RepV K (mt S' F) H' d v->QD d S'->Q v H'
abbrev R2D:=D->D->Sto->DK->Prop
def OpD(K:Fg)(r:R2)(rd:R2D):Prop:=∀F S H d e x y Q QD,Rp K F S H->RepV K (mt S F) H d x->RepV K (mt S F) H e y->rd d e S QD->Cn K F S H QD Q->r x y H Q
def dOp(rd:R2D)(ta tb:ED):ED:=fun Γ S Q=>ta Γ S λx S1=>tb Γ S1 λy S2=>rd x y S2 Q
theorem cJf{r:R2}{rd:R2D}{ta tb:ED}(h:OpD K r rd):∀σ H Q,upE K (dOp rd ta tb) σ H Q->tOp r (upE K ta) (upE K tb) σ H Q:=fun σ H Q D=>D.el λF S Γ QD r g q c =>
 ⟨F,S,Γ,_,r,g,q,λx d H1 S1 B N v1 U=>⟨F,S1,Γ,_,N,g.ext B,U,λy e H2 Z j L v2 O=>h F Z H2 d e x y Q QD L (v1.ext j) v2 O λv z H3 Y J=>c v z H3 Y (B.trans (j.trans J))⟩⟩
theorem e_op{op:Operator}{r:R2}{rd:R2D}{a b:Expr}{ta tb:ED}{pos:Pos}(ho:OpR X (dU op) r)(h:OpD K r rd)(ha:PD K X a ta)(hb:PD K X b tb):PD K X (.BinOp a op b pos) (dOp rd ta tb):=.of (eJc ho ha.o hb.o) (cJf h)
theorem eZ5{op:CmpOp}{r:R2}{rd:R2D}{a b:Expr}{ta tb:ED}{pos:Pos}(ho:OpR X (cN op) r)(h:OpD K r rd)(ha:PD K X a ta)(hb:PD K X b tb)(hm:dA op b=false):PD K X (.Compare a [op] [b] pos) (dOp rd ta tb):=.of (dZ5 ho ha.o hb.o hm) (cJf h)
def aXf(t:ED):TD:=fun Γ S Q=>t Γ S λd S1=>∃b,d=.bl b/\Q b S1
theorem eZ6{r:R2}{rd:R2D}{ta tb:ED}(h:OpD K r rd):∀ σ H Q,upT K (aXf (dOp rd ta tb)) σ H Q->eQ6 (tOp r (upE K ta) (upE K tb)) σ H Q:=fun σ H Q q=>cJf (rd:=rd) h σ H _ (by
 obtain⟨F,S,Γ,QD,r,g,q,c⟩:=q;refine⟨F,S,Γ,_,r,g,q,λv d H1 D j z v1 ⟨b,e,B⟩=>?_⟩;subst e;unfold RepV at v1;exact⟨b,v1,c b H1 D j z B⟩)
theorem aJi{op:CmpOp}{r:R2}{rd:R2D}{a b:Expr}{ta tb:ED}{pos:Pos}(ho:OpR X (cN op) r)(h:OpD K r rd)(ha:PD K X a ta)(hb:PD K X b tb)(hm:dA op b=false):PTD K X (.Compare a [op] [b] pos) (aXf (dOp rd ta tb)):=.of (dZ6 ho ha.o hb.o hm) (eZ6 h)
end
end L2
set_option maxHeartbeats 4000000
namespace L2
open PySem PySem.Spec PyProof.Rows
section
variable{K:Fg}{F:Am}{S:Sto}{H:Hp}{QD:DK}{Q:VK}
theorem Cn.here(c:Cn K F S H QD Q)(r:Rp K F S H){d:D}{v:V}(h:RepV K (mt S F) H d v)(q:QD d S):Q v H:=c v d H S (Ext.refl _ _) r h q
theorem Cn.int(c:Cn K F S H QD Q)(r:Rp K F S H){i:Int}(q:QD (.int i) S):Q (.int i) H:=c.here r (by unfold RepV;rfl) q
theorem Cn.str(c:Cn K F S H QD Q)(r:Rp K F S H){i:Str}(q:QD (.str i) S):Q (.str i) H:=c.here r (by unfold RepV;rfl) q
theorem Cn.bl(c:Cn K F S H QD Q)(r:Rp K F S H){i:Bool}(q:QD (.bl i) S):Q (.bl i) H:=c.here r (by unfold RepV;rfl) q
theorem Rp.nmt(r:Rp K F S H){a:Addr}(h:H a=none):¬ mt S F a:=λz=>by
 rcases z with z|z
 ·exact z (r.sn h)
 ·obtain⟨⟨zs,e,_⟩,_⟩:=r.frm a z;rw[h] at e;cases e
theorem Cn.tup(c:Cn K F S H QD Q)(r:Rp K F S H){l:Addr}(h:H l=none){ds:List D}{xs:List V}(rl:RepL K (mt S F) H ds xs)(q:QD (.tup ds) S):Q (.ref l) (upd H l (.tup xs)):=by
 have x:Ext S H S (upd H l (.tup xs)):=Ext.same (aZs h);refine c _ _ _ S x (r.same (aZs h)) ?_ q;unfold RepV;exact⟨l,xs,rfl,.inl ⟨r.nmt h,.inl aQ7⟩,rl.ext x⟩
theorem Cn.lst(c:Cn K F S H QD Q)(r:Rp K F S H){l:Addr}(h:H l=none){ds:List D}{xs:List V}(rl:RepL K (mt S F) H ds xs)(q:QD (.lst ds) S):Q (.ref l) (upd H l (.lst xs)):=by
 have x:Ext S H S (upd H l (.lst xs)):=Ext.same (aZs h);refine c _ _ _ S x (r.same (aZs h)) ?_ q;unfold RepV;exact⟨l,xs,rfl,.inl ⟨r.nmt h,.inl aQ7⟩,rl.ext x⟩
theorem Cn.lstR(c:Cn K F S H QD Q)(r:Rp K F S H){l:Addr}(h:H l=none){ds:List D}{xs:List V}(rl:RepL K (mt S F) H ds xs)(q:QD (.ref l) (supd S l (.lst ds))):Q (.ref l) (upd H l (.lst xs)):=by
 have x:Ext S H (supd S l (.lst ds)) (upd H l (.lst xs)):=Ext.mk' h;exact c _ _ _ _ x (r.mk' h ⟨xs,aQ7,rl.ext x⟩) (by unfold RepV;rfl) q
def newL(b:Bool)(ds:List D)(S:Sto)(Q:DK):Prop:=match b with
 |false=>Q (.lst ds) S
 |true=>∀p,S p=none->Q (.ref p) (supd S p (.lst ds))
theorem Cn.new(c:Cn K F S H QD Q)(r:Rp K F S H){b:Bool}{l:Addr}(h:H l=none){ds:List D}{xs:List V}(rl:RepL K (mt S F) H ds xs)(q:newL b ds S QD):Q (.ref l) (upd H l (.lst xs)):=by
 cases b with
 |false=>exact c.lst r h rl q
 |true=>exact c.lstR r h rl (q l (r.sn h))
def lsIs(S:Sto):D->List D->Prop
 |.lst ys,xs=>ys=xs
 |.ref a,xs=>S a=some (.lst xs)
 |_,_=>False
def sqIs(S:Sto):D->List D->Prop
 |.tup ys,xs=>ys=xs
 |.lst ys,xs=>ys=xs
 |.ref a,xs=>S a=some (.lst xs)
 |_,_=>False
theorem lsIs.sl(r:Rp K F S H){d:D}{v:V}{ds:List D}(h:RepV K (mt S F) H d v)(l:lsIs S d ds):∃a xs,v=.ref a/\SqL K H a xs/\RepL K (mt S F) H ds xs:=by
 cases d with
 |lst ys =>
  cases l;unfold RepV at h;obtain⟨a,xs,e,q,z⟩:=h;exact⟨a,xs,e,q.sq,z⟩
 |ref a =>
  unfold RepV at h;obtain⟨xs,e,z⟩:=r.obj a _ l;exact⟨a,xs,h,SqL.of e,z⟩
 |_=>exact l.elim
theorem tup.st{ds:List D}{v:V}(h:RepV K (mt S F) H (.tup ds) v):∃a xs,v=.ref a/\SqT K H a xs/\RepL K (mt S F) H ds xs:=by
 unfold RepV at h;obtain⟨a,xs,e,t,z⟩:=h;exact⟨a,xs,e,t.sq,z⟩
theorem sqIs.sq(r:Rp K F S H){d:D}{v:V}{ds:List D}(h:RepV K (mt S F) H d v)(l:sqIs S d ds):∃a xs,v=.ref a/\(SqL K H a xs\/SqT K H a xs)/\RepL K (mt S F) H ds xs:=by
 cases d with
 |tup ys =>
  cases l;obtain⟨a,xs,e,t,z⟩:=tup.st h;exact⟨a,xs,e,.inr t,z⟩
 |lst ys =>
  obtain⟨a,xs,e,t,z⟩:=lsIs.sl r h (show lsIs S (.lst ys) ds from l)
  exact⟨a,xs,e,.inl t,z⟩
 |ref a =>
  obtain⟨a,xs,e,t,z⟩:=lsIs.sl r h (show lsIs S (.ref a) ds from l)
  exact⟨a,xs,e,.inl t,z⟩
 |_=>exact l.elim
theorem rint{i:Int}{v:V}(h:RepV K (mt S F) H (.int i) v):v=.int i:=by unfold RepV at h;exact h
theorem rstr{i:Str}{v:V}(h:RepV K (mt S F) H (.str i) v):v=.str i:=by unfold RepV at h;exact h
theorem rbl{i:Bool}{v:V}(h:RepV K (mt S F) H (.bl i) v):v=.bl i:=by unfold RepV at h;exact h
theorem rref{i:Addr}{v:V}(h:RepV K (mt S F) H (.ref i) v):v=.ref i:=by unfold RepV at h;exact h
theorem rnon{v:V}(h:RepV K (mt S F) H .non v):v=.non:=by unfold RepV at h;exact h
end
section
variable{X:Cx}{K:Fg}
def eZ7(K:Fg):R2:=λx y H Q=>∃l b xs zs,x=.ref l/\y=.ref b/\SqL K H l xs/\SqL K H b zs/\xs.length+zs.length<=sizeLine/\∀p,H p=none->Q (.ref p) (upd H p (.lst (xs++zs)))
theorem dZs(hK:X.K=K:=by rfl):OpR X (dU .Add) (eZ7 K):=by
 subst hK;intro pins s σ H x y v u Q I rx ry h;obtain⟨l,b,xs,zs,rfl,rfl,hH,hB,hz,q⟩:=h;cases rx;cases ry;obtain⟨its,r,⟨⟨cls,dd,data,sl⟩,n,O,U,hd,D⟩,hz1⟩:=I.list hH;obtain⟨j,N,⟨⟨Y,dd2,data2,L⟩,Z,B,J,hd2,z⟩,hz2⟩:=I.list hB;simp only at U hd D J hd2 z;subst U hd D J hd2 z;have h1:=r.length;have h2:=N.length;refine iQ ⟨_,O,rfl⟩ ⟨_,B,rfl⟩ noFill_list_add seq_list_add PySem.F.slot_list_add PySem.F.entry_list_add (PySem.F.args_list_add_2 _ _)
  (list_addW l b its.toArray j.toArray n Z none none sl L (by rw[aq,aq];lia)) ⟨O,B,?_⟩
 have ea:its.toArray++j.toArray=(its++j).toArray:=by simp
 rw[ea];exact⟨.ref _,_,I.lnew (t':=s.toks) (r.append N) (by rw[aB];lia),rfl,q _ I.fresh⟩
def eZ8(K:Fg):R2:=λx y H Q=>∃a b ys,x=.ref a/\y=.ref b/\SqT K H a []/\SqT K H b ys/\Q (.ref b) H
theorem dZt(hK:X.K=K:=by rfl):OpR X (dU .Add) (eZ8 K):=by
 subst hK;intro pins s σ H x y v u Q I rx ry h;obtain⟨a,b,ys,rfl,rfl,ha,Z,q⟩:=h;cases rx;cases ry;obtain⟨its,r1,U,_⟩:=I.tuple ha;obtain⟨J,r2,p2,_⟩:=I.tuple Z;cases r1;obtain⟨⟨cls,dd,data,sl⟩,L,N,n,hd⟩:=id U;obtain⟨⟨O,D,data2,B⟩,j,z,Y,hd2⟩:=id p2;simp only at N hd z hd2;subst N hd z hd2;exact iQ ⟨_,L,rfl⟩ ⟨_,j,rfl⟩ iy seq_tuple_add fF fx (e9 _ _)
   (tuple_addW0 a b _ _ n Y dd D sl B rfl) ⟨L,j,⟨.ref b,H,I,rfl,q⟩⟩
def addD(b:Bool):R2D:=λd e S Q=>match d,e with
 |.int i,.int j=>Q (.int (i+j)) S
 |.str x,.str y=>x.length+y.length<=sizeLine/\Q (.str (x++y)) S
 |.tup xs,.tup ys=>xs.length+ys.length<=sizeLine/\Q (.tup (xs++ys)) S
 |d,e=>∃xs ys,lsIs S d xs/\lsIs S e ys/\xs.length+ys.length<=sizeLine/\newL b (xs++ys) S Q
def dZu(K:Fg):R2:=λx y H Q=>rI0 (λi j=>.int (i+j)) x y H Q\/(∃i j,x=.str i/\y=.str j/\i.length+j.length<=sizeLine/\Q (.str (i++j)) H)\/dZc K x y H Q\/eZ8 K x y H Q\/eZ7 K x y H Q
theorem dZv(hK:X.K=K:=by rfl):OpR X (dU .Add) (dZu K):=op_add.or (op_add_str.or ((cJa hK).or ((dZt hK).or (dZs hK))))
theorem eZ9{b:Bool}:OpD K (dZu K) (addD b):=by
 intro F S H d e x y Q QD r hd he h c;have lists:(∃xs ys,lsIs S d xs/\lsIs S e ys/\xs.length+ys.length<=sizeLine/\newL b (xs++ys) S QD)->dZu K x y H Q:=by
  rintro⟨xs,ys,N,L,O,q⟩;obtain⟨a,us,rfl,s1,B⟩:=lsIs.sl r hd N;obtain⟨a2,us2,rfl,s2,p2⟩:=lsIs.sl r he L;exact .inr (.inr (.inr (.inr ⟨a,a2,us,us2,rfl,rfl,s1,s2,by rw[B.length,p2.length];exact O,λp D=>c.new r D (B.app p2) q⟩)))
 cases d with
 |int i =>
  cases e with
  |int j=>rw[rint hd,rint he];exact .inl ⟨i,j,rfl,rfl,c.int r h⟩
  |_=>exact lists h
 |str i =>
  cases e with
  |str j=>rw[rstr hd,rstr he];exact .inr (.inl ⟨i,j,rfl,rfl,h.1,c.str r h.2⟩)
  |_=>exact lists h
 |tup xs =>
  cases e with
  |tup ys =>
   obtain⟨a,us,rfl,s1,B⟩:=tup.st hd;obtain⟨a2,us2,rfl,s2,p2⟩:=tup.st he
   by_cases J:xs=[]
   ·subst J;unfold RepL at B;subst B;exact .inr (.inr (.inr (.inl ⟨a,a2,us2,rfl,rfl,s1,s2,c.here r he (by simpa using h.2)⟩)))
   ·refine .inr (.inr (.inl ⟨a,a2,us,us2,rfl,rfl,s1,s2,λz=>J ?_,by rw[B.length,p2.length];exact h.1,λz=>?_,λ_ p D=>c.tup r D (B.app p2) h.2⟩))
    ·have:=B.length;rw[z] at this;exact bL this.symm
    ·have h0:ys=[]:=by have:=p2.length;rw[z] at this;exact bL this.symm
     subst h0;exact c.here r hd (by simpa using h.2)
  |_=>exact lists h
 |_=>exact lists h
def iiD(C:Int->Int->Prop)(g:Int->Int->D):R2D:=λd e S Q=>match d,e with
 |.int i,.int j=>C i j/\Q (g i j) S
 |_,_=>False
theorem od_I{C:Int->Int->Prop}{g:Int->Int->Int}:OpD K (rI C λi j=>.int (g i j)) (iiD C λi j=>.int (g i j)):=by
 intro F S H d e x y Q QD r hd he h c;cases d with
 |int i =>
  cases e with
  |int j=>rw[rint hd,rint he];exact⟨i,j,rfl,rfl,h.1,c.int r h.2⟩
  |_=>exact h.elim
 |_=>exact h.elim
def iiD0(g:Int->Int->D):R2D:=λd e S Q=>match d,e with
 |.int i,.int j=>Q (g i j) S
 |_,_=>False
theorem eJn{g:Int->Int->Int}:OpD K (rI0 λi j=>.int (g i j)) (iiD0 λi j=>.int (g i j)):=by
 intro F S H d e x y Q QD r hd he h c;cases d with
 |int i =>
  cases e with
  |int j=>rw[rint hd,rint he];exact⟨i,j,rfl,rfl,c.int r h⟩
  |_=>exact h.elim
 |_=>exact h.elim
theorem eZa{g:Int->Int->Bool}:OpD K (rI0 λi j=>.bl (g i j)) (iiD0 λi j=>.bl (g i j)):=by
 intro F S H d e x y Q QD r hd he h c;cases d with
 |int i =>
  cases e with
  |int j=>rw[rint hd,rint he];exact⟨i,j,rfl,rfl,c.bl r h⟩
  |_=>exact h.elim
 |_=>exact h.elim
section
variable{a b:Expr}{ta tb:ED}{pos:Pos}
theorem aZ0{k:Bool}(ha:PD K X a ta)(hb:PD K X b tb)(hK:X.K=K:=by rfl):PD K X (.BinOp a .Add b pos) (dOp (addD k) ta tb):=e_op (dZv hK) eZ9 ha hb
theorem eZb(ha:PD K X a ta)(hb:PD K X b tb):PD K X (.BinOp a .Sub b pos) (dOp (iiD0 λi j=>.int (i-j)) ta tb):=e_op eQ1 eJn ha hb
theorem cJg(ha:PD K X a ta)(hb:PD K X b tb):PD K X (.BinOp a .Mult b pos) (dOp (iiD CMul λi j=>.int (i*j)) ta tb):=e_op eQ2 od_I ha hb
theorem bZ7(ha:PD K X a ta)(hb:PD K X b tb):PD K X (.BinOp a .Mod b pos) (dOp (iiD (λ_ j=>0<j) λi j=>.int (i%j)) ta tb):=e_op eQ3 od_I ha hb
theorem cZ3(ha:PD K X a ta)(hb:PD K X b tb):PD K X (.BinOp a .FloorDiv b pos) (dOp (iiD CDiv λi j=>.int (i/j)) ta tb):=e_op dZ4 od_I ha hb
theorem eJo(ha:PD K X a ta)(hb:PD K X b tb):PD K X (.BinOp a .Pow b pos) (dOp (iiD CPow λi j=>.int (i^j.toNat)) ta tb):=e_op eQ4 od_I ha hb
end
def dNil:AD:=λ_ S Q=>Q [] S
def bZ8(ta:ED)(tr:AD):AD:=fun Γ S Q=>ta Γ S λx S1=>tr Γ S1 λxs S2=>Q (x::xs) S2
theorem aQ1:PAD K X [] dNil:=.of dQa fun σ H Q j=>j.el λF S Γ QD r g q c=>c [] [] H S (Ext.refl _ _) r RepL.nil q
theorem aQ0{e:Expr}{es:List Expr}{te:ED}{t:AD}(ha:PD K X e te)(hr:PAD K X es t)(hs:av (e::es) X.env=(false,eval e X.env)::av es X.env:=by rfl):PAD K X (e::es) (bZ8 te t) :=
 .of (cQ8 ha.o hr.o hs) fun σ H Q B=>B.el λF S Γ QD r g q c=>⟨F,S,Γ,_,r,g,q,λv d H1 Y z L v1 O=>⟨F,Y,Γ,_,L,g.ext z,O,λD ds H2 U j J v2 N=>c (v::D) (d::ds) H2 U (z.trans j) J (RepL.cons (v1.ext j) v2) N⟩⟩
def dTup(t:AD):ED:=fun Γ S Q=>t Γ S λds S1=>ds.length<=sizeLine/\Q (.tup ds) S1
def dLst(b:Bool)(t:AD):ED:=fun Γ S Q=>t Γ S λds S1=>ds.length<=sizeLine/\newL b ds S1 Q
theorem Cn.shift{F:Am}{S S1:Sto}{H H1:Hp}{QD:DK}{Q:VK}(c:∀v d H' S',Ext S H S' H'->Rp K F S' H'->RepV K (mt S' F) H' d v->QD d S'->Q v H')(x:Ext S H S1 H1):Cn K F S1 H1 QD Q:=λv z D B j=>c v z D B (x.trans j)
theorem aXu{es:List Expr}{t:AD}{x1 pos}(h:PAD K X es t):PD K X (.Tuple es x1 pos) (dTup t):=.of (eQ9 h.o) fun σ H Q z=>z.el λF S Γ QD r g q c =>
 ⟨F,S,Γ,_,r,g,q,λJ ds H1 L x1 B v1 j=>⟨by rw[v1.length];exact j.1,λp D=>(Cn.shift c x1).tup B D v1 j.2⟩⟩
theorem aZa{b:Bool}{es:List Expr}{t:AD}{pos}(h:PAD K X es t):PD K X (.List es pos) (dLst b t):=.of (eQa h.o) fun σ H Q z=>z.el λF S Γ QD r g q c =>
 ⟨F,S,Γ,_,r,g,q,λL ds H1 N B D v1 j=>⟨by rw[v1.length];exact j.1,λp J=>(Cn.shift c B).new D J v1 j.2⟩⟩
abbrev RCD:=List D->Sto->DK->Prop
def aXv(K:Fg)(r:List V->Hp->VK->Prop)(rd:RCD):Prop:=∀F S H ds vs Q QD,Rp K F S H->RepL K (mt S F) H ds vs->rd ds S QD->Cn K F S H QD Q->r vs H Q
def dCB(rd:RCD)(t:AD):ED:=fun Γ S Q=>t Γ S λds S1=>rd ds S1 Q
theorem eZc{r:List V->Hp->VK->Prop}{rd:RCD}{t:AD}(h:aXv K r rd):∀σ H Q,upE K (dCB rd t) σ H Q->tCB r (upA K t) σ H Q:=fun σ H Q j=>j.el λF S Γ QD r g q c =>
 ⟨F,S,Γ,_,r,g,q,λB ds H1 L z D v1 J=>h F L H1 ds B Q QD D v1 J (Cn.shift c z)⟩
theorem aZb{id:String}{r:List V->Hp->VK->Prop}{rd:RCD}{x:Str}{p pos:Pos}{e:Expr}{es:List Expr}{t:AD}(hc:CallR X (.builtin id) r)(h:aXv K r rd)(hg:Gl X x)(hm:X.mg x=none)(hv:bg x=some (.builtin id))(ha:PAD K X (e::es) t)(hn:x ≠ "__name__":=by decide)(hdb:(x==("__debug__":Str))=false:=by decide)
  (he:av (e::es) X.env=(false,eval e X.env)::av es X.env:=by rfl) (hpl:(bZ pos (av es X.env)).any (·.1)=false:=by rfl):PD K X (.Call (.Name x p) (e::es) [] pos) (dCB rd t):=.of (bXi hc hg hm hv ha.o hn hdb he hpl) (eZc h)
theorem aJ2{T:String}{r:List V->Hp->VK->Prop}{rd:RCD}{x:Str}{p pos:Pos}{e:Expr}{es:List Expr}{t:AD}(hc:CallR X (.type T) r)(h:aXv K r rd)(hg:Gl X x)(hm:X.mg x=none)(hv:bg x=some (.type T))(ha:PAD K X (e::es) t)(hn:x ≠ "__name__":=by decide)(hdb:(x==("__debug__":Str))=false:=by decide)
  (he:av (e::es) X.env=(false,eval e X.env)::av es X.env:=by rfl) (hpl:(bZ pos (av es X.env)).any (·.1)=false:=by rfl):PD K X (.Call (.Name x p) (e::es) [] pos) (dCB rd t):=.of (cQb hc hg hm hv ha.o hn hdb he hpl) (eZc h)
end
mutual
def beqD:D->D->Bool
 |.non,.non=>true
 |.bl a,.bl b=>a==b
 |.int a,.int b=>decide (a=b)
 |.str a,.str b=>decide (a=b)
 |.ty a,.ty b=>decide (a=b)
 |.ref a,.ref b=>decide (a=b)
 |.tup a,.tup b=>bX2 a b
 |.lst a,.lst b=>bX2 a b
 |_,_=>false
def bX2:List D->List D->Bool
 |[],[]=>true
 |a::as,b::bs=>beqD a b&&bX2 as bs
 |_,_=>false
end
theorem bqE{α:Type}[BEq α][LawfulBEq α]{c:α->D}(inj:∀x y,c x=c y->x=y)(x y:α):(x==y)=true↔c x=c y:=⟨λh=>congrArg c (beq_iff_eq.mp h),λh=>beq_iff_eq.mpr (inj x y h)⟩
theorem bdE{α:Type}{c:α->D}(inj:∀x y,c x=c y->x=y)(x y:α){d:Decidable (x=y)}:@decide (x=y) d=true↔c x=c y:=⟨λh=>congrArg c (of_decide_eq_true h),λh=>decide_eq_true (inj x y h)⟩
theorem bnE{p:Prop}(h:¬ p):false=true↔p:=⟨λz=>absurd z dI,λz=>absurd z h⟩
mutual
theorem cZ4:∀{a b:D},beqD a b=true↔a=b
 |.non,b=>by
  cases b with
  |non=>exact⟨λ_=>rfl,λ_=>rfl⟩
  |_=>exact bnE (λh=>by cases h)
 |.bl x,b=>by
  cases b with
  |bl y=>exact bqE (λ_ _ h=>by injection h) x y
  |_=>exact bnE (λh=>by cases h)
 |.int x,b=>by
  cases b with
  |int y=>exact bdE (λ_ _ h=>by injection h) x y
  |_=>exact bnE (λh=>by cases h)
 |.str x,b=>by
  cases b with
  |str y=>exact bdE (λ_ _ h=>by injection h) x y
  |_=>exact bnE (λh=>by cases h)
 |.ty x,b=>by
  cases b with
  |ty y=>exact bdE (λ_ _ h=>by injection h) x y
  |_=>exact bnE (λh=>by cases h)
 |.ref x,b=>by
  cases b with
  |ref y=>exact bdE (λ_ _ h=>by injection h) x y
  |_=>exact bnE (λh=>by cases h)
 |.tup as,b=>by
  cases b with
  |tup bs=>exact beqDs_eq.trans ⟨λh=>congrArg D.tup h,λh=>by injection h⟩
  |_=>exact bnE (λh=>by cases h)
 |.lst as,b=>by
  cases b with
  |lst bs=>exact beqDs_eq.trans ⟨λh=>congrArg D.lst h,λh=>by injection h⟩
  |_=>exact bnE (λh=>by cases h)
theorem beqDs_eq:∀{a b:List D},bX2 a b=true↔a=b
 |[],b=>by cases b <;> simp[bX2]
 |a::as,[]=>by simp[bX2]
 |a::as,b::bs=>by
  simp only[bX2,a4,List.cons.injEq];rw[cZ4,beqDs_eq]
end
instance:DecidableEq D:=λa b=>decidable_of_iff _ (cZ4 (a:=a) (b:=b))
def okE:Nat->D->D->Bool
 |_,.int _,.int _=>true
 |_,.str _,.str _=>true
 |_,.bl _,.bl _=>true
 |_,.non,.non=>true
 |_,.non,.int _=>true
 |_,.int _,.non=>true
 |_,.non,.str _=>true
 |_,.str _,.non=>true
 |n+1,.non,.tup _=>true
 |n+1,.tup _,.non=>true
 |n+1,.tup xs,.tup ys=>(xs.zip ys).all λp=>okE n p.1 p.2
 |n+1,.lst xs,.lst ys=>(xs.zip ys).all λp=>okE n p.1 p.2
 |_,_,_=>false
abbrev okEs(n:Nat)(xs ys:List D):Bool:=(xs.zip ys).all λp=>okE n p.1 p.2
section
variable{X:Cx}{pins:List (Addr×Obj)}{σ:St}{H:Hp}{s:ah}{M:Am}
structure Eq3(A:aO)(s:ah)(u v:ad)(b:Bool):Prop where
 eq:cq A s u v b
 rc:SeqAt.RcAt A s u v b
 ne:cf A s u v (!b)
theorem dZw{xs ys:List D}:decide (D.tup xs=D.tup ys)=decide (xs=ys):=by simp
theorem dZx{xs ys:List D}:decide (D.lst xs=D.lst ys)=decide (xs=ys):=by simp
theorem dZy{xs ys:List D}{j:Nat}{a b:D}(h1:xs[j]?=some a)(h2:ys[j]?=some b):(a,b)∈xs.zip ys:=by
 have J:j<xs.length:=by
  rcases Nat.lt_or_ge j xs.length with z|z
  ·exact z
  ·rw[bK z] at h1;cases h1
 have B:j<ys.length:=by
  rcases Nat.lt_or_ge j ys.length with z|z
  ·exact z
  ·rw[bK z] at h2;cases h2
 have O:xs[j]=a:=by rw[ag J] at h1;exact aM h1
 have N:ys[j]=b:=by rw[ag B] at h2;exact aM h2
 have L:j<(xs.zip ys).length:=by rw[List.length_zip];lia
 have:(xs.zip ys)[j]=(a,b):=by rw[List.getElem_zip,O,N]
 rw[<- this];exact db L
theorem dQm{n:Nat}{xs ys:List V}{us vs:List ad}{ds es:List D}{A:aO}(p:RepL X.K M H ds xs)(p':RepL X.K M H es ys)(r:Vals xs us)(r':Vals ys vs)(hz:okEs n ds es=true)
  (ih:∀{d e:D}{x y:V}{u v:ad},RepV X.K M H d x->RepV X.K M H e y->RelV x u->RelV y v->okE n d e=true->Eq3 A s u v (decide (d=e))) :
  ∀j (h1:j<us.toArray.size) (h2:j<vs.toArray.size),cq A s us.toArray[j] vs.toArray[j] (decide (ds[j]?=es[j]?)):=by
 intro j h1 h2;simp only[aq] at h1 h2;have L:j<xs.length:=by have:=r.length;lia
 have J:j<ys.length:=by have:=r'.length;lia
 obtain⟨d,U,rd⟩:=p.get' (ag L);obtain⟨e,O,re⟩:=p'.get' (ag J);obtain⟨u,N,Z⟩:=r.get (ag L);obtain⟨v,ev,Y⟩:=r'.get (ag J);have B:us[j]=u:=by rw[ag h1] at N;exact aM N
 have z:vs[j]=v:=by rw[ag h2] at ev;exact aM ev
 have:decide (ds[j]?=es[j]?)=decide (d=e):=by rw[U,O];simp
 rw[this];simp only[List.getElem_toArray];rw[B,z];exact(ih rd re Z Y (bI.mp hz _ (dZy U O))).eq
theorem dQn{n:Nat}{a b:Addr}{xs ys:List V}{ds es:List D}{A:aO}(I:Inv X pins σ H s)(q:SqL X.K H a xs)(q':SqL X.K H b ys)(p:RepL X.K M H ds xs)(p':RepL X.K M H es ys)(hz:okEs n ds es=true)(hu:A.units+(n+1)<bU)
  (ih:∀{d e:D}{x y:V}{u v:ad},RepV X.K M H d x->RepV X.K M H e y->RelV x u->RelV y v->okE n d e=true->Eq3 A.in1 s u v (decide (d=e))) :
  SeqAt.RcAt A s (.ref a) (.ref b) (decide (ds=es))/\cf A s (.ref a) (.ref b) (!decide (ds=es)):=by
 obtain⟨us,O,pl,_⟩:=I.list q;obtain⟨vs,N,z,_⟩:=I.list q';have l1:=p.length;have l2:=p'.length;have Z:=O.length;have Y:=N.length;have it:=dQm (A:=A.in1) p p' O N hz ih
 by_cases U:ds.length=es.length
 ·have B:us.toArray.size=vs.toArray.size:=by rw[aq,aq];lia
  have L:((bu (us.toArray.size)).all λj=>decide (ds[j]?=es[j]?))=decide (ds=es):=by
   have:=cQo ds es us.toArray.size vs.toArray.size (by rw[aq];lia) (by rw[aq];lia)
   rw[B,Nat.min_self] at this;rw[B,<- this];simp
  have h1:=SeqAt.RcAt.lists (e:=λj=>decide (ds[j]?=es[j]?)) pl.isList z.isList B (show A.units<bU by lia) λj h1 h2=>it j h1 h2
  have h2:=cf.lists (e:=λj=>decide (ds[j]?=es[j]?)) pl.isList z.isList B (show A.units<bU by lia) λj h1 h2=>it j h1 h2
  rw[L] at h1 h2;exact⟨h1,h2⟩
 ·have B:(us.toArray.size !=vs.toArray.size)=true:=by rw[aq,aq];simp;lia
  have J:ds≠es:=λe=>U (by rw[e])
  rw[decide_eq_false J];exact⟨SeqAt.RcAt.lists_lengths pl.isList z.isList B (by lia),cf.lists_lengths pl.isList z.isList B (by lia)⟩
theorem dZz{n:Nat}(ih:∀{d e:D}{v:V},RepV X.K M H d v->RepV X.K M H e v->okE n d e=true->d=e):∀{ds es:List D}{xs:List V},RepL X.K M H ds xs->RepL X.K M H es xs->okEs n ds es=true->ds=es
 |[],[],_,_,_,_=>rfl
 |[],e::es,xs,p,j,_=>by have h1:=p.length;have h2:=j.length;rw[h1] at h2;simp at h2
 |d::ds,[],xs,p,j,_=>by have h1:=p.length;have h2:=j.length;rw[h1] at h2;simp at h2
 |d::ds,e::es,xs,p,j,h=>by
  unfold RepL at p j;obtain⟨v,L,rfl,r,l⟩:=p;obtain⟨N,z,e1,B,J⟩:=j;cases e1;simp only[okEs,cb,ir,a4] at h;rw[ih r B h.1,dZz ih l J h.2]
theorem uniq(I:Inv X pins σ H s):∀(n:Nat) {d e:D}{v:V},RepV X.K M H d v->RepV X.K M H e v->okE n d e=true->d=e:=by
 intro n
 induction n with
 |zero =>
  intro d e v h h' o;cases d <;> cases e <;> first|rfl|(cases o;done)|(unfold RepV at h h';rw[h] at h';cases h';done)|(unfold RepV at h h';rw[h] at h';cases h';rfl)
 |succ n B =>
  intro d e v h h' o;cases d <;> cases e <;> first|rfl|(cases o;done)|(unfold RepV at h h';rw[h] at h';cases h';done)|(unfold RepV at h h';rw[h] at h';cases h';rfl)|skip
  ·unfold RepV at h h';obtain⟨a,xs,e1,_⟩:=h';rw[h] at e1;cases e1
  ·unfold RepV at h h';obtain⟨a,xs,e1,_⟩:=h;rw[h'] at e1;cases e1
  ·unfold RepV at h h';obtain⟨a,xs,rfl,t,l⟩:=h;obtain⟨b,ys,e1,j,z⟩:=h';cases e1
   have:=I.tuple_inj t.sq j.sq
   subst this;rw[dZz B l z o]
  ·unfold RepV at h h';obtain⟨a,xs,rfl,t,l⟩:=h;obtain⟨b,ys,e1,j,z⟩:=h';cases e1
   have:=I.list_inj t.sq j.sq
   subst this;rw[dZz B l z o]
theorem eq3(I:Inv X pins σ H s):∀(n:Nat) {A:aO}{d e:D}{x y:V}{u v:ad},A.units+n<bU->RepV X.K M H d x->RepV X.K M H e y->RelV x u->RelV y v->okE n d e=true->Eq3 A s u v (decide (d=e)):=by
 intro n
 induction n with
 |zero =>
  intro A d e x y u v hu h h' r r' o;cases d <;> cases e <;> first|(cases o;done)|skip
  all_goals unfold RepV at h h';subst h;subst h'
  ·cases r;cases r';exact⟨i7 _,SeqAt.RcAt.none_none,cf.none_none⟩
  ·cases r;obtain⟨t,rfl⟩:=r';exact⟨cq.none_int _ _,SeqAt.RcAt.none_int _ _,cf.none_int _ _⟩
  ·cases r;obtain⟨t,rfl⟩:=r';exact⟨cq.none_str _ _,SeqAt.RcAt.none_str _ _,cf.none_str _ _⟩
  ·cases r;cases r';rw[show ∀a b:Bool,decide (D.bl a=D.bl b)=(a==b) from by intro a b;cases a <;> cases b <;> rfl];exact⟨cq.bool_bool _ _,SeqAt.RcAt.bool_bool _ _,cf.bool_bool _ _⟩
  ·obtain⟨t,rfl⟩:=r;cases r';exact⟨cq.int_none _ _,SeqAt.RcAt.int_none _ _,cf.int_none _ _⟩
  ·obtain⟨t,rfl⟩:=r;obtain⟨L,rfl⟩:=r';rw[show ∀a b:Int,decide (D.int a=D.int b)=(a==b) from by intro a b;rw[beq_dec];simp];exact⟨cq.int_int _ _ _ _,SeqAt.RcAt.int_int _ _ _ _,cf.int_int _ _ _ _⟩
  ·obtain⟨t,rfl⟩:=r;cases r';exact⟨cq.str_none _ _,SeqAt.RcAt.str_none _ _,cf.str_none _ _⟩
  ·obtain⟨t,rfl⟩:=r;obtain⟨L,rfl⟩:=r';rw[show ∀a b:Str,decide (D.str a=D.str b)=(a==b) from by intro a b;rw[beq_dec];simp];exact⟨gS _ _ _ _,SeqAt.RcAt.str_str _ _ _ _,cf.str_str _ _ _ _⟩
 |succ n B =>
  intro A d e x y u v hu h h' r r' o;cases d <;> cases e <;> first|(cases o;done)|skip
  ·exact B (by lia) h h' r r' (by cases n <;> rfl)
  ·exact B (by lia) h h' r r' (by cases n <;> rfl)
  ·exact B (by lia) h h' r r' (by cases n <;> rfl)
  ·unfold RepV at h;subst h;cases r;obtain⟨a,xs,rfl,t,l⟩:=(show RepV X.K M H (.tup _) y from h')
   cases r';obtain⟨us,O,pl,_⟩:=I.tuple t.sq;exact⟨cq.none_tuple pl (by lia),SeqAt.RcAt.none_tuple pl (by lia),cf.none_tuple pl (by lia)⟩
  ·exact B (by lia) h h' r r' (by cases n <;> rfl)
  ·exact B (by lia) h h' r r' (by cases n <;> rfl)
  ·exact B (by lia) h h' r r' (by cases n <;> rfl)
  ·exact B (by lia) h h' r r' (by cases n <;> rfl)
  ·exact B (by lia) h h' r r' (by cases n <;> rfl)
  ·unfold RepV at h';subst h';cases r';obtain⟨a,xs,rfl,t,l⟩:=(show RepV X.K M H (.tup _) x from h)
   cases r;obtain⟨us,O,pl,_⟩:=I.tuple t.sq;exact⟨cq.tuple_none pl (by lia),SeqAt.RcAt.tuple_none pl (by lia),cf.tuple_none pl (by lia)⟩
  ·rename_i ds es;have un:=λ{e:D}=>uniq (e:=e) I (n+1) h;have h0:=h;have J:=h';unfold RepV at h h';obtain⟨a,xs,rfl,t,l⟩:=h;obtain⟨b,ys,rfl,L,U⟩:=h';cases r;cases r';obtain⟨us,O,pl,_⟩:=I.tuple t.sq;obtain⟨vs,rv,N,_⟩:=I.tuple L.sq;have l1:=l.length;have l2:=U.length;have l3:=O.length;have l4:=rv.length;have it:=dQm (A:=A.in1) l U O rv o λq Z z Y o=>B (show A.units+1+n<bU by lia) q Z z Y o
   have ans:=cQo ds es us.toArray.size vs.toArray.size (by rw[aq];lia) (by rw[aq];lia)
   have h1:=SeqAt.RcAt.tuples pl N (show A.units<bU by lia) it
   have h2:=cf.tuples pl N (show A.units<bU by lia) it
   rw[ans] at h1 h2;rw[dZw];refine⟨?_,h1,h2⟩
   by_cases j:a=b
   ·subst j;have e1:=un J o;cases e1;rw[decide_eq_true rfl];exact i7 _
   ·exact jq j h1
  ·have un:=λ{e:D}=>uniq (e:=e) I (n+1) h;have J:=h';unfold RepV at h h';obtain⟨a,xs,rfl,t,l⟩:=h;obtain⟨b,ys,rfl,L,U⟩:=h';cases r;cases r';obtain⟨h1,h2⟩:=dQn (A:=A) (n:=n) I t.sq L.sq l U o hu λq Z z Y o=>B (show A.units+1+n<bU by lia) q Z z Y o
   rw[dZx];refine⟨?_,h1,h2⟩
   by_cases j:a=b
   ·subst j;have e1:=un J o;cases e1;rw[decide_eq_true rfl];exact i7 _
   ·exact jq j h1
def eqD(neg:Bool):R2D:=λd e S Q=>match d,e with
 |.ref a,e=>∃xs ys,S a=some (.lst xs)/\lsIs S e ys/\okEs 8 xs ys=true/\Q (.bl (if neg then !decide (xs=ys) else decide (xs=ys))) S
 |.lst xs,.ref a=>∃ys,S a=some (.lst ys)/\okEs 8 xs ys=true/\Q (.bl (if neg then !decide (xs=ys) else decide (xs=ys))) S
 |d,e=>okE 9 d e=true/\Q (.bl (if neg then !decide (d=e) else decide (d=e))) S
def rEqA(K:Fg)(neg:Bool):R2:=λx y H Q=>∃b,(∀{X:Cx}{pins:List (Addr×Obj)}{σ:St}{s:ah},Inv X pins σ H s->X.K=K->∀{u v:ad},RelV x u->RelV y v->∀A:aO,A.units+9<bU->SeqAt.RcAt A s u v b/\cf A s u v (!b))/\Q (.bl (if neg then !b else b)) H
theorem dQo{K:Fg}(hu:X.A.units+9<bU)(hK:X.K=K:=by rfl):OpR X (cN .Eq) (rEqA K false):=by
 intro pins s σ H x y v u Q I z j ⟨b,h,q⟩;exact(h I hK z j X.A hu).1 _ _ _ _ ⟨.bl b,H,I,rfl,q⟩
theorem eZd{K:Fg}(hu:X.A.units+9<bU)(hK:X.K=K:=by rfl):OpR X (cN .NotEq) (rEqA K true):=by
 intro pins s σ H x y v u Q I z j ⟨b,h,q⟩;exact(h I hK z j X.A hu).2 _ _ _ _ ⟨.bl (!b),H,I,rfl,q⟩
theorem dX0{K:Fg}{neg:Bool}:OpD K (rEqA K neg) (eqD neg):=by
 intro F S H d e x y Q QD r hd he h c;have lists:∀{xs ys:List D},lsIs S d xs->lsIs S e ys->okEs 8 xs ys=true->QD (.bl (if neg then !decide (xs=ys) else decide (xs=ys))) S->rEqA K neg x y H Q:=by
  intro xs ys Z Y o q;obtain⟨a,us,rfl,s1,U⟩:=lsIs.sl r hd Z;obtain⟨a2,us2,rfl,s2,p2⟩:=lsIs.sl r he Y;refine⟨_,λ{X pins σ s} I j u v ru rv A B=>?_,c.bl r q⟩;subst j;cases ru;cases rv;exact dQn I s1 s2 U p2 o B λq O z N o=>eq3 I 8 (show A.units+1+8<bU by lia) q O z N o
 have plain:okE 9 d e=true->QD (.bl (if neg then !decide (d=e) else decide (d=e))) S->rEqA K neg x y H Q:=by
  intro o q;refine⟨_,λ{X pins σ s} I j u v ru rv A B=>?_,c.bl r q⟩;subst j
  have:=eq3 I 9 B hd he ru rv o
  exact⟨this.rc,this.ne⟩
 cases d with
 |ref a=>obtain⟨xs,ys,h1,h2,L,J⟩:=h;exact lists h1 h2 L J
 |lst xs =>
  cases e with
  |ref a=>obtain⟨ys,h2,L,J⟩:=h;exact lists rfl h2 L J
  |_=>exact plain h.1 h.2
 |_=>exact plain h.1 h.2
mutual
def plain:D->Bool
 |.non=>true
 |.bl _=>true
 |.int _=>true
 |.str _=>true
 |.tup xs=>aQt xs
 |_=>false
def aQt:List D->Bool
 |[]=>true
 |x::xs=>plain x&&aQt xs
end
mutual
theorem bXp(I:Inv X pins σ H s):∀{d e:D}{v:V},plain d=true->plain e=true->RepV X.K M H d v->RepV X.K M H e v->d=e
 |.tup ds,e,v,p,p',h,h'=>by
  cases e with
  |tup es =>
   unfold RepV at h h';obtain⟨a,xs,rfl,t,l⟩:=h;obtain⟨b,ys,e1,j,z⟩:=h';cases e1
   have:=I.tuple_inj t.sq j.sq
   subst this;unfold plain at p p';rw[bZ9 I p p' l z]
  |lst _=>cases p'
  |ref _=>cases p'
  |ty _=>cases p'
  |_ =>
   unfold RepV at h h';obtain⟨a,xs,e1,_⟩:=h;rw[h'] at e1;cases e1
 |.non,e,v,p,p',h,h'=>by
  cases e <;> first|rfl|(cases p';done)|(unfold RepV at h h';rw[h] at h';cases h';done)|(unfold RepV at h h';obtain⟨a,xs,e1,_⟩:=h';rw[h] at e1;cases e1)
 |.bl _,e,v,p,p',h,h'=>by
  cases e <;> first|(cases p';done)|(unfold RepV at h h';rw[h] at h';cases h';done)|(unfold RepV at h h';rw[h] at h';cases h';rfl)|(unfold RepV at h h';obtain⟨a,xs,e1,_⟩:=h';rw[h] at e1;cases e1)
 |.int _,e,v,p,p',h,h'=>by
  cases e <;> first|(cases p';done)|(unfold RepV at h h';rw[h] at h';cases h';done)|(unfold RepV at h h';rw[h] at h';cases h';rfl)|(unfold RepV at h h';obtain⟨a,xs,e1,_⟩:=h';rw[h] at e1;cases e1)
 |.str _,e,v,p,p',h,h'=>by
  cases e <;> first|(cases p';done)|(unfold RepV at h h';rw[h] at h';cases h';done)|(unfold RepV at h h';rw[h] at h';cases h';rfl)|(unfold RepV at h h';obtain⟨a,xs,e1,_⟩:=h';rw[h] at e1;cases e1)
 |.ty _,e,v,p,p',h,h'=>by cases p
 |.ref _,e,v,p,p',h,h'=>by cases p
 |.lst _,e,v,p,p',h,h'=>by cases p
theorem bZ9(I:Inv X pins σ H s):∀{ds es:List D}{vs:List V},aQt ds=true->aQt es=true->RepL X.K M H ds vs->RepL X.K M H es vs->ds=es
 |[],es,vs,p,z,l,j=>by
  have h1:=l.length;have h2:=j.length;rw[h1] at h2;exact(bL h2.symm).symm
 |d::ds,[],vs,p,z,l,j=>by have h1:=l.length;have h2:=j.length;rw[h1] at h2;simp at h2
 |d::ds,e::es,vs,p,z,l,j=>by
  unfold RepL at l j;obtain⟨v,vs,rfl,r,l⟩:=l;obtain⟨L,B,e1,J,j⟩:=j;cases e1;simp only[aQt,a4] at p z;rw[bXp I p.1 z.1 r J,bZ9 I p.2 z.2 l j]
end
theorem aXg:∀{ds:List D},aQt ds=true->∀d∈ds,plain d=true
 |[],_,d,h=>by cases h
 |x::ds,p,d,h=>by
  simp only[aQt,a4] at p;rcases aQ.mp h with rfl|h
  ·exact p.1
  ·exact aXg p.2 d h
def rInA(K:Fg)(neg:Bool):R2:=λx y H Q=>∃p xs b,y=.ref p/\(SqL K H p xs\/SqT K H p xs) /\
 (∀{X:Cx}{pins:List (Addr×Obj)}{σ:St}{s:ah},Inv X pins σ H s->X.K=K->∀{v:ad}{us:List ad},RelV x v->Vals xs us->∀A:aO,A.units+9<bU->∃f:ad->Bool,(∀u∈us,cq A s u v (f u))/\us.any f=b)/\Q (.bl (if neg then !b else b)) H
theorem dQp{K:Fg}(hu:X.A.units+10<bU)(hK:X.K=K:=by rfl):OpR X (cN .In) (rInA K false):=by
 intro pins s σ H x y v u Q I z ry h;obtain⟨p,xs,b,rfl,j,hf,q⟩:=h;cases ry;rw[<- hK] at j;rcases j with j|j
 ·obtain⟨its,r,pl,B⟩:=I.list j;obtain⟨f,f1,f2⟩:=hf I hK z r X.A.in1 (show X.A.units+1+9<bU by lia)
  refine SeqAt.in_listAt f pl.isList (λw hw=>f1 w (by simpa using hw)) ⟨.bl _,H,I,rfl,?_⟩
  rw[show its.toArray.any f=its.any f by simp,f2]
  exact q
 ·obtain⟨its,r,pl,B⟩:=I.tuple j;obtain⟨f,f1,f2⟩:=hf I hK z r X.A.in1 (show X.A.units+1+9<bU by lia)
  refine SeqAt.in_tupleAt f pl (λw hw=>f1 w (by simpa using hw)) ⟨.bl _,H,I,rfl,?_⟩
  rw[show its.toArray.any f=its.any f by simp,f2]
  exact q
theorem dX1{K:Fg}(hu:X.A.units+10<bU)(hK:X.K=K:=by rfl):OpR X (cN .NotIn) (rInA K true):=by
 intro pins s σ H x y v u Q I z ry h;obtain⟨p,xs,b,rfl,j,hf,q⟩:=h;cases ry;rw[<- hK] at j;rcases j with j|j
 ·obtain⟨its,r,pl,B⟩:=I.list j;obtain⟨f,f1,f2⟩:=hf I hK z r X.A.in1 (show X.A.units+1+9<bU by lia)
  refine SeqAt.notIn_listAt f pl.isList (λw hw=>f1 w (by simpa using hw)) ⟨.bl _,H,I,rfl,?_⟩
  rw[show its.toArray.any f=its.any f by simp,f2]
  exact q
 ·obtain⟨its,r,pl,B⟩:=I.tuple j;obtain⟨f,f1,f2⟩:=hf I hK z r X.A.in1 (show X.A.units+1+9<bU by lia)
  refine SeqAt.notIn_tupleAt f pl (λw hw=>f1 w (by simpa using hw)) ⟨.bl _,H,I,rfl,?_⟩
  rw[show its.toArray.any f=its.any f by simp,f2]
  exact q
def inD(neg:Bool):R2D:=λd e S Q=>∃xs,sqIs S e xs/\aQt xs=true/\(xs.all λy=>okE 8 y d)=true/\Q (.bl (if neg then !decide (d∈xs) else decide (d∈xs))) S
theorem eZe(I:Inv X pins σ H s){d:D}{x:V}{v:ad}(rx:RelV x v)(hd:RepV X.K M H d x){A:aO}(hA:A.units+9<bU):∀{xs:List V}{us:List ad}{ds:List D},RepL X.K M H ds xs->Vals xs us->aQt ds=true->(ds.all λy=>okE 8 y d)=true ->
  ∃f:ad->Bool,(∀u∈us,cq A s u v (f u))/\us.any f=decide (d∈ds):=by
 classical
 intro xs us ds l r p o;have key:∀{y:V}{u:ad}{e:D},e∈ds->RepV X.K M H e y->RelV y u->decide (∃y e,e∈ds/\RepV X.K M H e y/\RelV y u/\e=d)=decide (e=d):=by
  intro y u e hm he j
  congr 1
  refine propext ⟨λ⟨y',Z,J,h1,h2,U⟩=>?_,λh=>⟨y,e,hm,he,j,h⟩⟩
  have:=h2.inj j
  subst this;rw[<- U];exact bXp I (aXg p e hm) (aXg p Z J) he h1
 refine⟨λu=>decide (∃y e,e∈ds/\RepV X.K M H e y/\RelV y u/\e=d),?_,?_⟩
 ·intro u O;obtain⟨i,hi,rfl⟩:=bE O;have h1:=r.length;have h2:=l.length;obtain⟨e,Y,re⟩:=l.get' (ag (show i<xs.length by lia))
  obtain⟨u',eu,j⟩:=r.get (ag (show i<xs.length by lia))
  rw[ag hi] at eu;cases eu;have hm:e∈ds:=ao Y;show cq A s us[i] v (decide (∃y e,e∈ds/\RepV X.K M H e y/\RelV y us[i]/\e=d));rw[key hm re j];exact(eq3 I 8 (by lia) re hd j rx (bI.mp o e hm)).eq
 ·have gen:∀{zs:List V}{ws:List ad}{es:List D},RepL X.K M H es zs->Vals zs ws->(∀e∈es,e∈ds)->ws.any (λu=>decide (∃y e,e∈ds/\RepV X.K M H e y/\RelV y u/\e=d))=decide (d∈es):=by
   intro zs ws es
   induction es generalizing zs ws with
   |nil =>
    intro l r _;unfold RepL at l;subst l;cases r;simp
   |cons e es N =>
    intro l r hm;unfold RepL at l;obtain⟨z,zs,rfl,B,L⟩:=l;cases r with
    |cons q t =>
     rw[dZ,key (hm e aA) B q,N L t λe he=>hm e (au _ he)]
     by_cases h:e=d
     ·simp[h]
     ·have h':¬ d=e:=λz=>h z.symm;simp[h,h']
  exact gen l r λ_ h=>h
theorem dX2{K:Fg}{neg:Bool}:OpD K (rInA K neg) (inD neg):=by
 intro F S H d e x y Q QD r hd he ⟨ds,B,p,o,q⟩ c;obtain⟨a,xs,rfl,sq,l⟩:=B.sq r he;refine⟨a,xs,decide (d∈ds),rfl,sq,λ{X pins σ s} I D {v us} j z A J=>?_,c.bl r q⟩;subst D;exact eZe I j hd J l z p o
variable{K:Fg}{a b:Expr}{ta tb:ED}{pos:Pos}{k:Nat}
theorem lt10{n:Nat}{A:aO}(r:Room k A)(h:n<=64:=by decide):A.units+n<bU:=by have:=r.units;lia
theorem e_eq(hr:Room k X.A)(ha:PD K X a ta)(hb:PD K X b tb)(hK:X.K=K:=by rfl):PD K X (.Compare a [.Eq] [b] pos) (dOp (eqD false) ta tb):=eZ5 (dQo (lt10 hr) hK) dX0 ha hb (nomark _)
theorem dX3(hr:Room k X.A)(ha:PD K X a ta)(hb:PD K X b tb)(hK:X.K=K:=by rfl):PTD K X (.Compare a [.Eq] [b] pos) (aXf (dOp (eqD false) ta tb)):=aJi (dQo (lt10 hr) hK) dX0 ha hb (nomark _)
theorem dX4(hr:Room k X.A)(ha:PD K X a ta)(hb:PD K X b tb)(hK:X.K=K:=by rfl):PTD K X (.Compare a [.NotEq] [b] pos) (aXf (dOp (eqD true) ta tb)):=aJi (eZd (lt10 hr) hK) dX0 ha hb (nomark _)
theorem e_in(hr:Room k X.A)(ha:PD K X a ta)(hb:PD K X b tb)(hm:dA .In b=false:=by rfl)(hK:X.K=K:=by rfl):PD K X (.Compare a [.In] [b] pos) (dOp (inD false) ta tb):=eZ5 (dQp (lt10 hr) hK) dX2 ha hb hm
theorem dX5(hr:Room k X.A)(ha:PD K X a ta)(hb:PD K X b tb)(hm:dA .In b=false:=by rfl)(hK:X.K=K:=by rfl):PTD K X (.Compare a [.In] [b] pos) (aXf (dOp (inD false) ta tb)):=aJi (dQp (lt10 hr) hK) dX2 ha hb hm
theorem dQq(hr:Room k X.A)(ha:PD K X a ta)(hb:PD K X b tb)(hm:dA .NotIn b=false:=by rfl)(hK:X.K=K:=by rfl):PTD K X (.Compare a [.NotIn] [b] pos) (aXf (dOp (inD true) ta tb)):=aJi (dX1 (lt10 hr) hK) dX2 ha hb hm
end
end L2
namespace HT
open PySem PySem.Spec PyProof.Rows
section
variable{prog:aC}{w:aL}{A:aO}{E:ad->ah->Prop}{s:ah}
theorem tup_slice{t sl:Addr}{items:Array ad}{Q:ad->ah->Prop}(ht:gH s.heap t items)(hTs:s.TypeIs (.ref sl) "slice")
    (h:∀ A,aF (az prog w) A (eN (.ref sl) (pure (items.size:Int))) (λr s'=>s'=s /\
      ((r.1=0 /\ r.2.1=1 /\ r.2.2=items.size /\ Q (.ref t) s) \/
       (¬ (r.1==0&&r.2.1==1&&r.2.2==items.size)=true/\sizeOk (.seq ((bu r.2.2).filterMap λ(k:Nat)=>items[(r.1+(k:Int)*r.2.1).toNat]?).toArray)/\Q (.ref s.heap.objs.size) {s with heap:=s.heap.push {cls:=.type "tuple",data:=.seq ((bu r.2.2).filterMap λ(k:Nat)=>items[(r.1+(k:Int)*r.2.1).toNat]?).toArray}}))) E s) :
    aF (az prog w) A (f6 (.ref t) (.ref sl)) Q E s:=by
  unfold f6
  try with_reducible refine bM ?_
  first|refine aa (af ?_)|skip
  refine aa (wpAny_sequenceKey ht.typeIs (by decide) ?_)
  refine aa (fy (name:=Str.ofString "__getitem__") ht.typeIs bT
    (dD bT ht.typeIs entry_tuple_getitem ?_ (args_tuple_getitem _ _)))
  show aF _ _ (gO (.ref t)>>=_) _ _ s;refine aa (tupleItemsOf_ ht (aa (gv hTs ?_)));rw [if_pos (by decide)]
  refine aa (cr (h _) (λr s' ⟨e,q⟩=>?_) λ_ _ x=>x);subst e;obtain⟨lo,st,n⟩:=r;show aF _ _ (if (lo==0&&st==1&&n==items.size)=true then _ else _) _ _ _
  rcases q with⟨h1,h2,B,q⟩|⟨z,j,q⟩
  · have L:lo=0:=h1
    have J:st=1:=h2;have D:n=items.size:=B;rw [if_pos (by rw [L,J,D]; simp)]
    unfold cK.Tuple.tupleIsExact;refine aa (aa (gv ht.typeIs (af ?_)));rw [if_pos (by decide)]
    refine aa (cJ ?_)
    first
      |exact af ⟨_,rfl,af q⟩
      |exact aa (af ⟨_,rfl,af q⟩)
      |exact aa (af (af ⟨_,rfl,af q⟩))
  · rw [if_neg z]
    first
      |exact aa (m:=bS _) (bd (af ⟨_,rfl,af q⟩) j)
      |exact aa (m:=bS _) (bd (aa (af (af ⟨_,rfl,af q⟩))) j)
      |exact aa (aa (m:=bS _) (bd (af (af ⟨_,rfl,af q⟩)) j))
      |exact aa (aa (m:=bS _) (bd (af ⟨_,rfl,af q⟩) j))
end
end HT
namespace L2
open PySem PySem.Spec PyProof.Rows
section
variable{X:Cx}{K:Fg}
def rSlW(K:Fg):V->Option Int->Option Int->Hp->VK->Prop:=λx lo hi H Q=>∃a xs,x=.ref a/\SqT K H a xs/\HT.sIx xs.length 0 lo=0/\HT.sIx xs.length xs.length hi=xs.length/\Q (.ref a) H
theorem dX6(hK:X.K=K:=by rfl):SlR X (rSlW K):=by
 subst hK;intro pins s σ H x v U O lo hi sl Q I rx D pl pu h;obtain⟨a,xs,rfl,J,h0,L,q⟩:=h;cases rx;obtain⟨its,r,B,Y⟩:=I.tuple J;have hlen:its.toArray.size=xs.length:=by rw[aq];exact r.length.symm
 obtain⟨os,j,z,N⟩:=id D;refine⟨"tuple",_,bT.lookup,B.typeIs,HT.tup_slice B ⟨os,j,z⟩ λA=>HT.sliceApplied_gen D pl pu ⟨rfl,.inl ⟨?_,rfl,?_,.ref a,H,I,rfl,q⟩⟩⟩
 ·show((HT.sIx its.toArray.size 0 lo:Nat):Int)=0;rw[hlen,h0];rfl
 ·show HT.sIx its.toArray.size its.toArray.size hi-HT.sIx its.toArray.size 0 lo=its.toArray.size;rw[hlen,h0,L];rfl
end
end L2
set_option maxHeartbeats 1000000
namespace L2
open PySem PySem.Spec PyProof.Rows
section
variable{X:Cx}{K:Fg}{a b:Expr}{ta tb:ED}{pos:Pos}{k:Nat}
def ltD:R2D:=λd e S Q=>match d,e with
 |.int i,.int j=>Q (.bl (decide (i<j))) S
 |.str x,.str y=>Q (.bl (HT.ltS x y)) S
 |.tup xs,.tup ys=>∃as bs,xs=as.map D.str/\ys=bs.map D.str/\Q (.bl (HT.lexS as bs)) S
 |_,_=>False
def rLtA(K:Fg):R2:=λx y H Q=>rI0 (λi j=>.bl (decide (i<j))) x y H Q\/(∃i j,x=.str i/\y=.str j/\Q (.bl (decide (i.cps.toList<j.cps.toList))) H)\/rLtS K x y H Q
theorem eZf(hu:X.A.units<bU)(hK:X.K=K:=by rfl):OpR X (cN .Lt) (rLtA K):=op_lt.or (op_lt_str.or (dZk hu hK))
theorem cZ5{M:Am}{H:Hp}:∀{as:List Str}{xs:List V},RepL K M H (as.map D.str) xs->bx (dS H) xs as
 |[],xs,h=>by rw[d9] at h;unfold RepL at h;subst h;exact .nil
 |a::as,xs,h=>by
  rw[aX] at h;unfold RepL at h;obtain⟨v,j,rfl,r,l⟩:=h;unfold RepV at r;exact .cons r (cZ5 l)
theorem bX3{S:Sto}{F:Am}{H:Hp}{as:List Str}{v:V}(h:RepV K (mt S F) H (.tup (as.map D.str)) v):dT K dS H v as:=by
 obtain⟨a,xs,rfl,t,l⟩:=tup.st h;exact⟨a,xs,rfl,t,cZ5 l⟩
theorem eJp:OpD K (rLtA K) ltD:=by
 intro F S H d e x y Q QD r hd he h c;cases d with
 |int i =>
  cases e with
  |int j=>rw[rint hd,rint he];exact .inl ⟨i,j,rfl,rfl,c.bl r h⟩
  |_=>exact h.elim
 |str i =>
  cases e with
  |str j=>rw[rstr hd,rstr he];exact .inr (.inl ⟨i,j,rfl,rfl,c.bl r h⟩)
  |_=>exact h.elim
 |tup xs =>
  cases e with
  |tup ys =>
   obtain⟨as,bs,rfl,rfl,q⟩:=h;exact .inr (.inr ⟨as,bs,bX3 hd,bX3 he,c.bl r q⟩)
  |_=>exact h.elim
 |_=>exact h.elim
theorem cZ6(hr:Room k X.A)(ha:PD K X a ta)(hb:PD K X b tb)(hK:X.K=K:=by rfl):PTD K X (.Compare a [.Lt] [b] pos) (aXf (dOp ltD ta tb)):=aJi (eZf hr.units0 hK) eJp ha hb (nomark _)
abbrev gtD:R2D:=iiD0 λi j=>.bl (decide (j<i))
abbrev geD:R2D:=iiD0 λi j=>.bl (decide (j<=i))
theorem eJq(hr:Room k X.A)(ha:PD K X a ta)(hb:PD K X b tb):PTD K X (.Compare a [.Gt] [b] pos) (aXf (dOp gtD ta tb)):=aJi eJd eZa ha hb (nomark _)
theorem eZg(hr:Room k X.A)(ha:PD K X a ta)(hb:PD K X b tb):PTD K X (.Compare a [.GtE] [b] pos) (aXf (dOp geD ta tb)):=aJi eJe eZa ha hb (nomark _)
def eJr(ta tb:ED):ED:=fun Γ S Q=>ta Γ S λx S1=>∃c,x=.bl c/\if c=true then tb Γ S1 Q else Q (.bl false) S1
theorem eJs{op}(h:PD K X a ta):PD K X (.BoolOp op [a] pos) ta:=⟨dJs h.o⟩
theorem eZh{rest:List Expr}(ha:PD K X a ta)(hb:PD K X (.BoolOp .And (b::rest) pos) tb):PD K X (.BoolOp .And (a::b::rest) pos) (eJr ta tb):=.of (dJt ha.o hb.o) fun σ H Q L=>L.el λF S Γ QD r g q c =>
 ⟨F,S,Γ,_,r,g,q,λv d H1 U j B v1 J=>by
  obtain⟨z,e,D⟩:=J;subst e;refine⟨z,rbl v1,?_⟩;cases z with
  |true=>exact⟨F,U,Γ,QD,B,g.ext j,D,λv z Y O N=>c v z Y O (j.trans N)⟩
  |false=>exact(Cn.shift c j).bl B D⟩
structure PWD(K:Fg)(X:Cx)(e:Expr)(t:TD):Prop where
 o:PW X e (upT K t)
def dAnd(t u:TD):TD:=fun Γ S Q=>t Γ S λc S1=>if c=true then u Γ S1 Q else Q false S1
def dOr(t u:TD):TD:=fun Γ S Q=>t Γ S λc S1=>if c=true then Q true S1 else u Γ S1 Q
def dNot(t:TD):TD:=fun Γ S Q=>t Γ S λc S1=>Q (!c) S1
section
variable{tA tB':TD}{rest:List Expr}
theorem PWD.pt{e:Expr}{t:TD}(h:PWD K X e t):PTD K X e t:=⟨PW.pt h.o⟩
theorem PWD.of{e:Expr}{te:TT}{t:TD}(h:PW X e te)(i:∀σ H Q,upT K t σ H Q->te σ H Q):PWD K X e t:=⟨λj pins s σ H Q I q=>h j pins s σ H Q I (i σ H Q q)⟩
theorem cZ7(ha:PTD K X a tA):PWD K X (.BoolOp .And [a] pos) tA:=⟨dZ0 ha.o⟩
theorem cZ8(ha:PTD K X a tA):PWD K X (.BoolOp .Or [a] pos) tA:=⟨dJp ha.o⟩
theorem dQr(ha:PTD K X a tA)(hb:PWD K X (.BoolOp .And (b::rest) pos) tB'):PWD K X (.BoolOp .And (a::b::rest) pos) (dAnd tA tB'):=.of (dJq ha.o hb.o) fun σ H Q J=>J.el λF S Γ QD r g q c =>
 ⟨F,S,Γ,_,r,g,q,λz H1 O j B D=>by
  cases z with
  |true=>exact⟨F,O,Γ,QD,B,g.ext j,D,λz U N L=>c z U N (j.trans L)⟩
  |false=>exact c _ _ _ j B D⟩
theorem cZ9(ha:PTD K X a tA)(hb:PWD K X (.BoolOp .Or (b::rest) pos) tB'):PWD K X (.BoolOp .Or (a::b::rest) pos) (dOr tA tB'):=.of (eJ5 ha.o hb.o) fun σ H Q J=>J.el λF S Γ QD r g q c =>
 ⟨F,S,Γ,_,r,g,q,λz H1 O j B D=>by
  cases z with
  |false=>exact⟨F,O,Γ,QD,B,g.ext j,D,λz U N L=>c z U N (j.trans L)⟩
  |true=>exact c _ _ _ j B D⟩
theorem bZa(ha:PTD K X a tA):PTD K X (.UnaryOp .Not a pos) (dNot tA):=.of (dJr ha.o) fun σ H Q j=>j.el λF S Γ QD r g q c=>⟨F,S,Γ,_,r,g,q,λz H1 L B D J=>c _ _ _ B D J⟩
end
def truD(S:Sto)(d:D)(k:Bool->Prop):Prop:=match d with
 |.non=>k false
 |.bl b=>k b
 |.int i=>k (i !=0)
 |.str x=>x.length<=sizeLine/\k ((x.length:Int) !=0)
 |.tup xs=>k (!xs.isEmpty)
 |.lst xs=>k (!xs.isEmpty)
 |.ref a=>∃xs,S a=some (.lst xs)/\k (!xs.isEmpty)
 |.ty _=>False
def dTru(ta:ED):TD:=fun Γ S Q=>ta Γ S λd S1=>truD S1 d λb=>Q b S1
theorem cZa{M:Am}{H:Hp}{ds:List D}{xs:List V}(l:RepL K M H ds xs):(!xs.isEmpty)=!ds.isEmpty:=by
 have:=l.length
 cases ds <;> cases xs <;> first|rfl|simp at this
theorem aZx(ha:PD K X a ta)(he:∀whole,isTrue a X.env whole=(do let v <- whole;fh a.pos;fg [v] (truthy v)):=by intro _;rfl)(hK:X.K=K:=by rfl):PTD K X a (dTru ta):=.of (cQv (K:=K) ha.o he hK) fun σ H Q J=>J.el λF S Γ QD r g q c =>
 ⟨F,S,Γ,_,r,g,q,λv d H1 D B z v1 j=>by
  cases d with
  |non=>rw[rnon v1];exact⟨false,rfl,c _ _ _ B z j⟩
  |bl b=>rw[rbl v1];exact⟨b,rfl,c _ _ _ B z j⟩
  |int b=>rw[rint v1];exact⟨_,rfl,c _ _ _ B z j⟩
  |str b=>rw[rstr v1];exact⟨_,⟨j.1,rfl⟩,c _ _ _ B z j.2⟩
  |ty b=>exact j.elim
  |tup xs =>
   obtain⟨p,us,rfl,t,l⟩:=tup.st v1;exact⟨_,.inr (.inl ⟨us,t,rfl⟩),c _ _ _ B z (by rw[cZa l];exact j)⟩
  |lst xs =>
   obtain⟨p,us,rfl,t,l⟩:=lsIs.sl z v1 (show lsIs D (.lst xs) xs from rfl)
   exact⟨_,.inl ⟨us,t,rfl⟩,c _ _ _ B z (by rw[cZa l];exact j)⟩
  |ref p =>
   obtain⟨xs,e,j⟩:=j;obtain⟨p,us,rfl,t,l⟩:=lsIs.sl z v1 (show lsIs D (.ref p) xs from e)
   exact⟨_,.inl ⟨us,t,rfl⟩,c _ _ _ B z (by rw[cZa l];exact j)⟩⟩
section
variable{e:Expr}{t:AD}{p:Pos}
def lenD:RCD:=λds S Q=>match ds with
 |[.str x]=>x.length<=sizeLine/\Q (.int x.length) S
 |[d]=>∃xs,sqIs S d xs/\Q (.int xs.length) S
 |_=>False
theorem cZb(hK:X.K=K:=by rfl):CallR X (.builtin "len") (λxs H Q=>∃x n,xs=[x]/\LenV K x H n/\Q (.int n) H):=hK▸cXz
theorem eZi:aXv K (λxs H Q=>∃x n,xs=[x]/\LenV K x H n/\Q (.int n) H) lenD:=by
 intro F S H ds z Q QD r l h c
 match ds,h with
 |[d],h =>
  obtain⟨v,rfl,j⟩:=l.one;have seq:(∃xs,sqIs S d xs/\QD (.int xs.length) S)->∃x n,[v]=[x]/\LenV K x H n/\Q (.int n) H:=by
   rintro⟨xs,h1,q⟩;obtain⟨a,us,rfl,sq,l⟩:=h1.sq r j;refine⟨_,xs.length,rfl,?_,c.int r q⟩;rcases sq with sq|sq
   ·exact .inl ⟨us,sq,l.length.symm⟩
   ·exact .inr ⟨us,sq,l.length.symm⟩
  cases d with
  |str x=>rw[rstr j];exact⟨_,x.length,rfl,⟨h.1,rfl⟩,c.int r h.2⟩
  |_=>exact seq h
 |[],h=>exact h.elim
 |d::_::_,h=>cases d <;> exact h.elim
theorem aZj(hg:Gl X "len")(hm:X.mg "len"=none)(ha:PAD K X [e] t)(hK:X.K=K:=by rfl)(he:av [e] X.env=(false,eval e X.env)::av [] X.env:=by rfl)(hpl:(bZ pos (av [] X.env)).any (·.1)=false:=by rfl):PD K X (.Call (.Name "len" p) [e] [] pos) (dCB lenD t):=aZb (cZb hK) eZi hg hm eQi ha (by decide) (by decide) he hpl
def tupD:RCD:=λds S Q=>match ds with
 |[d]=>∃xs,sqIs S d xs/\Q (.tup xs) S
 |_=>False
theorem eZj:aXv K (λxs H Q=>∃p ys,xs=[.ref p]/\((SqL K H p ys/\∀l,H l=none->Q (.ref l) (upd H l (.tup ys)))\/(SqT K H p ys/\Q (.ref p) H))) tupD:=by
 intro F S H ds B Q QD r l h c
 match ds,h with
 |[d],⟨xs,h1,q⟩ =>
  obtain⟨v,rfl,j⟩:=l.one;cases d with
  |tup ys =>
   cases h1;obtain⟨a,us,rfl,sq,l⟩:=tup.st j;exact⟨a,us,rfl,.inr ⟨sq,c.here r j q⟩⟩
  |lst ys =>
   obtain⟨a,us,rfl,sq,l⟩:=lsIs.sl r j (show lsIs S (.lst ys) xs from h1)
   exact⟨a,us,rfl,.inl ⟨sq,λp z=>c.tup r z l q⟩⟩
  |ref y =>
   obtain⟨a,us,rfl,sq,l⟩:=lsIs.sl r j (show lsIs S (.ref y) xs from h1)
   exact⟨a,us,rfl,.inl ⟨sq,λp z=>c.tup r z l q⟩⟩
  |_=>exact h1.elim
theorem aQo(hg:Gl X "tuple")(hm:X.mg "tuple"=none)(ha:PAD K X [e] t)(hK:X.K=K:=by rfl)(he:av [e] X.env=(false,eval e X.env)::av [] X.env:=by rfl)(hpl:(bZ pos (av [] X.env)).any (·.1)=false:=by rfl):PD K X (.Call (.Name "tuple" p) [e] [] pos) (dCB tupD t):=aJ2 (bZy hK) eZj hg hm aXz ha (by decide) (by decide) he hpl
def lstD(b:Bool):RCD:=λds S Q=>match ds with
 |[d]=>∃xs,sqIs S d xs/\newL b xs S Q
 |_=>False
theorem eZk{b:Bool}:aXv K (λxs H Q=>∃p ys,xs=[.ref p]/\(SqL K H p ys\/SqT K H p ys)/\∀l,H l=none->Q (.ref l) (upd H l (.lst ys))) (lstD b):=by
 intro F S H ds B Q QD r l h c
 match ds,h with
 |[d],⟨xs,h1,q⟩ =>
  obtain⟨v,rfl,j⟩:=l.one;obtain⟨a,us,rfl,sq,l⟩:=h1.sq r j;exact⟨a,us,rfl,sq,λp z=>c.new r z l q⟩
theorem dQs{b:Bool}(hg:Gl X "list")(hm:X.mg "list"=none)(ha:PAD K X [e] t)(hK:X.K=K:=by rfl)(he:av [e] X.env=(false,eval e X.env)::av [] X.env:=by rfl)(hpl:(bZ pos (av [] X.env)).any (·.1)=false:=by rfl):PD K X (.Call (.Name "list" p) [e] [] pos) (dCB (lstD b) t):=aJ2 (bJj hK) eZk hg hm cQi ha (by decide) (by decide) he hpl
def i2D(g:Int->Int->Int):RCD:=λds S Q=>match ds with
 |[.int i,.int j]=>Q (.int (g i j)) S
 |_=>False
theorem eZl{g:Int->Int->Int}:aXv K (λxs H Q=>∃i j,xs=[.int i,.int j]/\Q (.int (g i j)) H) (i2D g):=by
 intro F S H ds D Q QD r l h c
 match ds,h with
 |[.int i,.int j],h =>
  obtain⟨v,w,rfl,B,z⟩:=l.two;rw[rint B,rint z];exact⟨i,j,rfl,c.int r h⟩
theorem eJt{e2:Expr}(hg:Gl X "min")(hm:X.mg "min"=none)(ha:PAD K X [e,e2] t)(hc:X.calm=true:=by rfl)(he:av [e,e2] X.env=(false,eval e X.env)::av [e2] X.env:=by rfl)(hpl:(bZ pos (av [e2] X.env)).any (·.1)=false:=by rfl):PD K X (.Call (.Name "min" p) [e,e2] [] pos) (dCB (i2D λi j=>if j<i then j else i) t):=aZb (cQ4 hc) eZl hg hm eQj ha (by decide) (by decide) he hpl
theorem eJu{e2:Expr}(hg:Gl X "max")(hm:X.mg "max"=none)(ha:PAD K X [e,e2] t)(hc:X.calm=true:=by rfl)(he:av [e,e2] X.env=(false,eval e X.env)::av [e2] X.env:=by rfl)(hpl:(bZ pos (av [e2] X.env)).any (·.1)=false:=by rfl):PD K X (.Call (.Name "max" p) [e,e2] [] pos) (dCB (i2D λi j=>if j>i then j else i) t):=aZb (cQ3 hc) eZl hg hm eQk ha (by decide) (by decide) he hpl
def intD:RCD:=λds S Q=>match ds with
 |[.int i]=>Q (.int i) S
 |[.bl k]=>Q (.int (if k then 1 else 0)) S
 |_=>False
theorem dQt(hg:Gl X "int")(hm:X.mg "int"=none)(ha:PAD K X [e] t)(he:av [e] X.env=(false,eval e X.env)::av [] X.env:=by rfl)(hpl:(bZ pos (av [] X.env)).any (·.1)=false:=by rfl):PD K X (.Call (.Name "int" p) [e] [] pos) (dCB intD t):=aJ2 cQ5 (by
 intro F S H ds z Q QD r l h c
 match ds,h with
 |[.int i],h=>obtain⟨v,rfl,j⟩:=l.one;rw[rint j];exact .inl ⟨i,rfl,c.int r h⟩
 |[.bl i],h=>obtain⟨v,rfl,j⟩:=l.one;rw[rbl j];exact .inr ⟨i,rfl,c.int r h⟩) hg hm eQm ha (by decide) (by decide) he hpl
theorem bXq{M:Am}{H:Hp}:∀{bs:List Bool}{xs:List V},RepL K M H (bs.map D.bl) xs->bx (dB H) xs bs
 |[],xs,h=>by rw[d9] at h;unfold RepL at h;subst h;exact .nil
 |a::as,xs,h=>by
  rw[aX] at h;unfold RepL at h;obtain⟨v,j,rfl,r,l⟩:=h;unfold RepV at r;exact .cons r (bXq l)
def quD(g:List Bool->Bool):RCD:=λds S Q=>match ds with
 |[d]=>∃bs,lsIs S d (bs.map D.bl)/\Q (.bl (g bs)) S
 |_=>False
theorem eZm{g:List Bool->Bool}:aXv K (λxs H Q=>∃x bs,xs=[x]/\dL K dB H x bs/\Q (.bl (g bs)) H) (quD g):=by
 intro F S H ds z Q QD r l h c
 match ds,h with
 |[d],⟨bs,h1,q⟩ =>
  obtain⟨v,rfl,j⟩:=l.one;obtain⟨a,us,rfl,sq,l⟩:=lsIs.sl r j h1;exact⟨_,bs,rfl,⟨a,us,rfl,sq,bXq l⟩,c.bl r q⟩
theorem eJv(hg:Gl X "all")(hm:X.mg "all"=none)(ha:PAD K X [e] t)(hK:X.K=K:=by rfl)(hc:X.calm=true:=by rfl)(he:av [e] X.env=(false,eval e X.env)::av [] X.env:=by rfl)(hpl:(bZ pos (av [] X.env)).any (·.1)=false:=by rfl):PD K X (.Call (.Name "all" p) [e] [] pos) (dCB (quD λbs=>bs.all id) t):=aZb (cQt hK hc) eZm hg hm eQl ha (by decide) (by decide) he hpl
theorem eZn(hg:Gl X "any")(hm:X.mg "any"=none)(ha:PAD K X [e] t)(hK:X.K=K:=by rfl)(hc:X.calm=true:=by rfl)(he:av [e] X.env=(false,eval e X.env)::av [] X.env:=by rfl)(hpl:(bZ pos (av [] X.env)).any (·.1)=false:=by rfl):PD K X (.Call (.Name "any" p) [e] [] pos) (dCB (quD λbs=>bs.any id) t):=aZb (cQu hK hc) eZm hg hm dQe ha (by decide) (by decide) he hpl
def tyD:D->Option String
 |.non=>some "NoneType"
 |.bl _=>some "bool"
 |.int _=>some "int"
 |.str _=>some "str"
 |.tup _=>some "tuple"
 |.lst _=>some "list"
 |_=>none
def isiD:RCD:=λds S Q=>match ds with
 |[d,.ty T]=>∃t b,tyD d=some t/\subT t T=some b/\Q (.bl b) S
 |_=>False
def eZo(K:Fg):List V->Hp->VK->Prop:=λxs H Q=>(∃x T t b,xs=[x,.ty T]/\TyOf K H x (.type t)/\subT t T=some b/\Q (.bl b) H)\/(∃a T b ys,xs=[.ref a,.ty T]/\SqT K H a ys/\subT "tuple" T=some b/\Q (.bl b) H)\/∃a T b ys,xs=[.ref a,.ty T]/\SqL K H a ys/\subT "list" T=some b/\Q (.bl b) H
theorem cZc(hK:X.K=K:=by rfl):CallR X (.builtin "isinstance") (eZo K):=by
 subst hK;refine call_isi.or (CallR.or ?_ ?_)
 ·intro pins s σ H xs us Q I B h;obtain⟨a,T,b,ys,rfl,sq,e,q⟩:=h;obtain⟨u,c,rfl,ru,rc⟩:=B.two;cases rc;cases ru;obtain⟨its,r,p,_⟩:=I.tuple sq;obtain⟨o,h1,h2,_⟩:=p;exact bX PySem.W.kitx_tuple I.kIn ⟨o,h1,h2⟩ (cQk e) (λz=>nomatch z) λj=>⟨.bl b,H,I.tok j,rfl,q⟩
 ·intro pins s σ H xs us Q I B h;obtain⟨a,T,b,ys,rfl,sq,e,q⟩:=h;obtain⟨u,c,rfl,ru,rc⟩:=B.two;cases rc;cases ru;obtain⟨its,r,p,_⟩:=I.list sq;obtain⟨o,n,h1,h2,_⟩:=p;exact bX hU I.kIn ⟨o,h1,h2⟩ (cQk e) (λz=>nomatch z) λj=>⟨.bl b,H,I.tok j,rfl,q⟩
theorem eZp:aXv K (eZo K) isiD:=by
 intro F S H ds B Q QD r l h c
 match ds,h with
 |[d,.ty T],⟨t,b,h1,h2,q⟩ =>
  obtain⟨v,w,rfl,j,z⟩:=l.two;unfold RepV at z;subst z;cases d with
  |non=>cases h1;rw[rnon j];exact .inl ⟨_,T,_,b,rfl,.non,h2,c.bl r q⟩
  |bl i=>cases h1;rw[rbl j];exact .inl ⟨_,T,_,b,rfl,.bl _,h2,c.bl r q⟩
  |int i=>cases h1;rw[rint j];exact .inl ⟨_,T,_,b,rfl,.int _,h2,c.bl r q⟩
  |str i=>cases h1;rw[rstr j];exact .inl ⟨_,T,_,b,rfl,.str _,h2,c.bl r q⟩
  |tup xs =>
   cases h1;obtain⟨a,us,rfl,sq,l⟩:=tup.st j;exact .inr (.inl ⟨a,T,b,us,rfl,sq,h2,c.bl r q⟩)
  |lst xs =>
   cases h1;obtain⟨a,us,rfl,sq,l⟩:=lsIs.sl r j (show lsIs S (.lst xs) xs from rfl)
   exact .inr (.inr ⟨a,T,b,us,rfl,sq,h2,c.bl r q⟩)
  |_=>cases h1
theorem cZd{e2:Expr}(hg:Gl X "isinstance")(hm:X.mg "isinstance"=none)(ha:PAD K X [e,e2] t)(hK:X.K=K:=by rfl)(he:av [e,e2] X.env=(false,eval e X.env)::av [e2] X.env:=by rfl)(hpl:(bZ pos (av [e2] X.env)).any (·.1)=false:=by rfl):PD K X (.Call (.Name "isinstance" p) [e,e2] [] pos) (dCB isiD t):=aZb (cZc hK) eZp hg hm bQ6 ha (by decide) (by decide) he hpl
end
def ixD:R2D:=λd e S Q=>match d,e with
 |.str z,.int i=>z.length<=sizeLine/\∃c,atI z.cps.toList i=some c/\Q (.str ⟨#[c]⟩) S
 |d,.int i=>∃xs v,sqIs S d xs/\atI xs i=some v/\Q v S
 |_,_=>False
theorem eJw{M:Am}{H:Hp}{ds:List D}{xs:List V}(l:RepL K M H ds xs){i:Int}{d:D}(h:atI ds i=some d):∃v,atI xs i=some v/\RepV K M H d v:=by
 unfold atI at h ⊢;rw[l.length];cases hi:ixN ds.length i with
 |none=>rw[hi] at h;cases h
 |some j=>rw[hi] at h;exact l.get h
theorem eJx:OpD K (rIx K) ixD:=by
 intro F S H d e x y Q QD r hd he h c;have seq:∀i,e=.int i->(∃xs v,sqIs S d xs/\atI xs i=some v/\QD v S)->rIx K x y H Q:=by
  rintro i rfl ⟨xs,v,h1,h2,q⟩;obtain⟨a,us,rfl,sq,l⟩:=h1.sq r hd;obtain⟨u,B,j⟩:=eJw l h2;rw[rint he];rcases sq with sq|sq
  ·exact .inl ⟨a,us,i,u,rfl,rfl,sq,B,c.here r j q⟩
  ·exact .inr (.inl ⟨a,us,i,u,rfl,rfl,sq,B,c.here r j q⟩)
 cases e with
 |int i =>
  cases d with
  |str z =>
   obtain⟨h1,w,h2,q⟩:=h;rw[rstr hd,rint he];exact .inr (.inr ⟨z,i,w,rfl,rfl,h1,h2,c.str r q⟩)
  |_=>exact seq i rfl h
 |_=>cases d <;> exact h.elim
theorem dX7(hK:X.K=K:=by rfl):IxR X (rIx K):=hK▸eQg
theorem e_ix(ha:PD K X a ta)(hb:PD K X b tb)(hs:PlainIx b:=by exact λ_ _=>rfl)(hK:X.K=K:=by rfl):PD K X (.Subscript a b pos) (dOp ixD ta tb):=.of (pe_ix (dX7 hK) ha.o hb.o hs) (cJf eJx)
abbrev OD:=Gm->Sto->(Option Int->Sto->Prop)->Prop
def upO(K:Fg)(t:OD):TO:=fun σ H Q=>∃F S Γ QD,Rp K F S H/\RepG K (mt S F) H Γ σ/\t Γ S QD/\∀o H' S',Ext S H S' H'->Rp K F S' H'->QD o S'->Q o H'
theorem upO.el{K:Fg}{t:OD}{σ:St}{H:Hp}{Q:Option Int->Hp->Prop}{p:Prop}(h:upO K t σ H Q)(k:∀F S Γ QD,Rp K F S H->RepG K (mt S F) H Γ σ->t Γ S QD->(∀o H' S',Ext S H S' H'->Rp K F S' H'->QD o S'->Q o H')->p):p:=by
 obtain⟨F,S,Γ,QD,h0,h1,h2,j⟩:=h;exact k F S Γ QD h0 h1 h2 j
structure POD(K:Fg)(X:Cx)(e:Option Expr)(t:OD):Prop where
 o:PO X e (upO K t)
def dX8:OD:=λ_ S Q=>Q none S
def eJy(t:ED):OD:=fun Γ S Q=>t Γ S λd S1=>∃i,d=.int i/\Q (some i) S1
theorem bQd:POD K X none dX8:=⟨λpins s σ H Q I j=>j.el λF S Γ QD r g q c=>dZa pins s σ H Q I (c none H S (Ext.refl _ _) r q)⟩
theorem aXh(h:PD K X a ta):POD K X (some a) (eJy ta):=⟨λpins s σ H Q I z=>z.el λF S Γ QD r g q c=>dZb h.o pins s σ H Q I ⟨F,S,Γ,_,r,g,q,λv d H1 L B D v1 j=>by
 obtain⟨i,e,J⟩:=j;subst e;exact⟨i,rint v1,c _ _ _ B D J⟩⟩⟩
def cutD(xs:List D)(lo hi:Option Int):List D:=(xs.drop (HT.sIx xs.length 0 lo)).take (HT.sIx xs.length xs.length hi-HT.sIx xs.length 0 lo)
def slD(b:Bool)(d:D)(lo hi:Option Int)(S:Sto)(Q:DK):Prop:=match d with
 |.str z=>z.length<=1000000/\Q (.str (cutS z lo hi)) S
 |.tup xs=>Q (.tup (cutD xs lo hi)) S
 |d=>∃xs,lsIs S d xs/\newL b (cutD xs lo hi) S Q
def rSlA(K:Fg):V->Option Int->Option Int->Hp->VK->Prop:=λx lo hi H Q=>rSlS x lo hi H Q\/rSlT K x lo hi H Q\/rSlW K x lo hi H Q\/rSlL K x lo hi H Q
theorem sl_A(hK:X.K=K:=by rfl):SlR X (rSlA K):=sl_str.or ((dZj hK).or ((dX6 hK).or (cJ9 hK)))
theorem cJh(xs:List D){lo hi:Option Int}(h0:HT.sIx xs.length 0 lo=0)(h1:HT.sIx xs.length xs.length hi=xs.length):cutD xs lo hi=xs:=by unfold cutD;rw[h0,h1];simp
theorem dQu{M:Am}{H:Hp}{ds:List D}{xs:List V}(l:RepL K M H ds xs)(lo hi:Option Int):RepL K M H (cutD ds lo hi) (cutV xs lo hi):=by
 unfold cutD cutV;rw[l.length];exact(l.drop _).take _
theorem sd_A{b:Bool}:∀F S H d x lo hi Q QD,Rp K F S H->RepV K (mt S F) H d x->slD b d lo hi S QD->Cn K F S H QD Q->rSlA K x lo hi H Q:=by
 intro F S H d x lo hi Q QD r hd h c;have lists:(∃xs,lsIs S d xs/\newL b (cutD xs lo hi) S QD)->rSlA K x lo hi H Q:=by
  rintro⟨xs,D,q⟩;obtain⟨a,us,rfl,s1,j⟩:=lsIs.sl r hd D;exact .inr (.inr (.inr ⟨a,us,rfl,s1,λp B=>c.new r B (dQu j lo hi) q⟩))
 cases d with
 |str z=>rw[rstr hd];exact .inl ⟨z,rfl,h.1,c.str r h.2⟩
 |tup xs =>
  obtain⟨a,us,rfl,s1,j⟩:=tup.st hd
  by_cases hw:HT.sIx us.length 0 lo=0/\HT.sIx us.length us.length hi=us.length
  ·refine .inr (.inr (.inl ⟨a,us,rfl,s1,hw.1,hw.2,c.here r hd ?_⟩));rw[j.length] at hw;have h':QD (.tup (cutD xs lo hi)) S:=h;rwa [cJh xs hw.1 hw.2] at h'
  ·exact .inr (.inl ⟨a,us,rfl,s1,hw,λp B=>c.tup r B (dQu j lo hi) h⟩)
 |_=>exact lists h
def dSl(b:Bool)(te:ED)(tl th:OD):ED:=fun Γ S Q=>te Γ S λd S1=>tl Γ S1 λlo S2=>th Γ S2 λhi S3=>slD b d lo hi S3 Q
theorem e_sl{b:Bool}{e:Expr}{te:ED}{lo hi:Option Expr}{tl th:OD}{p2 pos:Pos}(he:PD K X e te)(hl:POD K X lo tl)(hu:POD K X hi th)(hK:X.K=K:=by rfl):PD K X (.Subscript e (.Slice lo hi none p2) pos) (dSl b te tl th):=.of (cJ1 (sl_A hK) he.o hl.o hu.o) fun σ H Q D=>D.el λF S Γ QD r g q c =>
 ⟨F,S,Γ,_,r,g,q,λv d H1 S1 z N v1 Y=>⟨F,S1,Γ,_,N,g.ext z,Y,λl H2 S2 j L U=>⟨F,S2,Γ,_,L,g.ext (z.trans j),U,λu H3 Z B J O=>sd_A F Z H3 d v l u Q QD J (v1.ext (j.trans B)) O (Cn.shift c (z.trans (j.trans B)))⟩⟩⟩
end
end L2
set_option maxHeartbeats 4000000
namespace L2
open PySem PySem.Spec PyProof.Rows
section
variable{X:Cx}{K:Fg}{a b:Expr}{ta tb:ED}{pos:Pos}{k:Nat}
abbrev GD:=D->Gm->Sto->(Gm->Sto->Prop)->Prop
def upG(K:Fg)(t:GD):TG:=λv σ H Q=>∃F S Γ d QD,Rp K F S H/\RepG K (mt S F) H Γ σ/\RepV K (mt S F) H d v/\t d Γ S QD/\∀Γ' S' σ' H',Ext S H S' H'->Rp K F S' H'->RepG K (mt S' F) H' Γ' σ'->QD Γ' S'->Q σ' H'
theorem upG.el{K:Fg}{t:GD}{v:V}{σ:St}{H:Hp}{Q:St->Hp->Prop}{p:Prop}(h:upG K t v σ H Q)(k:∀F S Γ d QD,Rp K F S H->RepG K (mt S F) H Γ σ->RepV K (mt S F) H d v->t d Γ S QD->(∀Γ' S' σ' H',Ext S H S' H'->Rp K F S' H'->RepG K (mt S' F) H' Γ' σ'->QD Γ' S'->Q σ' H')->p):p:=by
 obtain⟨F,S,Γ,d,QD,h0,h1,h2,z,j⟩:=h;exact k F S Γ d QD h0 h1 h2 z j
structure PGD(K:Fg)(X:Cx)(e:Expr)(t:GD):Prop where
 o:PG X e (upG K t)
theorem PGD.of{e:Expr}{te:TG}{t:GD}(h:PG X e te)(i:∀v σ H Q,upG K t v σ H Q->te v σ H Q):PGD K X e t:=⟨λpins s σ H v u Q I r q=>h pins s σ H v u Q I r (i v σ H Q q)⟩
def aZ7(i:Nat):GD:=λd Γ S Q=>Q (Γ.set i (some d)) S
theorem aZe{i:Nat}{x:Str}(hN:X.N.Nodup)(hi:X.N[i]?=some x)(hx:Loc X.env.scope x)(hf:X.fn x=true\/X.env.scope.names.lookup x=some .local:=by first|exact .inl rfl|exact .inr rfl|assumption):PGD K X (.Name x pos) (aZ7 i) :=
 .of (aQe hN hi hx hf) λv σ H Q j=>j.el λF S Γ d QD r g z q c=>c _ S _ H (Ext.refl _ _) r (g.set z i) q
def setD(o i v:D)(S:Sto)(Q:Sto->Prop):Prop:=match o,i with
 |.ref p,.int k=>∃xs j,S p=some (.lst xs)/\ixN xs.length k=some j/\Q (supd S p (.lst (xs.set j v)))
 |_,_=>False
def gdSub(to ti:ED):GD:=λv Γ S Q=>to Γ S λo S1=>ti Γ S1 λi S2=>setD o i v S2 λS3=>Q Γ S3
theorem aJy{o i:Expr}{to ti:ED}(ho:PD K X o to)(hi:PD K X i ti)
  (ha:∀ v,assign (.Subscript o i pos) X.env v=(do
   let ov <- fg [v] (eval o X.env)
   let iv <- fg [v,ov] (eval i X.env)
   fh pos
   fg [v,ov,iv] (setItem ov iv v)
   release [v,ov,iv] []):=by intro _;rfl):PGD K X (.Subscript o i pos) (gdSub to ti) :=
 .of (dJw ho.o hi.o cJ2 ha) λv σ H Q z0=>z0.el λF S Γ d QD r g rv q c =>
  ⟨F,S,Γ,_,r,g,q,λov od H1 S1 L r1 v1 q1=>⟨F,S1,Γ,_,r1,g.ext L,q1,λiv id H2 U J Y v2 O=>by
   have N:=v1.ext J;cases od with
   |ref p =>
    cases id with
    |int kk =>
     obtain⟨xs,j,Z,hj,q3⟩:=O;obtain⟨us,hH,l⟩:=Y.obj p _ Z;rw[rref N,rint v2];have B:U p≠none:=by rw[Z];exact λz=>by cases z
     have D:Ext U H2 (supd U p (.lst (xs.set j d))) (upd H2 p (.lst (us.set j v))):=Ext.write B;refine⟨p,us,kk,j,rfl,rfl,hH,by rw[l.length];exact hj,?_⟩
     refine c Γ _ σ _ (L.trans (J.trans D)) (Y.write B ⟨_,aQ7,?_⟩) (g.ext (L.trans (J.trans D))) q3;exact RepL.set (rv.ext (L.trans (J.trans D))) j (l.ext D)
    |_=>exact O.elim
   |_=>exact O.elim⟩⟩
def eJz:SD:=λE Γ S=>E.nx Γ S
def dSeq(t u:SD):SD:=λE Γ S=>t {E with nx:=u E} Γ S
def dAsg(te:ED)(g:GD):SD:=λE Γ S=>te Γ S λd S1=>g d Γ S1 E.nx
def fQ0(te:ED):SD:=λE Γ S=>te Γ S λ_ S1=>E.nx Γ S1
def dRet(te:ED):SD:=λE Γ S=>te Γ S E.rt
def dIfS(c:TD)(t u:SD):SD:=λE Γ S=>c Γ S λb S1=>if b=true then t E Γ S1 else u E Γ S1
section
variable{st:Stmt}{rest:List Stmt}{t u:SD}
theorem aQv:PSsD K X [] eJz:=.of dZ1 λz σ H j=>j.el λF S Γ E r g q c=>c.nx Γ S σ H (Ext.refl _ _) r g q
theorem aQ2(h1:PSD K X st t)(h2:PSsD K X rest u):PSsD K X (st::rest) (dSeq t u):=.of (bXf h1.o h2.o) λL σ H j=>j.el λF S Γ E r g q c =>
 ⟨F,S,Γ,{E with nx:=u E},r,g,q,fun Γ1 J σ1 H1 z B g1 D=>⟨F,J,Γ1,E,B,g1,D,c.ext z⟩,c.rt,c.bk,c.ct⟩
theorem aQ4(h1:PSD K X st t):PSsD K X [st] t:=⟨dZ2 h1.o⟩
theorem aJz{tg e:Expr}{te:ED}{g:GD}(he:PD K X e te)(hg:PGD K X tg g)(hs:swapsWithSole [tg] e pos.line X.env=pure false:=by rfl)(hw:swappedStores [tg] e X.env=pure none:=by rfl)
  (h1:(assignEach [tg] X.env).map (·.2)=[assign tg X.env]:=by rfl):PSD K X (.Assign [tg] e pos) (dAsg te g):=.of (dJx he.o hg.o hs hw h1) λO σ H z=>z.el λF S Γ E r g q c =>
 ⟨F,S,Γ,_,r,g,q,λv d H1 N j D v1 J=>⟨F,N,Γ,d,_,D,g.ext j,v1,J,fun Γ2 L σ2 H2 B=>c.nx Γ2 L σ2 H2 (j.trans B)⟩⟩
theorem eZq{te:ED}{i:Nat}:∀D' σ H,upS K (dAsg te (aZ7 i)) D' σ H->tAsg (upE K te) (cXu i) D' σ H:=λD' σ H z=>z.el λF S Γ E r g q c =>
 ⟨F,S,Γ,_,r,g,q,λv d H1 J j B v1 D=>c.nx _ J _ H1 j B ((g.ext j).set v1 i) D⟩
theorem aQa{i:Nat}{x:Str}{e:Expr}{te:ED}{pos':Pos}(hN:X.N.Nodup)(hi:X.N[i]?=some x)(hx:Loc X.env.scope x)(he:PD K X e te)(hs:ix e (some (.Name x pos')) pos.line X.env=pure false:=by rfl)(hf:X.fn x=true\/X.env.scope.names.lookup x=some .local:=by first|exact .inl rfl|exact .inr rfl|assumption) :
  PSD K X (.Assign [.Name x pos'] e pos) (dAsg te (aZ7 i)):=.of (dJy hN hi hx he.o hs hf) eZq
theorem aZf{e:Expr}{te:ED}(he:PD K X e te)(hs:ix e none pos.line X.env=pure false:=by rfl):PSD K X (.Expr e pos) (fQ0 te):=.of (dZ3 he.o hs) λL σ H z=>z.el λF S Γ E r g q c =>
 ⟨F,S,Γ,_,r,g,q,λv d H1 J j B v1 D=>c.nx Γ J σ H1 j B (g.ext j) D⟩
theorem aQf{e:Expr}{te:ED}(he:PD K X e te):PSD K X (.Return (some e) pos) (dRet te):=.of (dJv he.o) λL σ H j=>j.el λF S Γ E r g q c =>
 ⟨F,S,Γ,_,r,g,q,λv d H1 J z B v1 D=>c.rt v d H1 J z B v1 D⟩
theorem aXi{c:Expr}{sa sb:List Stmt}{tc:TD}(hc:PTD K X c tc)(ha:PSsD K X sa t)(hb:PSsD K X sb u):PSD K X (.If c sa sb pos) (dIfS tc t u):=.of (eJ9 hc.o ha.o hb.o) λN σ H L=>L.el λF S Γ E r g q c =>
 ⟨F,S,Γ,_,r,g,q,λz H1 J j B D=>by
  cases z with
  |true=>exact⟨F,J,Γ,E,B,g.ext j,D,c.ext j⟩
  |false=>exact⟨F,J,Γ,E,B,g.ext j,D,c.ext j⟩⟩
def eZr(c:TD)(tb:SD):SD:=λE Γ S=>∃W:Nat->Gm->Sto->Prop,(∃m,W m Γ S)/\∀m Γ S,W m Γ S ->
 c Γ S λb S1=>if b=true then tb {E with nx:=fun Γ' S'=>∃m',m'<m/\W m' Γ' S',ct:=fun Γ' S'=>∃m',m'<m/\W m' Γ' S',bk:=E.nx} Γ S1 else E.nx Γ S1
theorem bXr{c:Expr}{body:List Stmt}{tc:TD}{tb:SD}(hp:PassesOwn (az X.prog X.w) X.A X.env X.xe)(hc:PTD K X c tc)(hb:PSsD K X body tb):PSD K X (.While c body [] pos) (eZr tc tb):=.of (cXv hp hc.o hb.o) λD' σ H ⟨F,S,Γ,E,r,g,⟨W,⟨m0,w0⟩,turn⟩,c⟩ =>
 ⟨λm σ' H'=>∃ S' Γ',Ext S H S' H'/\Rp K F S' H'/\RepG K (mt S' F) H' Γ' σ'/\W m Γ' S',⟨m0,S,Γ,Ext.refl _ _,r,g,w0⟩,λm σ1 H1 ⟨Y,Γ1,J,r1,g1,Z⟩ =>
  ⟨F,Y,Γ1,_,r1,g1,turn m Γ1 Y Z,λz H2 U D N O=>by
   cases z with
   |false=>exact c.nx Γ1 U σ1 H2 (J.trans D) N (g1.ext D) O
   |true =>
    refine⟨fun σ' H'=>∃j,j<m/\∃S' Γ',Ext S H S' H'/\Rp K F S' H'/\RepG K (mt S' F) H' Γ' σ'/\W j Γ' S',fun σ' H' ⟨j,h1,h2⟩=>⟨j,h1,h2⟩,F,U,Γ1,_,N,g1.ext D,O,?_,λv d H' S' B=>c.rt v d H' S' (J.trans (D.trans B)),fun Γ' S' σ' H' B=>c.nx Γ' S' σ' H' (J.trans (D.trans B)),?_⟩
    ·exact fun Γ' S' σ' H' B L g3 ⟨j,h1,h2⟩=>⟨j,h1,S',Γ',J.trans (D.trans B),L,g3,h2⟩
    ·exact fun Γ' S' σ' H' B L g3 ⟨j,h1,h2⟩=>⟨j,h1,S',Γ',J.trans (D.trans B),L,g3,h2⟩⟩⟩
end
def FE(F:Am)(H:Hp)(F2:Am):Prop:=∀a,F2 a->F a\/H a=none
theorem FE.refl(F:Am)(H:Hp):FE F H F:=λ_ h=>.inl h
structure ExtW(F:Am)(S:Sto)(H:Hp)(S':Sto)(H':Hp):Prop where
 keep:∀a o,¬ mt S F a->H a=some o->H' a=some o
 new:∀a,S' a≠none->S a≠none\/H a=none
theorem Ext.w{F:Am}{S S':Sto}{H H':Hp}(x:Ext S H S' H'):ExtW F S H S' H':=⟨λa o h e=>x.keep a o (bi λn=>h (.inl n)) e,x.new⟩
theorem ExtW.kpF{F F2:Am}{S S':Sto}{H H':Hp}(x:ExtW F S H S' H')(f:FE F H F2):Keep (mt S F) H (mt S' F2) H':=⟨x.keep,λa h e=>λz=>by
 rcases z with z|z
 ·rcases x.new a z with y|y
  ·exact h (.inl y)
  ·exact e y
 ·rcases f a z with y|y
  ·exact h (.inr y)
  ·exact e y⟩
structure ItOk(K:Fg)(F:Am)(S:Sto)(H:Hp)(J:It)(xs:List D)(G:Sto->Prop):Prop where
 go:∀F2,FE F H F2->∀S2 H2,ExtW F S H S2 H2->Rp K F2 S2 H2->G S2->∀i d,xs[i]?=some d->J.go i H2/\∀x H3,J.yld i H2 x H3->Ext S2 H2 S2 H3/\Rp K F2 S2 H3/\RepV K (mt S2 F2) H3 d x
 stop:∀F2,FE F H F2->∀S2 H2,ExtW F S H S2 H2->Rp K F2 S2 H2->G S2->J.stop xs.length H2
abbrev IDk:=List D->(Sto->Prop)->Sto->Prop
abbrev ID:=Gm->Sto->IDk->Prop
def upI(K:Fg)(t:ID):TI:=fun σ H R=>∃F S Γ QD,Rp K F S H/\RepG K (mt S F) H Γ σ/\t Γ S QD/\∀J xs G H' S',Ext S H S' H'->Rp K F S' H'->ItOk K F S' H' J xs G->QD xs G S'->R J H'
theorem upI.el{K:Fg}{t:ID}{σ:St}{H:Hp}{R:It->Hp->Prop}{p:Prop}(h:upI K t σ H R)(k:∀F S Γ QD,Rp K F S H->RepG K (mt S F) H Γ σ->t Γ S QD->(∀J xs G H' S',Ext S H S' H'->Rp K F S' H'->ItOk K F S' H' J xs G->QD xs G S'->R J H')->p):p:=by
 obtain⟨F,S,Γ,QD,h0,h1,h2,j⟩:=h;exact k F S Γ QD h0 h1 h2 j
structure PID(K:Fg)(X:Cx)(tg e:Expr)(t:ID):Prop where
 o:PI X tg e (upI K t)
theorem PID.of{tg e:Expr}{te:TI}{t:ID}(h:PI X tg e te)(i:∀σ H Q,upI K t σ H Q->te σ H Q):PID K X tg e t:=⟨λpins s σ H Q I q=>h pins s σ H Q I (i σ H Q q)⟩
def iSq(K:Fg)(tl:TE):TI:=fun σ H R=>tl σ H λx H1=>(∃a,x=.ref a/\(∃xs,SqL K H1 a xs)/\R (Itl K a) H1)\/∃a,x=.ref a/\(∃xs,SqT K H1 a xs)/\R (Itt K a) H1
theorem fQ1{tg l:Expr}{tl:TE}(hl:PE X l tl)(hK:X.K=K:=by rfl):PI X tg l (iSq K tl):=by
 subst hK;intro pins s σ H R I h;refine thn (hl pins s σ H _ I h) λv s1 ⟨x,H1,j,r1,J⟩=>?_;have B:∀b∈[s1.heap.objs.size],FpOk X pins H1 b:=λb N=>by
  have e:b=s1.heap.objs.size:=by simpa using N
  subst e;exact j.fpOk (Nat.le_refl _) (j.hok.fresh (Nat.le_refl _))
 rcases J with⟨a,e,⟨xs,z⟩,q⟩|⟨a,e,⟨xs,z⟩,q⟩
 ·subst e;cases r1;obtain⟨its,D,p,L⟩:=j.list z;exact h8 p.isList ⟨s1.heap.objs.size,[s1.heap.objs.size],_,_,H1,rfl,j.kept (t':=s1.toks) λb o e=>ae _ e,bJz a _,⟨_,ax _ rfl,rfl,rfl⟩,B,q⟩
 ·subst e;cases r1;obtain⟨its,D,p,L⟩:=j.tuple z;exact gY (show s1.heap.IsTuple a its.toArray from p) ⟨s1.heap.objs.size,[s1.heap.objs.size],_,_,H1,rfl,j.kept (t':=s1.toks) λb o e=>ae _ e,bJa a _,⟨_,ax _ rfl,rfl,rfl⟩,B,q⟩
def guard(d:D)(xs:List D):Sto->Prop:=match d with
 |.ref a=>λS=>S a=some (.lst xs)
 |_=>λ_=>True
def dSq(te:ED):ID:=fun Γ S Q=>te Γ S λd S1=>∃xs,sqIs S1 d xs/\Q xs (guard d xs) S1
theorem dX9{F:Am}{S:Sto}{H:Hp}{p:Addr}{xs:List D}{us:List V}{G:Sto->Prop}(t:TupAt K (mt S F) H p us)(l:RepL K (mt S F) H xs us):ItOk K F S H (Itt K p) xs G where
 go:=λU f O H2 x z _ i d hd=>by
  have j:=(t.keep (x.kpF f)).sq;obtain⟨v,B,L⟩:=l.get hd;refine⟨⟨us,v,j,B⟩,λy Y ⟨N,J⟩=>?_⟩;subst N
  have:=J us j
  rw[B] at this;cases this;exact⟨Ext.refl _ _,z,L.keep (x.kpF f)⟩
 stop:=λU f O H2 x z _=>⟨us,(t.keep (x.kpF f)).sq,by rw[l.length];exact Nat.le_refl _⟩
theorem dXa{F:Am}{S:Sto}{H:Hp}{p:Addr}{xs:List D}{us:List V}{G:Sto->Prop}(t:LstAt K (mt S F) H p us)(l:RepL K (mt S F) H xs us):ItOk K F S H (Itl K p) xs G where
 go:=λU f O H2 x z _ i d hd=>by
  obtain⟨v,B,L⟩:=l.get hd;have j:SqL K H2 p us:=(t.keep (x.kpF f)).sq;refine⟨⟨us,v,j,B⟩,λy Y ⟨N,J⟩=>?_⟩;subst N
  have:=J us j
  rw[B] at this;cases this;exact⟨Ext.refl _ _,z,L.keep (x.kpF f)⟩
 stop:=λU f O H2 x z _=>⟨us,(t.keep (x.kpF f)).sq,by rw[l.length];exact Nat.le_refl _⟩
theorem dXb{F:Am}{S:Sto}{H:Hp}{p:Addr}{xs:List D}:ItOk K F S H (Itl K p) xs (guard (.ref p) xs) where
 go:=λY f U H2 x j B i d hd=>by
  obtain⟨us,z,l⟩:=j.obj p _ B;obtain⟨v,J,N⟩:=l.get hd;refine⟨⟨us,v,SqL.of z,J⟩,λy Z ⟨O,L⟩=>?_⟩;subst O
  have:=L us (SqL.of z)
  rw[J] at this;cases this;exact⟨Ext.refl _ _,j,N⟩
 stop:=λY f U H2 x j B=>by
  obtain⟨us,z,l⟩:=j.obj p _ B;exact⟨us,SqL.of z,by rw[l.length];exact Nat.le_refl _⟩
theorem aZ5{tg l:Expr}{tl:ED}(hl:PD K X l tl)(hK:X.K=K:=by rfl):PID K X tg l (dSq tl):=.of (fQ1 hl.o hK) fun σ H Q J=>J.el λF S Γ QD r g q c =>
 ⟨F,S,Γ,_,r,g,q,λv d H1 N z j v1 D=>by
  obtain⟨xs,hs,B⟩:=D;cases d with
  |tup ys =>
   cases hs;unfold RepV at v1;obtain⟨p,us,rfl,t,l⟩:=v1;exact .inr ⟨p,rfl,⟨us,t.sq⟩,c _ _ _ _ _ z j (dX9 t l) B⟩
  |lst ys =>
   cases hs;unfold RepV at v1;obtain⟨p,us,rfl,t,l⟩:=v1;exact .inl ⟨p,rfl,⟨us,t.sq⟩,c _ _ _ _ _ z j (dXa t l) B⟩
  |ref p =>
   rw[rref v1];obtain⟨us,L,l⟩:=j.obj p _ hs;exact .inl ⟨p,rfl,⟨us,SqL.of L⟩,c _ _ _ _ _ z j dXb B⟩
  |_=>exact hs.elim⟩
def rngD(lo:Int):Nat->List D
 |0=>[]
 |n+1=>.int lo::rngD (lo+1) n
theorem aZt:∀(n:Nat) (lo:Int),(rngD lo n).length=n
 |0,_=>rfl
 |n+1,lo=>by simp[rngD,aZt n]
theorem aX4:∀(n:Nat) (lo:Int) (i:Nat) (d:D),(rngD lo n)[i]?=some d->i<n/\d=.int (lo+i)
 |0,lo,i,d,h=>by simp[rngD] at h
 |n+1,lo,0,d,h=>by simp[rngD] at h;exact⟨by lia,by rw[<- h];simp⟩
 |n+1,lo,i+1,d,h=>by
  have h':(rngD (lo+1) n)[i]?=some d:=by simpa [rngD] using h
  obtain⟨h1,h2⟩:=aX4 n (lo+1) i d h';refine⟨by lia,?_⟩
  rw[h2]
  congr 1
  rw[Int.natCast_add];lia
theorem cZe{F:Am}{S:Sto}{H:Hp}{lo:Int}{n:Nat}{G:Sto->Prop}:ItOk K F S H (Itr lo n) (rngD lo n) G where
 go:=λJ f D H2 x j _ i d hd=>by
  obtain⟨h1,rfl⟩:=aX4 n lo i d hd;exact⟨h1,λy L ⟨B,z⟩=>by subst B;subst z;exact⟨Ext.refl _ _,j,by unfold RepV;rfl⟩⟩
 stop:=λJ f D H2 x j _=>by rw[aZt];exact Nat.le_refl n
def fQ2(ta:AD):ID:=fun Γ S Q=>ta Γ S λds S1=>match ds with
 |[.int j]=>(-(2^62)<=j/\j<2^62)/\Q (rngD 0 j.toNat) (λ_=>True) S1
 |_=>False
def fQ3(ta:AD):ID:=fun Γ S Q=>ta Γ S λds S1=>match ds with
 |[.int i,.int j]=>(-(2^62)<=i/\i<2^62/\-(2^62)<=j/\j<2^62)/\Q (rngD i (j-i).toNat) (λ_=>True) S1
 |_=>False
theorem aX5{tg:Expr}{p:Pos}{ta:AD}(hg:Gl X "range")(hm:X.mg "range"=none)(ha:PAD K X [a] ta)(hs:av [a] X.env=[(false,eval a X.env)]:=by rfl):PID K X tg (.Call (.Name "range" p) [a] [] pos) (fQ2 ta):=.of (cQ0 hg hm ha.o hs) fun σ H Q B=>B.el λF S Γ QD r g q c =>
 ⟨F,S,Γ,_,r,g,q,λN ds H1 O D L v1 z=>by
  match ds,z with
  |[.int j],z =>
   obtain⟨v,rfl,J⟩:=v1.one;rw[rint J];exact⟨j,rfl,z.1.1,z.1.2,c _ _ _ _ _ D L cZe z.2⟩⟩
theorem cZf{tg:Expr}{p:Pos}{ta:AD}(hg:Gl X "range")(hm:X.mg "range"=none)(ha:PAD K X [a,b] ta)(hs:av [a,b] X.env=[(false,eval a X.env),(false,eval b X.env)]:=by rfl)(hs2:av [b] X.env=[(false,eval b X.env)]:=by rfl):PID K X tg (.Call (.Name "range" p) [a,b] [] pos) (fQ3 ta):=.of (cQ1 hg hm ha.o hs hs2) fun σ H Q D=>D.el λF S Γ QD r g q c =>
 ⟨F,S,Γ,_,r,g,q,λO ds H1 U J N v1 z=>by
  match ds,z with
  |[.int i,.int j],z =>
   obtain⟨v,w,rfl,L,B⟩:=v1.two;rw[rint L,rint B];exact⟨i,j,rfl,z.1,c _ _ _ _ _ J N cZe z.2⟩⟩
def cJi(x:Str):List D:=x.cps.toList.map λc=>.str ⟨#[c]⟩
def forD(g:GD)(tb:SD)(G:Sto->Prop)(E:EndsD):List D->Gm->Sto->Prop
 |[],Γ,S=>G S/\E.nx Γ S
 |x::xs,Γ,S=>G S/\g x Γ S fun Γ2 S2=>tb {E with nx:=forD g tb G E xs,ct:=forD g tb G E xs,bk:=E.nx} Γ2 S2
def dFor(wi:ID)(g:GD)(tb:SD):SD:=λE Γ S=>wi Γ S λxs G S1=>forD g tb G E xs Γ S1
theorem aZn{α:Type}{xs:List α}{i:Nat}(h:i<xs.length):xs.drop i=xs[i]::xs.drop (i+1):=bN h
theorem aX6{tg iter:Expr}{body:List Stmt}{wi:ID}{g:GD}{tb:SD}(hp:PassesOwn (az X.prog X.w) X.A X.env X.xe)(hc:X.calm=true)(hi:PID K X tg iter wi)(hg:PGD K X tg g)(hb:PSsD K X body tb)(hs:∀x,cu iter X.env x=pure x:=by intro _;rfl):PSD K X (.For tg iter body [] pos) (dFor wi g tb):=.of (eQ0 hp hc hi.o hg.o hb.o hs) λD' σ H z0=>z0.el λF S Γ E r gm q c =>
 ⟨F,S,Γ,_,r,gm,q,λJ xs G H1 S1 Z r1 it q1=>by
  refine⟨λi m σ' H'=>m=xs.length-i/\i<=xs.length/\∃S' Γ',Ext S1 H1 S' H'/\Rp K F S' H'/\RepG K (mt S' F) H' Γ' σ'/\forD g tb G E (xs.drop i) Γ' S',⟨xs.length,by simp,Nat.zero_le _,S1,Γ,Ext.refl _ _,r1,gm.ext Z,by simpa using q1⟩,?_⟩
  rintro i m σ' H' ⟨rfl,hi.o,S',Γ',Y,r2,g2,f2⟩
  by_cases N:i<xs.length
  ·rw[aZn N] at f2;obtain⟨hG,f2⟩:=f2;obtain⟨hgo,hy⟩:=it.go F (FE.refl F H1) S' H' Y.w r2 hG i xs[i] (ag N);refine .inr ⟨hgo,fun σ'' D=>∃B Γ'',Ext S1 H1 B D/\Rp K F B D/\RepG K (mt B F) D Γ'' σ''/\forD g tb G E (xs.drop (i+1)) Γ'' B,fun σ'' D z=>⟨xs.length-(i+1),by lia,rfl,N,z⟩,λx H3 y3=>?_⟩
   obtain⟨x3,r3,v3⟩:=hy x H3 y3;refine⟨F,S',Γ',xs[i],_,r3,g2.ext x3,v3,f2,fun Γ4 S4 σ4 H4 x4 r4 g4 q4=>⟨F,S4,Γ4,_,r4,g4,q4,?_⟩⟩;have j:=Y.trans (x3.trans x4);exact⟨fun Γ5 O σ5 U L r5 g5 q5=>⟨O,Γ5,j.trans L,r5,g5,q5⟩,λv d U O L=>c.rt v d U O (Z.trans (j.trans L)),fun Γ5 O σ5 U L=>c.nx Γ5 O σ5 U (Z.trans (j.trans L)),fun Γ5 O σ5 U L r5 g5 q5=>⟨O,Γ5,j.trans L,r5,g5,q5⟩⟩
  ·have e:i=xs.length:=by lia
   subst e;rw[dE] at f2;exact .inl ⟨it.stop F (FE.refl F H1) S' H' Y.w r2 f2.1,c.nx Γ' S' σ' H' (Z.trans Y) r2 g2 f2.2⟩⟩
end
end L2
set_option maxHeartbeats 1000000
namespace L2
open PySem PySem.Spec PyProof.Rows
section
variable{X:Cx}{K:Fg}{pos:Pos}{k:Nat}
structure ExtX(D':Addr)(S:Sto)(H:Hp)(S':Sto)(H':Hp):Prop where
 keep:∀a o,a≠D'->S a=none->H a=some o->H' a=some o
 live:∀a,H a≠none->H' a≠none
 new:∀a,S' a≠none->S a≠none\/H a=none
theorem Ext.x{D':Addr}{S S':Sto}{H H':Hp}(x:Ext S H S' H'):ExtX D' S H S' H':=⟨λa o _=>x.keep a o,x.live,x.new⟩
theorem ExtX.trans{D':Addr}{S S1 S2:Sto}{H H1 H2:Hp}(x:ExtX D' S H S1 H1)(y:ExtX D' S1 H1 S2 H2):ExtX D' S H S2 H2 :=
  ⟨λa o n h h' => y.keep a o n (by
      cases e:S1 a with
      |none =>rfl
      | some z => rcases x.new a (by rw [e]; exact λz => by cases z) with z | z
                  · exact absurd h z
                  · rw [h'] at z; cases z) (x.keep a o n h h'),λa h =>y.live a (x.live a h),λa h =>by
    rcases y.new a h with z|z
    · exact x.new a z
    · exact .inr (bi λn =>x.live a n z)⟩
theorem ExtX.kp{D':Addr}{F:Am}{S S':Sto}{H H':Hp}(x:ExtX D' S H S' H')(hF:F D'):Keep (mt S F) H (mt S' F) H':=⟨λa o h e=>x.keep a o (by rintro rfl;exact h (.inr hF)) (bi λn=>h (.inl n)) e,λa h e=>λz=>by
 rcases z with z|z
 ·rcases x.new a z with y|y
  ·exact h (.inl y)
  ·exact e y
 ·exact h (.inr z)⟩
theorem ExtX.w{D':Addr}{F:Am}{S S':Sto}{H H':Hp}(x:ExtX D' S H S' H')(hF:F D'):ExtW F S H S' H':=⟨λa o h e=>x.keep a o (by rintro rfl;exact h (.inr hF)) (bi λn=>h (.inl n)) e,x.new⟩
def Free(L:List Nat)(σ:St):Prop:=∀i∈L,σ[i]?=some none
abbrev BD:=Gm->Sto->List D->(List D->Sto->Prop)->Prop
def bXs(K:Fg)(L:List Nat)(tv:Addr->TB)(td:BD):Prop:=∀D' F S H Γ σ acc zs N QD,Free L σ->F D'->Rp K F S H->RepG K (mt S F) H Γ σ->H D'=some (.lst zs)->RepL K (mt S F) H acc zs->td Γ S acc QD ->
 (∀acc' S' H' zs',ExtX D' S H S' H'->Rp K F S' H'->H' D'=some (.lst zs')->RepL K (mt S' F) H' acc' zs'->QD acc' S'->N H')->tv D' σ H N
def aXj(te:ED):BD:=fun Γ S acc Q=>te Γ S λy S1=>acc.length<sizeLine/\Q (acc++[y]) S1
theorem aQl{L:List Nat}{te:ED}:bXs K L (λD'=>eQn D' (upE K te)) (aXj te):=by
 intro D' F S H Γ σ acc zs N QD _ j r g hH l q c;refine⟨F,S,Γ,_,r,g,q,λv d H1 B D J v1 ⟨Y,U⟩=>?_⟩;have Z:S D'=none:=(r.frm D' j).2;have O:B D'=none:=(J.frm D' j).2;have h1:H1 D'=some (.lst zs):=D.keep _ _ Z hH;have y:ExtX D' B H1 B (upd H1 D' (.lst (zs++[v]))):=⟨λa o n _ e=>by rw[upd_ne n];exact e,λa h=>by
  by_cases e:a=D'
  ·subst e;rw[aQ7];exact λz=>by cases z
  ·rw[upd_ne e];exact h,λa h=>.inl h⟩
 refine⟨zs,h1,by rw[l.length];exact Y,c _ B _ (zs++[v]) (D.x.trans y) ?_ aQ7 ?_ U⟩
 ·exact⟨λa o e=>(J.obj a o e).keep (y.kp j) (upd_ne (by rintro rfl;rw[O] at e;cases e)),λa h=>by
   obtain⟨⟨ys,e,ct⟩,h2⟩:=J.frm a h
   by_cases z:a=D'
   ·subst z;exact⟨⟨_,aQ7,trivial⟩,h2⟩
   ·exact⟨⟨ys,by rw[upd_ne z];exact e,ct⟩,h2⟩⟩
 ·exact RepL.app ((l.ext D).keep (y.kp j)) (RepL.cons (v1.keep (y.kp j)) RepL.nil)
def CG(K:Fg)(L L':List Nat)(g:TG)(gd:GD):Prop:=∀F S H Γ σ d v Q QD,Free L σ->Rp K F S H->RepG K (mt S F) H Γ σ->RepV K (mt S F) H d v->gd d Γ S QD->(∀Γ' S' σ' H',Ext S H S' H'->Rp K F S' H'->RepG K (mt S' F) H' Γ' σ'->Wk σ σ'->Free L' σ'->QD Γ' S'->Q σ' H')->g v σ H Q
theorem Free.set{L:List Nat}{σ:St}{i:Nat}{v:V}(h:Free (i::L) σ)(hi:i∉L):Free L (σ.set i (some v)):=λj z=>by
 rw[eK (by rintro rfl;exact hi z)]
 exact h j (au _ z)
theorem cg_name{L:List Nat}{i:Nat}(hi:i∉L:=by decide):CG K (i::L) L (cXu i) (aZ7 i):=λF S H Γ σ d v Q QD f r g j q c=>c _ S _ H (Ext.refl _ _) r (g.set j i) (eJl (f i aA)) (f.set hi) q
def aZ1(g:GD)(tt:TD)(tb:BD)(G:Sto->Prop)(Γ0:Gm):List D->List D->Sto->(List D->Sto->Prop)->Prop
 |[],acc,S,Q=>G S/\Q acc S
 |x::xs,acc,S,Q=>G S/\g x Γ0 S fun Γ2 S2=>tt Γ2 S2 λb S3=>if b=true then tb Γ2 S3 acc λacc' S4=>aZ1 g tt tb G Γ0 xs acc' S4 Q else aZ1 g tt tb G Γ0 xs acc S3 Q
theorem dXc{L L':List Nat}{g:TG}{gd:GD}{tt:TD}{tv:Addr->TB}{tb:BD}(hg:CG K L L' g gd)(hb:bXs K L' tv tb){D':Addr}{F:Am}{S:Sto}{H:Hp}{Γ:Gm}{σ:St}{acc:List D}{zs:List V}{N:Hp->Prop}{QD:List D->Sto->Prop}{J:It}{xs:List D}{G:Sto->Prop}
  (f:Free L σ) (hF:F D') (r:Rp K F S H) (gm:RepG K (mt S F) H Γ σ) (hH:H D'=some (.lst zs)) (l:RepL K (mt S F) H acc zs) (it:∀S2 H2,ExtX D' S H S2 H2->Rp K F S2 H2->G S2->(∀i d,xs[i]?=some d->J.go i H2/\∀x H3,J.yld i H2 x H3->Ext S2 H2 S2 H3/\Rp K F S2 H3/\RepV K (mt S2 F) H3 d x)/\J.stop xs.length H2)
  (q:aZ1 gd tt tb G Γ xs acc S QD) (c:∀acc' S' H' zs',ExtX D' S H S' H'->Rp K F S' H'->H' D'=some (.lst zs')->RepL K (mt S' F) H' acc' zs'->QD acc' S'->N H'):bZu J σ g (upT K tt) (tv D') N H:=by
 refine⟨λi m H'=>m=xs.length-i/\i<=xs.length/\∃S' acc' zs',ExtX D' S H S' H'/\Rp K F S' H'/\H' D'=some (.lst zs')/\RepL K (mt S' F) H' acc' zs'/\aZ1 gd tt tb G Γ (xs.drop i) acc' S' QD,⟨xs.length,by simp,Nat.zero_le _,S,acc,zs,(Ext.refl _ _).x,r,hH,l,by simpa using q⟩,?_⟩
 rintro i m H' ⟨rfl,hi,S',acc',zs',x2,r2,h2,l2,f2⟩;have g2:=gm.keep (x2.kp hF)
 by_cases Z:i<xs.length
 ·rw[aZn Z] at f2;obtain⟨hG,f2⟩:=f2;obtain⟨hgo,hy⟩:=(it S' H' x2 r2 hG).1 i xs[i] (ag Z);refine .inr ⟨hgo,λB=>∃O j U,ExtX D' S H O B/\Rp K F O B/\B D'=some (.lst U)/\RepL K (mt O F) B j U/\aZ1 gd tt tb G Γ (xs.drop (i+1)) j O QD,λB z=>⟨xs.length-(i+1),by omega,rfl,Z,z⟩,λx H3 y3=>?_⟩
  obtain⟨x3,r3,v3⟩:=hy x H3 y3;refine hg F S' H3 Γ σ xs[i] x _ _ f r3 (g2.ext x3) v3 f2 fun Γ4 S4 σ4 H4 x4 r4 g4 wk fr4 q4=>⟨wk,F,S4,Γ4,_,r4,g4,q4,λz H5 S5 x5 r5 q5=>?_⟩;have Y:=x3.trans (x4.trans x5);have h5:H5 D'=some (.lst zs'):=Y.keep _ _ (r2.frm D' hF).2 h2;have l5:=l2.ext Y;have x05:ExtX D' S H S5 H5:=x2.trans Y.x;cases z with
  |false=>exact⟨S5,acc',zs',x05,r5,h5,l5,q5⟩
  |true=>exact hb D' F S5 H5 Γ4 σ4 acc' zs' _ _ fr4 hF r5 (g4.ext x5) h5 l5 q5 λacc6 S6 H6 zs6 x6 r6 h6 l6 q6=>⟨S6,acc6,zs6,x05.trans x6,r6,h6,l6,q6⟩
 ·have e:i=xs.length:=by omega
  subst e;rw[dE] at f2;exact .inl ⟨(it S' H' x2 r2 f2.1).2,c acc' S' H' zs' x2 r2 h2 l2 f2.2⟩
def eZs(wi:ID)(g:GD)(tt:TD)(tb:BD):BD:=fun Γ S acc Q=>wi Γ S λxs G S1=>aZ1 g tt tb G Γ xs acc S1 Q
def cZg(is:List (Option Nat))(Γ:Gm):Gm:=is.map λo=>o.bind λi=>(Γ[i]?).join
theorem RepG.at{M:Am}{H:Hp}:∀{g:Gm}{σ:St}{i:Nat}{d:D},RepG K M H g σ->g[i]?=some (some d)->∃v,σ[i]?=some (some v)/\RepV K M H d v
 |[],_,_,_,_,e=>by simp at e
 |none::g,_,0,_,_,e=>by simp at e
 |some d::g,_,0,e,⟨v,τ,rfl,q,r⟩,h=>by simp at h;subst h;exact⟨v,rfl,q⟩
 |none::g,_,i+1,d,⟨v,τ,rfl,r⟩,h=>by
  obtain⟨u,j,h1⟩:=RepG.at (i:=i) r (by simpa using h)
  exact⟨u,by simpa using j,h1⟩
 |some _::g,_,i+1,d,⟨v,τ,rfl,q,r⟩,h=>by
  obtain⟨u,j,h1⟩:=RepG.at (i:=i) r (by simpa using h)
  exact⟨u,by simpa using j,h1⟩
theorem RepG.capt{M:Am}{H:Hp}{g:Gm}{σ:St}(h:RepG K M H g σ):∀is:List (Option Nat),RepG K M H (cZg is g) (capt is σ)
 |[]=>rfl
 |o::is=>by
  have j:=RepG.capt h is;cases o with
  |none=>exact⟨_,_,rfl,j⟩
  |some i =>
   show RepG K M H ((g[i]?).join::cZg is g) ((σ[i]?).join::L2.capt is σ);cases e:g[i]? with
   |none=>exact⟨_,_,rfl,j⟩
   |some z =>
    cases z with
    |none=>exact⟨_,_,rfl,j⟩
    |some d =>
     obtain⟨v,B,r⟩:=h.at e;rw[B];exact⟨v,_,rfl,r,j⟩
def eZt(b:Bool)(is:List (Option Nat))(wi:ID)(g:GD)(tt:TD)(tb:BD):ED:=fun Γ S Q=>wi Γ S λxs G S1=>aZ1 g tt tb G (cZg is Γ) xs [] S1 λacc S2=>newL b acc S2 Q
theorem dXd{b:Bool}{L L':List Nat}{is:List (Option Nat)}{wi:ID}{g:TG}{gd:GD}{tt:TD}{tv:Addr->TB}{tb:BD}(hL:∀σ,Free L (capt is σ))(hg:CG K L L' g gd)(hb:bXs K L' tv tb):∀σ H Q,upE K (eZt b is wi gd tt tb) σ H Q->cQl is (upI K wi) g (upT K tt) tv σ H Q:=fun σ H Q z0=>z0.el λF S Γ QD r gm q c =>
 ⟨F,S,Γ,_,r,gm,q,λJ xs G H1 D x1 r1 it q1 D' B=>by
  have U:D D'=none:=r1.sn B;have fe:FE F H1 (λa=>F a\/a=D'):=λa h=>h.elim .inl λe=>.inr (by rw[e];exact B)
  have nF:¬ F D':=λh=>by
   obtain⟨⟨ys,e,_⟩,_⟩:=r1.frm D' h;rw[B] at e;cases e
  have xe:Ext D H1 D (upd H1 D' (.lst [])):=Ext.same (aZs B);have kp:Keep (mt D F) H1 (mt D λa=>F a\/a=D') (upd H1 D' (.lst [])):=xe.w.kpF fe;have r2:Rp K (λa=>F a\/a=D') D (upd H1 D' (.lst [])):=⟨λa o e=>(r1.obj a o e).keep kp (upd_ne (by rintro rfl;rw[U] at e;cases e)),λa h=>by
   rcases h with h|h
   ·obtain⟨⟨ys,e,ct⟩,h2⟩:=r1.frm a h;exact⟨⟨ys,by rw[upd_ne (by rintro rfl;rw[B] at e;cases e)];exact e,ct⟩,h2⟩
   ·subst h;exact⟨⟨_,aQ7,trivial⟩,U⟩⟩
  have old:∀ {N H2},ExtX D' D (upd H1 D' (.lst [])) N H2->Ext D H1 N H2:=λ{N H2} y=>⟨λa o h e=>y.keep a o (by rintro rfl;rw[B] at e;cases e) h (by rw[upd_ne (by rintro rfl;rw[B] at e;cases e)];exact e),λa h=>y.live a (xe.live a h),λa h=>by
   rcases y.new a h with z|z
   ·exact .inl z
   ·by_cases e:a=D'
    ·subst e;exact .inr B
    ·rw[upd_ne e] at z;exact .inr z⟩
  refine dXc hg hb (hL σ) (F:=λa=>F a\/a=D') (.inr rfl) r2 ((gm.ext x1).keep kp |>.capt is) aQ7 RepL.nil (λN H2 y r2 hG=>⟨it.go _ fe N H2 (old y).w r2 hG,it.stop _ fe N H2 (old y).w r2 hG⟩) q1 λj S' H' O y r3 h3 l3 q3=>?_
  have less:Keep (mt S' λa=>F a\/a=D') H' (mt S' F) H':=⟨λ_ _ _ e=>e,λa h _=>λz=>h (z.elim .inl λw=>.inr (.inl w))⟩;have Z:=old y;have Y:S' D'=none:=(r3.frm D' (.inr rfl)).2;have r4:Rp K F S' H':=⟨λa o e=>(r3.obj a o e).keep less rfl,λa h=>r3.frm a (.inl h)⟩;have nm:¬ mt S' F D':=λz=>z.elim (λw=>w Y) nF;cases b with
  |false =>
   refine c (.ref D') (.lst j) H' S' (x1.trans Z) r4 ?_ q3;unfold RepV;exact⟨D',O,rfl,.inl ⟨nm,.inl h3⟩,l3.keep less⟩
  |true =>
   have x5:Ext D H1 (supd S' D' (.lst j)) H':=⟨Z.keep,Z.live,λa h=>by
    by_cases e:a=D'
    ·subst e;exact .inr B
    ·rw[aQ6 e] at h;exact Z.new a h⟩
   have k6:Keep (mt S' λa=>F a\/a=D') H' (mt (supd S' D' (.lst j)) F) H':=⟨λ_ _ _ e=>e,λa h _=>λz=>by
    rcases z with z|z
    ·by_cases e:a=D'
     ·exact h (.inr (.inr e))
     ·rw[aQ6 e] at z;exact h (.inl z)
    ·exact h (.inr (.inl z))⟩
   refine c (.ref D') (.ref D') H' (supd S' D' (.lst j)) (x1.trans x5) ⟨λa o e=>?_,λa h=>⟨(r4.frm a h).1,?_⟩⟩ (by unfold RepV;rfl) (q3 D' Y)
   ·by_cases e1:a=D'
    ·subst e1;rw[supd_same] at e;cases e;exact⟨O,h3,l3.keep k6⟩
    ·rw[aQ6 e1] at e;exact(r3.obj a o e).keep k6 rfl
   ·rw[aQ6 (by rintro rfl;exact nF h)];exact(r4.frm a h).2⟩
def dYes:TD:=λ_ S Q=>Q true S
theorem aQr:PTs X [] (upT K dYes):=λpins s σ H Q I j=>j.el λF S Γ QD r g q c=>dZf pins s σ H Q I (c true H S (Ext.refl _ _) r q)
theorem aQh{L:List Nat}{is:List (Option Nat)}(h:(L.all λi=>decide (is[i]?=some none))=true):∀σ,Free L (capt is σ):=fun σ i hi=>by
 have:=of_decide_eq_true (bI.mp h i hi)
 unfold capt;rw[aK,this]
 rfl
theorem aX2{c:Expr}{t:TD}(h:PTD K X c t):PTs X [c] (upT K t):=dZg h.o
end
end L2
set_option maxHeartbeats 4000000
namespace L2
open PySem PySem.Spec PyProof.Rows
section
variable{prog:aC}{w:aL}{s:ah}
def Col(prog:aC)(w:aL)(s:ah)(v:ad)(Pv:List ad->Prop):Prop:=∀(A:aO) (E:ad->ah->Prop) (R:List ad->ah->Prop),A.handled=none ->
 (∀vals h' d tk,Pv vals->(∀b o,s.heap.get? b=some o->h'.get? b=some o)->R vals {s with heap:=h',drawn:=d,toks:=tk})->aF (az prog w) A (collect v) R E s
theorem cZh{a:Addr}{T:String}{o:Obj}{its:List ad}{n:Nat}(hT:T="list"\/T="tuple")(ho:s.heap.get? a=some o)(hc:o.cls=.type T)(hd:o.data=.seq its.toArray n)(hz:its.length<=sizeLine):Col prog w s (.ref a) (·=its):=λA E R _ h =>
 wpAny_collect_seq a hT ho hc hd (λh' k=>by
  have:=h its h' s.drawn s.toks rfl k
  simpa using this) (by simpa using hz)
theorem cJj{a:Addr}{vs:List (Key×ad)}(lo:(a==dH)=false)(hd:s.heap.DictOf (aQm prog w) a vs)(hz:vs.length<=sizeLine):Col prog w s (.ref a) (λvals=>vals.length=vs.length/\∀(j:Nat) (v:ad),vals[j]?=some v->∃(k:Key) (x:ad),vs[j]?=some (k,x)/\bQt k v=true):=λA E R hh h=>by
 obtain⟨ep,B⟩:=hd.dictAt;refine PySem.W.kdu_collect (PySem.W.kdl_dict (knd:=aQm prog w) (kvs:=vs) (ep:=ep) lo) hh B hz λh' D acc J z=>?_;exact h acc.toList h' s.drawn D ⟨by rw[aJ];exact z.1,λj v e=>z.2 j v (by rw[<- aT];exact e)⟩ J
theorem aZu{A:aO}{E:ad->ah->Prop}{v:ad}{Pv:List ad->Prop}{Q:ad->ah->Prop}(hh:A.handled=none)(col:Col prog w s v Pv)(hz:∀vals,Pv vals->vals.length<=sizeLine)
  (srt:∀(vals:List ad) (h1:aY) (d:Drawn) (tk:Nat),Pv vals->(∀b o,s.heap.get? b=some o->h1.get? b=some o)->aF (az prog w) A.in1.in1 (cK.«list.sort» ⟨[.ref h1.objs.size],[]⟩) (λfin s'=>fin=.done (.ret .none)/\Q (.ref h1.objs.size) s') E {s with heap:=h1.push (be "list" vals.toArray 0),drawn:=d,toks:=tk}) :
  aF (az prog w) A (call (.builtin "sorted") [v]) Q E s:=by
 refine g7 kind_sorted plain_sorted entry_sorted (args_sorted1 _) ?_;unfold cK.«sorted»;refine aa (m:=checkCount "sorted" 1 1 _) (af ?_);refine aa (col A.in1 _ _ (by simp[hh]) λvals h1 d tk pv kp=>?_)
 refine aa (wpAny_newList ?_ (hz vals pv));have j:(h1.push (be "list" vals.toArray 0)).get? h1.objs.size=some (be "list" vals.toArray 0):=ax _ rfl;refine aa (bM (dD slot_list_sort ⟨_,j,rfl⟩ entry_list_sort ?body (args_list_sort _)))
 case body =>
  refine cr (srt vals h1 d tk pv kp) (λfin s' ⟨e,q⟩=>?_) λ_ _ e=>e;subst e;exact⟨_,rfl,af ⟨_,rfl,q⟩⟩
theorem aJj{h:aY}{a:Addr}{vs:List ad}{n:Nat}{out:Array ad}(ho:h.get? a=some (be "list" vs.toArray n)):(∃c,(fu h a vs out).get? a=some (be "list" out c))/\∀b o,b≠a->h.get? b=some o->(fu h a vs out).get? b=some o:=by
 unfold fu;obtain⟨D,j⟩:∃D,(h.update a (ba λ_=>(#[]:Array ad))).get? a=some (be "list" #[] D):=⟨_,dR ho λ_=>#[]⟩;have J:=cj h a (ba λ_=>(#[]:Array ad));have z:∀b o,(h.update a (ba λ_=>(#[]:Array ad))).get? b=some o->(((h.update a (ba λ_=>(#[]:Array ad))).push (be "tuple" vs.toArray 0)).push (be "list" #[] 0)).get? b=some o:=λb o e=>ae _ (ae _ e);refine⟨⟨_,dR (z _ _ j) λ_=>out⟩,λb o B e=>?_⟩;have s2:=cj (((h.update a (ba λ_=>(#[]:Array ad))).push (be "tuple" vs.toArray 0)).push (be "list" #[] 0)) a (ba λ_=>out);exact(s2.2 b B).trans (z b o ((J.2 b B).trans e))
theorem cZi{A:aO}{E:ad->ah->Prop}{a:Addr}{vs:List ad}{ss:List Str}{n:Nat}{P:iI->ah->Prop}(ho:s.heap.get? a=some (be "list" vs.toArray n))(hS:iU vs ss)(h64:vs.length<=sizeLine)
  (h:∀(out:List ad) (ss':List Str) (h':aY) (c:Nat),iU out ss'->ss'.Perm ss->sortedS ss'=true->h'.get? a=some (be "list" out.toArray c)->(∀b o,b≠a->s.heap.get? b=some o->h'.get? b=some o)->P (.done (.ret .none)) {s with heap:=h'}) :
  aF (az prog w) A (cK.«list.sort» ⟨[.ref a],[]⟩) P E s:=by
 refine SF.treeK strKind_oneLt ho hS.keysOf (λB z rest e=>keyKind_strs (by rw[<- e];exact hS)) h64 λj J D=>?_
 obtain⟨ss',h1,h2,O⟩:=sorted_out_str hS J D;obtain⟨⟨c,N⟩,L⟩:=aJj (out:=(aH j).map (·.2)) ho;exact h _ ss' _ c h1 h2 O (by rw[N]) L
theorem cZj{A:aO}{E:ad->ah->Prop}{a:Addr}{vs:List ad}{ns:List Int}{n:Nat}{P:iI->ah->Prop}(ho:s.heap.get? a=some (be "list" vs.toArray n))(hI:gw vs ns)(h64:vs.length<=sizeLine)
  (h:∀(out:List ad) (ns':List Int) (h':aY) (c:Nat),gw out ns'->ns'.Perm ns->ns'.Pairwise (·<=·)->h'.get? a=some (be "list" out.toArray c)->(∀b o,b≠a->s.heap.get? b=some o->h'.get? b=some o)->P (.done (.ret .none)) {s with heap:=h'}) :
  aF (az prog w) A (cK.«list.sort» ⟨[.ref a],[]⟩) P E s:=by
 refine SF.treeI ho hI h64 λout ns' h1 h2 B=>?_;obtain⟨⟨c,z⟩,j⟩:=aJj (out:=out) ho;exact h _ ns' _ c h1 h2 B (by rw[z]) j
end
section
variable{X:Cx}{K:Fg}
def Src(K:Fg)(H:Hp)(x:V)(us:List V):Prop:=∃a,x=.ref a/\(SqL K H a us\/SqT K H a us\/∃kvs:List (Key×V),H a=some (.dK kvs)/\us=kvs.map λp=>kV p.1)
theorem bZb:∀{kvs:List (Key×V)}{vs:List (Key×ad)}{vals:List ad},KV kvs vs->vals.length=vs.length->(∀(j:Nat) (v:ad),vals[j]?=some v->∃(k:Key) (x:ad),vs[j]?=some (k,x)/\bQt k v=true)->Vals (kvs.map λp=>kV p.1) vals
 |[],_,vals,.nil,z,_=>by cases vals with
  |nil=>exact .nil
  |cons _ _=>simp at z
 |p::kvs,_,vals,.cons (b:=q) J D,z,h=>by
  cases vals with
  |nil=>simp at z
  |cons v vals =>
   refine .cons ?_ (bZb D (by simpa using z) λj v e=>by simpa using h (j+1) v (by simpa using e))
   obtain⟨k,x,e,L⟩:=h 0 v rfl;have N:q=(k,x):=by simpa using e
   have B:p.1=k:=by rw[J.1,N]
   show RelV (kV p.1) v;rw[B];rcases aQg L with⟨i,t,rfl,rfl⟩|⟨y,t,rfl,rfl⟩
   ·exact⟨t,rfl⟩
   ·exact⟨t,rfl⟩
theorem Inv.toks{pins:List (Addr×Obj)}{σ:St}{H:Hp}{s:ah}(I:Inv X pins σ H s){h':aY}(k:∀b o,s.heap.get? b=some o->h'.get? b=some o)(d:Drawn)(tk:Nat):Inv X pins σ H {s with heap:=h',drawn:=d,toks:=tk}:=(I.kept (t':=tk) k).drawn d
theorem Inv.src{pins:List (Addr×Obj)}{σ:St}{H:Hp}{s:ah}(I:Inv X pins σ H s)(hK:X.K=K){x:V}{u:ad}{us:List V}(h:Src K H x us)(r:RelV x u):Col X.prog X.w s u (λvals=>Vals us vals)/\us.length<=sizeLine:=by
 subst hK;obtain⟨a,rfl,h⟩:=h;cases r;rcases h with h|h|⟨D,h,rfl⟩
 ·obtain⟨its,z,⟨o,n,J,L,_,hd⟩,B⟩:=I.list h;have O:=z.length;exact⟨λA E R hh q=>cZh (.inl rfl) J L hd (by lia) A E R hh λvals h' d j e k=>q vals h' d j (by rw[e];exact z) k,B⟩
 ·obtain⟨its,z,⟨o,J,L,n,hd⟩,B⟩:=I.tuple h;have O:=z.length;exact⟨λA E R hh q=>cZh (.inr rfl) J L hd (by lia) A E R hh λvals h' d j e k=>q vals h' d j (by rw[e];exact z) k,B⟩
 ·obtain⟨B,lo,vs,N,hd⟩:=I.hok a _ h;have O:D.length=vs.length:=cQ N;exact⟨λA E R hh q=>cJj lo hd (by lia) A E R hh λvals h' d j e k=>q vals h' d j (bZb N e.1 e.2) k,by rw[am];exact B⟩
def eZu(K:Fg):List V->Hp->VK->Prop:=λxs H Q=>∃(x:V) (ss:List Str),xs=[x]/\Src K H x (ss.map V.str)/\∀(p:Addr) (out:List Str),H p=none->out.Perm ss->out.Pairwise (λa b=>HT.ltS b a=false)->Q (.ref p) (upd H p (.lst (out.map V.str)))
theorem bQ0:∀{l:List Str},sortedS l=true->l.Pairwise λa b=>HT.ltS b a=false
 |[],_=>.nil
 |[x],_=>b8 _ _
 |x::y::l,h=>by
  have h':(!ltCps y.cps.toList x.cps.toList&&risingS y l)=true:=h;rw[a4] at h';have L:=bQ0 (l:=y::l) h'.2;have D:HT.ltS y x=false:=by
   have:=h'.1
   rw[bR,ltCps_eq] at this;exact this
  refine bD.mpr ⟨λz J=>?_,L⟩;rcases aQ.mp J with rfl|J
  ·exact D
  ·have j:=(bD.mp L).1 z J;cases e:HT.ltS z x with
   |false=>rfl
   |true =>
    by_cases B:y=x
    ·subst B;rw[j] at e;cases e
    ·have:=HT.ltS_tot D B
     have:=HT.ltS_tr e this
     rw[j] at this;cases this
theorem cZk(hK:X.K=K:=by rfl)(hc:X.calm=true:=by rfl):CallR X (.builtin "sorted") (eZu K):=by
 intro pins s σ H xs us Q I r h;obtain⟨x,ss,rfl,L,q⟩:=h;obtain⟨u,rfl,J⟩:=aX0 r;obtain⟨col,z⟩:=I.src hK L J;have len:∀{vals:List ad},Vals (ss.map V.str) vals->vals.length=ss.length:=λv=>by have:=v.length;simpa using this.symm
 refine aZu (I.ok.hd hc) col (λvals v=>by rw[len v];simpa using z) λvals h1 d j pv kp=>?_
 have D:H h1.objs.size=none:=(I.toks kp d j).hok.fresh (Nat.le_refl _);refine cZi (s:={ s with heap:=h1.push (be "list" vals.toArray 0),drawn:=d,toks:=j }) (ax _ rfl) (cZ1 (H:=H) (ds:=ss) (xs:=ss.map V.str) (by
  clear z q L col J pv len
  induction ss with
  |nil=>exact .nil
  |cons a ss N=>exact .cons rfl N) pv) (by rw[len pv];simpa using z) λout B h' c a1 a2 Y U O=>⟨rfl,?_⟩
 have Z:=I.toks kp d j;obtain⟨v1,v2⟩:=bQc (H:=H) a1;refine⟨.ref h1.objs.size,_,Z.laid (a:=h1.objs.size) (o:=.lst (B.map V.str)) (t':=j) (λb o e=>O b o (Nat.ne_of_lt (aD e)) (ae _ e)) (Nat.le_refl _) ⟨?_,out,c,v1,U⟩,rfl,q _ _ D a2 (bQ0 Y)⟩
 have:=a2.length_eq
 rw[am,this];simpa using z
def eZv(K:Fg):List V->Hp->VK->Prop:=λxs H Q=>∃(x:V) (ns:List Int),xs=[x]/\Src K H x (ns.map V.int)/\∀(p:Addr) (out:List Int),H p=none->out.Perm ns->out.Pairwise (·<=·)->Q (.ref p) (upd H p (.lst (out.map V.int)))
theorem cZl(hK:X.K=K:=by rfl)(hc:X.calm=true:=by rfl):CallR X (.builtin "sorted") (eZv K):=by
 intro pins s σ H xs us Q I r h;obtain⟨x,ss,rfl,L,q⟩:=h;obtain⟨u,rfl,J⟩:=aX0 r;obtain⟨col,B⟩:=I.src hK L J;have len:∀{vals:List ad},Vals (ss.map V.int) vals->vals.length=ss.length:=λv=>by have:=v.length;simpa using this.symm
 refine aZu (I.ok.hd hc) col (λvals v=>by rw[len v];simpa using B) λvals h1 d j pv kp=>?_
 have D:H h1.objs.size=none:=(I.toks kp d j).hok.fresh (Nat.le_refl _);refine cZj (s:={s with heap:=h1.push (be "list" vals.toArray 0),drawn:=d,toks:=j}) (ax _ rfl) (bJf pv) (by rw[len pv];simpa using B) λout z h' c a1 a2 U O N=>⟨rfl,?_⟩
 have Y:=I.toks kp d j;refine⟨.ref h1.objs.size,_,Y.laid (a:=h1.objs.size) (o:=.lst (z.map V.int)) (t':=j) (λb o e=>N b o (Nat.ne_of_lt (aD e)) (ae _ e)) (Nat.le_refl _) ⟨?_,out,c,aJ8 a1,O⟩,rfl,q _ _ D a2 U⟩
 have:=a2.length_eq
 rw[am,this];simpa using B
def eZw(K:Fg):List V->Hp->VK->Prop:=λxs H Q=>∃(x:V) (us:List V) (ds:List (List Str)),xs=[x]/\Src K H x us/\bx (dT K dS H) us ds/\∀(p:Addr) (idx:List Nat),H p=none->idx.Perm (bu us.length)->(idx.map λi=>ds.getD i []).Pairwise (λa b=>HT.lexS b a=false)->(idx.map λi=>ds.getD i []).Perm ds->Q (.ref p) (upd H p (.lst (idx.map λi=>us.getD i V.non)))
theorem tsOf{pins:List (Addr×Obj)}{σ:St}{H:Hp}{s:ah}(I:Inv X pins σ H s)(hK:X.K=K){h':aY}(k:∀b o,s.heap.get? b=some o->h'.get? b=some o):∀{us:List V}{vs:List ad}{ds:List (List Str)},Vals us vs->bx (dT K dS H) us ds->bx (KS.TS h') vs ds
 |_,_,_,.nil,.nil=>.nil
 |_,_,_,.cons r q,.cons d p=>by
  refine .cons ?_ (tsOf I hK k q p);obtain⟨b,xs,e,j,pp⟩:=d;rw[e] at r;cases r;rw[<- hK] at j;obtain⟨its,B,⟨o,D,z⟩,_⟩:=I.tuple j;exact⟨b,its.toArray,rfl,⟨o,k b o D,z⟩,bQa pp B⟩
theorem bQe{us:List V}{vs:List ad}(p:Vals us vs):∀(idx:List Nat),(∀i∈idx,i<us.length)->Vals (idx.map λi=>us.getD i V.non) (idx.map λi=>vs.getD i bJ)
 |[],_=>.nil
 |i::idx,h=>by
  refine .cons ?_ (bQe p idx λj z=>h j (au _ z));have hi:=h i aA;obtain⟨u,e,r⟩:=p.get (ag hi);show RelV (us.getD i V.non) (vs.getD i bJ);rw[ak,ak,e,ag hi];exact r
theorem cZm(hu:X.A.units+8<bU)(hK:X.K=K:=by rfl)(hc:X.calm=true:=by rfl):CallR X (.builtin "sorted") (eZw K):=by
 intro pins s σ H xs us Q I r h;obtain⟨x,ys,ds,rfl,hs,N,q⟩:=h;obtain⟨u,rfl,O⟩:=aX0 r;obtain⟨col,hz⟩:=I.src hK hs O;have hl:ys.length=ds.length:=cQ N;refine aZu (I.ok.hd hc) col (λvals v=>by rw[<- v.length];exact hz) λvals h1 d j pv kp=>?_
 have B:=pv.length;have L:=I.toks kp d j;have J:H h1.objs.size=none:=L.hok.fresh (Nat.le_refl _);refine KS.sort_tupsL (s:={s with heap:=h1.push (be "list" vals.toArray 0),drawn:=d,toks:=j}) (ds:=ds) (by show X.A.units+1+1<_;lia) (ax _ rfl) (tsOf L hK (λb o e=>ae _ e) pv N) (by lia) λidx h' c z Z Y g U=>⟨rfl,?_⟩
 have D:∀i∈idx,i<ys.length:=λi hi=>by have:=bO.mp (z.mem_iff.mp hi);lia
 have il:idx.length=vals.length:=by have:=z.length_eq;simpa using this
 refine⟨.ref h1.objs.size,_,L.laid (a:=h1.objs.size) (o:=.lst (idx.map λi=>ys.getD i V.non)) (t':=j) (λb o e=>U b o (Nat.ne_of_lt (aD e)) (ae _ e)) (Nat.le_refl _) ⟨?_,_,c,bQe pv idx D,g⟩,rfl,q _ idx J (by rw[B];exact z) Z Y⟩
 rw[am];lia
end
section
variable{κ:Type}[DecidableEq κ]
def valV(kvs:List (κ×V))(k:κ):Option V:=(kvs.find? λkv=>decide (kv.1=k)).map (·.2)
def putK(kvs:List (κ×V))(k:κ)(v:V):List (κ×V) :=
 if (kvs.any λkv=>decide (kv.1=k))=true then kvs.map (λkv=>if kv.1=k then (kv.1,v) else kv) else kvs++[(k,v)]
theorem aJ3{p:κ×V}{r:List (κ×V)}{k:κ}(e:p.1=k):valV (p::r) k=some p.2:=by simp[valV,a9,e]
theorem bQf{p:κ×V}{r:List (κ×V)}{k:κ}(e:¬ p.1=k):valV (p::r) k=valV r k:=by simp[valV,a9,e]
theorem bXt(k:κ):∀kvs:List (κ×V),(kvs.any λkv=>decide (kv.1=k))=(valV kvs k).isSome
 |[]=>rfl
 |p::r=>by
  rw[dZ]
  by_cases e:p.1=k
  ·simp only[aJ3 e,decide_eq_true e,Bool.true_or,Option.isSome_some]
  ·rw[bQf e,decide_eq_false e,Bool.false_or];exact bXt k r
theorem aJk(kvs:List (κ×V))(k:κ)(v:V):(putK kvs k v).length<=kvs.length+1:=by
 unfold putK
 split
 ·rw[am];omega
 ·rw[aB,b7,dr];omega
theorem RelO.isSome_eq{o:Option V}{u:Option ad}(r:RelO o u):o.isSome=u.isSome:=by
 cases o with
 |none=>cases u with
  |none=>rfl
  |some _=>exact(show False from r).elim
 |some _=>cases u with
  |none=>exact(show False from r).elim
  |some _=>rfl
theorem RelO.getD{o:Option V}{u:Option ad}{d:V}{d':ad}(r:RelO o u)(rd:RelV d d'):RelV (o.getD d) (u.getD d'):=by
 cases o with
 |none=>cases u with
  |none=>exact rd
  |some _=>exact(show False from r).elim
 |some _=>cases u with
  |none=>exact(show False from r).elim
  |some _=>exact r
theorem KV.val{kvs:List (κ×V)}{vs:List (κ×ad)}(r:KV kvs vs)(k:κ):RelO (valV kvs k) (valueAt vs k):=by
 unfold KV at r
 induction r with
 |nil=>exact eL
 |@cons p q ps j h t D =>
  obtain⟨h1,h2⟩:=h
  by_cases e:p.1=k
  ·have B:q.1=k:=h1.symm.trans e;have b:valueAt (q::j) k=some q.2:=by simp[valueAt,a9,B]
   rw[aJ3 e,b];exact h2
  ·have B:¬ q.1=k:=λz=>e (h1.trans z);have b:valueAt (q::j) k=valueAt j k:=by simp[valueAt,a9,B]
   rw[bQf e,b];exact D
theorem KV.any{kvs:List (κ×V)}{vs:List (κ×ad)}(r:KV kvs vs)(k:κ):(kvs.any λkv=>decide (kv.1=k))=vs.any λkv=>decide (kv.1=k):=by
 unfold KV at r
 induction r with
 |nil=>rfl
 |cons h t j=>rw[dZ,dZ,j,h.1]
theorem KV.repl{kvs:List (κ×V)}{vs:List (κ×ad)}(r:KV kvs vs)(k:κ){y:V}{u:ad}(ry:RelV y u) :
  KV (kvs.map λkv=>if kv.1=k then (kv.1,y) else kv) (vs.map λkv=>if kv.1=k then (kv.1,u) else kv):=by
 unfold KV at r ⊢
 induction r with
 |nil=>exact .nil
 |@cons p q ps B h t j =>
  rw[aX,aX];refine .cons ?_ j;obtain⟨h1,h2⟩:=h
  by_cases e:p.1=k
  ·rw[if_pos e,if_pos (h1.symm.trans e)];exact⟨h1,ry⟩
  ·rw[if_neg e,if_neg (λz=>e (h1.trans z))];exact⟨h1,h2⟩
theorem KV.put{kvs:List (κ×V)}{vs:List (κ×ad)}(r:KV kvs vs)(k:κ){y:V}{u:ad}(ry:RelV y u):KV (putK kvs k y) (stored vs k u):=by
 unfold putK stored;rw[r.any k]
 by_cases e:(vs.any λj=>decide (j.1=k))=true
 ·rw[if_pos e,if_pos e];exact r.repl k ry
 ·rw[if_neg e,if_neg e];exact bx.snoc r ⟨rfl,ry⟩
theorem KV.length{kvs:List (κ×V)}{vs:List (κ×ad)}(r:KV kvs vs):kvs.length=vs.length:=cQ r
end
theorem cJk{P:aC}{w:aL}{k:Key}{u:ad}(r:RelV (kV k) u):(aQm P w).is k u=true:=by
 cases k with
 |inl i=>obtain⟨t,e⟩:=(show ∃t,u=gC i t from r);subst e;exact bZq P w i t
 |inr x=>obtain⟨t,e⟩:=(show ∃t,u=jk x t from r);subst e;exact bZr P w x t
theorem bZc{P:aC}{w:aL}:∀{ks:List Key}{us:List ad},Vals (ks.map kV) us->ItemsAre (aQm P w) ks us
 |[],_,r=>by rw[d9] at r;cases r;exact .nil
 |k::ks,_,r=>by
  rw[aX] at r;cases r with
  |cons h t=>exact .cons (cJk h) (bZc t)
abbrev KT(H:Hp):List (List Key×V)->List (List Key×Addr×ad)->Prop:=bx λp q=>p.1=q.1/\H q.2.1=some (.tup (p.1.map kV))/\RelV p.2 q.2.2
theorem KT.val{H:Hp}{kvs:List (List Key×V)}{xs:List (List Key×Addr×ad)}(r:KT H kvs xs)(k:List Key):RelO (valV kvs k) ((atKey xs k).map (·.2)):=by
 induction r with
 |nil=>exact eL
 |@cons p q ps j h t D =>
  obtain⟨h1,_,h2⟩:=h
  by_cases e:p.1=k
  ·have B:q.1=k:=h1.symm.trans e;have b:atKey (q::j) k=some q.2:=by simp[atKey,a9,B]
   rw[aJ3 e,b];exact h2
  ·have B:¬ q.1=k:=λz=>e (h1.trans z);have b:atKey (q::j) k=atKey j k:=by simp[atKey,a9,B]
   rw[bQf e,b];exact D
theorem KT.repl{H:Hp}{kvs:List (List Key×V)}{xs:List (List Key×Addr×ad)}(r:KT H kvs xs)(k:List Key){y:V}{u:ad}(ry:RelV y u) :
  KT H (kvs.map λkv=>if kv.1=k then (kv.1,y) else kv) (xs.map (putAt k u)):=by
 induction r with
 |nil=>exact .nil
 |@cons p q ps D h t j =>
  rw[aX,aX];refine .cons ?_ j;obtain⟨h1,h2,B⟩:=h;unfold putAt
  by_cases e:p.1=k
  ·rw[if_pos e,if_pos (h1.symm.trans e)];exact⟨h1,h2,ry⟩
  ·rw[if_neg e,if_neg (λz=>e (h1.trans z))];exact⟨h1,h2,B⟩
theorem KT.put{H:Hp}{kvs:List (List Key×V)}{xs:List (List Key×Addr×ad)}(r:KT H kvs xs)(k:List Key){b:Addr}{y:V}{u:ad}(hb:H b=some (.tup (k.map kV)))(ry:RelV y u) :
  KT H (putK kvs k y) (storedH xs k b u):=by
 have e:(kvs.any λj=>decide (j.1=k))=(atKey xs k).isSome:=by
  rw[bXt,(r.val k).isSome_eq,Option.isSome_map]
 unfold putK storedH;rw[e]
 by_cases q:(atKey xs k).isSome=true
 ·rw[if_pos q,if_pos q];exact r.repl k ry
 ·rw[if_neg q,if_neg q];exact bx.snoc r ⟨rfl,hb,ry⟩
theorem KT.keeps{H H':Hp}{kvs:List (List Key×V)}{xs:List (List Key×Addr×ad)}(r:KT H kvs xs)(ht:∀b ys,H b=some (.tup ys)->H' b=some (.tup ys)):KT H' kvs xs :=
 Paired.mapP r λ_ _ z=>⟨z.1,ht _ _ z.2.1,z.2.2⟩
section
variable{P:aC}{w:aL}{H:Hp}{h:aY}{a:Addr}
theorem eZx{u:HO}(ok:HOk P w H h)(e:Rd H a u):ObjOk P w H h a u:=e.ok ok
theorem cZn{kvs:List (Key×V)}(ok:HOk P w H h)(e:Rd H a (.dK kvs)):kvs.length<=sizeLine/\(a==dH)=false/\∃vs,KV kvs vs/\h.DictOf (aQm P w) a vs :=
 show ObjOk P w H h a (.dK kvs) from eZx ok e
theorem fQ4{kvs:List (Key×V)}(ok:HOk P w H h)(e:H a=some (.dK kvs)):kvs.length<=sizeLine/\(a==dH)=false/\∃vs,KV kvs vs/\h.DictOf (aQm P w) a vs:=cZn ok (.inl e)
theorem key_of{ks:List Key}(ok:HOk P w H h)(e:H a=some (.tup (ks.map kV))):(iw (aQm P w)).is h ks a:=by
 obtain⟨_,its,r,⟨o,h1,h2,n,j⟩,_⟩:=(show ObjOk P w H h a (.tup (ks.map kV)) from ok a _ e)
 exact⟨o,its.toArray,n,h1,h2,j,by simpa using bZc r⟩
theorem cZo{kvs:List (List Key×V)}(ok:HOk P w H h)(e:Rd H a (.dT kvs)):kvs.length<=sizeLine/\(a==dH)=false /\
  ∃xs,KT H kvs xs/\h.DictOfH (iw (aQm P w)) a xs:=by
 obtain⟨z,y,xs,r,o,es,O,h1,h2,N,L,J⟩:=(show ObjOk P w H h a (.dT kvs) from eZx ok e)
 refine⟨z,y,xs,r,o,es,O,h1,h2,N,L,λx j=>?_,J⟩;have all:∀{l:List (List Key×V)}{m:List (List Key×Addr×ad)},KT H l m->∀x∈m,(iw (aQm P w)).is h x.1 x.2.1:=by
  intro l m q
  induction q with
  |nil=>intro x j;exact nomatch j
  |@cons p q ps U B t D =>
   intro x j;rcases aQ.mp j with e|j
   ·subst e;exact key_of ok (by rw[<- B.1];exact B.2.1)
   ·exact D x j
 exact all r x j
theorem dt_of{kvs:List (List Key×V)}(ok:HOk P w H h)(e:H a=some (.dT kvs)):kvs.length<=sizeLine/\(a==dH)=false /\
  ∃xs,KT H kvs xs/\h.DictOfH (iw (aQm P w)) a xs:=cZo ok (.inl e)
end
def DGet(H:Hp)(a:Addr)(y:V)(r:Option V):Prop :=
 (∃kvs k,Rd H a (.dK kvs)/\y=kV k/\r=valV kvs k)\/∃kvs k b,Rd H a (.dT kvs)/\y=.ref b/\H b=some (.tup (k.map kV))/\r=valV kvs k
def DPut(H:Hp)(a:Addr)(y v:V)(H':Hp):Prop :=
 (∃kvs k,H a=some (.dK kvs)/\y=kV k/\kvs.length<sizeLine/\H'=upd H a (.dK (putK kvs k v))) \/
 ∃kvs k b,H a=some (.dT kvs)/\y=.ref b/\H b=some (.tup (k.map kV))/\kvs.length<sizeLine/\H'=upd H a (.dT (putK kvs k v))
section
variable{X:Cx}{pins:List (Addr×Obj)}{σ:St}{H:Hp}{s:ah}{a:Addr}{y v:V}{u r:ad}{o:Option V}{A:aO}{E:ad->ah->Prop}
theorem Inv.big(I:Inv X pins σ H s):dH<s.heap.objs.size:=by
 have h:aP<s.heap.objs.size:=(I.mod.glob.keeps I.bk).lt;exact Nat.lt_trans (by decide) h
theorem cZp{Q:ad->ah->Prop}(hu:A.units+1<bU)(I:Inv X pins σ H s)(g:DGet H a y (some v))(ry:RelV y u)(h:∀w' s',Inv X pins σ H s'->RelV v w'->Q w' s') :
  aF (az X.prog X.w) A (f6 (.ref a) u) Q E s:=by
 rcases g with⟨B,k,e,J,l⟩|⟨B,k,b,e,J,O,l⟩
 ·subst J;obtain⟨z,hd,L,rel,dd⟩:=cZn I.hok e;obtain⟨w',hw,j⟩:=RelO.some_of (v:=v) (o:=valueAt L k) (by rw[l];exact rel.val k)
  exact wpAny_getItem_of (cJk ry) dd.mapOf hw (h w' _ (I.tok _) j)
 ·subst J;cases (show u=c9 b from ry)
  obtain⟨z,hd,xs,rel,dd⟩:=cZo I.hok e;obtain⟨w',hw,j⟩:=RelO.some_of (v:=v) (o:=(atKey xs k).map (·.2)) (by rw[l];exact rel.val k)
  obtain⟨p,N,D⟩:=a8.mp hw;refine wpAny_getItem_heap (gZ hu) (key_of I.hok O) dd N ?_;rw[D];exact h w' _ (I.tok _) j
theorem cZq{h':aY}{t':Nat}{ob:HO}(I:Inv X pins σ H s)(mu:Mut (H a))(hs:dw a s.heap h')(he:∃q,h'.get? a=some q)(new:ObjOk X.prog X.w (upd H a ob) h' a ob) :
  Inv X pins σ (upd H a ob) {s with heap:=h',toks:=t'} :=
 I.write (x:=a) (e:=a) mu (.inl rfl) (λb q j z=>(hs.2 b j).trans z) he new
theorem eZy{P:aC}{w:aL}{H':Hp}{h':aY}{kvs:List (Key×V)}{vs:List (Key×ad)}(z:kvs.length<=sizeLine)(hd:(a==dH)=false)(rel:KV kvs vs)(dd:h'.DictOf (aQm P w) a vs) :
  ObjOk P w H' h' a (.dK kvs):=⟨z,hd,vs,rel,dd⟩
theorem cZr{H':Hp}{Q:Unit->ah->Prop}(hu:A.units+1<bU)(I:Inv X pins σ H s)(g:DPut H a y v H')(ry:RelV y u)(rv:RelV v r)(h:∀s',Inv X pins σ H' s'->Q () s') :
  aF (az X.prog X.w) A (setItem (.ref a) u r) Q E s:=by
 rcases g with⟨j,k,e,O,l,U⟩|⟨j,k,b,e,O,Z,l,U⟩
 ·subst O U;obtain⟨z,hd,vs,rel,dd⟩:=fQ4 I.hok e;have J:vs.length<=sizeLine:=by rw[<- rel.length];exact z
  have N:(putK j k v).length<=sizeLine:=by have:=aJk j k v;omega
  refine wpAny_setItem_pairs (hsz:=J) (cJk ry) dd λh' B L=>h _ ?_;have he:∃q,h'.get? a=some q:=let ⟨q,_,_,D,_⟩:=B;⟨q,D⟩
  exact cZq I (by rw[e];exact eL) L he (eZy N hd (rel.put k rv) B)
 ·subst O U;cases (show u=c9 b from ry)
  obtain⟨z,hd,xs,rel,dd⟩:=dt_of I.hok e;have J:xs.length<=sizeLine:=by rw[<- cQ rel];exact z
  have N:(putK j k v).length<=sizeLine:=by have:=aJk j k v;omega
  refine wpAny_setItem_heap (hsz:=J) (gZ hu) (key_of I.hok Z) dd λh' B L=>h _ ?_;obtain⟨q,es,ep,D,h2,h3,h4,_,h5⟩:=B;refine cZq I (by rw[e];exact eL) L ⟨q,D⟩ ⟨N,hd,_,(rel.put k Z rv).keeps λc ys Y=>?_,q,es,ep,D,h2,h3,h4,h5⟩
  rw[upd_ne (eJ3 Y e (λz=>nomatch z))]
  exact Y
end
def NoSl(i:Expr):Prop:=∀ov iv,subscripted i false ov iv=operate [ov,iv] (f6 ov iv)
theorem subD_of{prog:aC}{w:aL}{A:aO}{E:ad->ah->Prop}{s:ah}{env:Env}{value slice:Expr}{pos:Pos}{T id:String}{Q:ad->ah->Prop}
  (hl:typeLookup (.type T) "__getitem__"=pure (some (.builtin id))) (hs:NoSl slice)
  (h:aF (az prog w) A (eval value env) (λo s₁=>aF (az prog w) A (eval slice env) (λi s₂=>s₂.TypeIs o T/\aF (az prog w) A (f6 o i) Q E s₂) E s₁) E s) :
  aF (az prog w) A (eval (.Subscript value slice pos) env) Q E s:=by
 refine Subscript_ (cr h (λo s₁ D=>cr D (λi s₂ j=>?_) λ_ _ x=>x) λ_ _ x=>x);obtain⟨J,j⟩:=j;unfold subscriptTail;refine aa ?_;rw[getitemInPython_of_ne J.not_modules];refine aa (wpAny_specialOf J hl ?_);have fin:aF (az prog w) A (subscripted slice false o i) (λr z=>aF (az prog w) A (letTemporaryGo value o r>>=λ_=>pure r) Q E z) E s₂:=by
  rw[hs o i];exact wpAny_operating (cr j (λr z B=>aa (wpAny_letTemporaryGo (af B))) λ_ _ x=>x)
 first
  |exact af (aa fin)
  |exact aa (af (aa fin))
  |exact aa fin
theorem bX4{X:Cx}{pins:List (Addr×Obj)}{σ:St}{H:Hp}{s:ah}{a:Addr}{y:V}{o:Option V}(I:Inv X pins σ H s)(g:DGet H a y o):s.TypeIs (.ref a) "dict":=by
 rcases g with⟨j,k,e,_,_⟩|⟨j,k,b,e,_,_,_⟩
 ·obtain⟨_,_,z,_,dd⟩:=cZn I.hok e;exact dd.typeIs
 ·obtain⟨_,_,xs,_,dd⟩:=cZo I.hok e;exact dd.typeIs
def fQ5(td ty:TE):TE:=fun σ H Q=>td σ H λx H1=>ty σ H1 λy H2=>∃a v,x=.ref a/\DGet H2 a y (some v)/\Q v H2
def fQ6(td ty tv:TE):TS:=λD σ H=>tv σ H λv H1=>td σ H1 λx H2=>ty σ H2 λy H3=>∃a H4,x=.ref a/\DPut H3 a y v H4/\D.nx σ H4
section
variable{X:Cx}{o i e value:Expr}{pos pos' tpos:Pos}{td ty tv:TE}
theorem dXe(hu:X.A.units+1<bU)(ho:PE X o td)(hi:PE X i ty)(hs:NoSl i):PE X (.Subscript o i pos) (fQ5 td ty):=by
 intro pins s σ H Q I h;refine subD_of PySem.F.slot_dict_getitem.lookup hs (thn (ho pins s σ H _ I h) λu s1 ⟨x,H1,O,D,L⟩=>thn (hi pins s1 σ H1 _ O L) λiv s2 ⟨y,H2,z,B,a,v,ex,g,J⟩=>?_);subst ex;obtain rfl:u=c9 a:=D;exact⟨bX4 z g,cZp hu z g B λU s3 N j=>⟨v,H2,N,j,J⟩⟩
theorem dXf(hu:X.A.units+1<bU)(ho:PE X o td)(hi:PE X i ty)(hv:PE X value tv)(hs:ix value (some (.Subscript o i pos')) pos.line X.env=pure false) :
  PS X (.Assign [.Subscript o i pos'] value pos) (fQ6 td ty tv):=by
 intro pins s σ H D I h;refine wpAny_Assign_Subscript (thn (hv pins s σ H _ I h) λr s1 ⟨v,H1,Z,B,N⟩=>thn (ho pins s1 σ H1 _ Z N) λu s2 ⟨x,H2,Y,z,L⟩=>thn (hi pins s2 σ H2 _ Y L) λiv s3 ⟨y,H3,U,j,a,H4,ex,g,J⟩=>?_) hs;subst ex;obtain rfl:u=c9 a:=z;exact cZr hu U g j B λs4 O=>⟨σ,H4,O,J⟩
end
theorem cJl{P:aC}{w:aL}{H:Hp}(h:aY)(hb:dH<h.objs.size):ObjOk P w H (h.push {cls:=.type "dict",data:=.dict #[]}) h.objs.size (.dK []) :=
 ⟨Nat.zero_le _,beq_eq_false_iff_ne.mpr (cy (Nat.ne_of_lt hb)),[],.nil,aY.DictOf.new h⟩
def eZz:TE:=λ_ H Q=>∀p,H p=none->Q (.ref p) (upd H p (.dK []))
section
variable{X:Cx}{pos:Pos}
theorem cJm:PE X (.Dict [] [] pos) eZz:=λpins s σ H Q I h =>
 wpAny_Dict_empty ⟨.ref s.heap.objs.size,_,I.laid (a:=s.heap.objs.size) (o:=.dK []) (t':=s.toks) (λ_ _ q=>ae _ q) (Nat.le_refl _) (cJl s.heap I.big),rfl,h _ (I.hok.fresh (Nat.le_refl _))⟩
end
structure M2(X:Cx)(o:Expr)(m:Str)(apos:Pos)(e f:Expr)(cpos:Pos):Prop where
 base:fb o m X.env (eval o X.env)=eval o X.env
 few:((bZ cpos (av [e,f] X.env)).all (λx=>!x.1) && (gP cpos (eO [] X.env)).all (λx=>x.1.isSome)
  && decide (([e,f]:List Expr).length+([]:List fG).length+(if ([]:List fG).isEmpty then 0 else 1)<30))=true
 line:(apos.endLine==cpos.line)=true
 trees:bZ cpos (av [e,f] X.env)=[(false,eval e X.env),(false,eval f X.env)]
def IsD(H:Hp)(a:Addr):Prop:=(∃kvs,Rd H a (.dK kvs))\/∃kvs,Rd H a (.dT kvs)
theorem eX0{X:Cx}{pins:List (Addr×Obj)}{σ:St}{H:Hp}{s:ah}{a:Addr}(I:Inv X pins σ H s)(d:IsD H a) :
  s.TypeIs (.ref a) "dict"/\(∀b,c9 a=.ref b->∃ob,s.heap.get? b=some ob/\ob.dict=none)/\(a==dH)=false:=by
 rcases d with⟨j,e⟩|⟨j,e⟩
 ·obtain⟨_,hd,z,_,dd⟩:=cZn I.hok e;refine⟨dd.typeIs,λb q=>?_,hd⟩;cases q;obtain⟨ob,_,_,h1,h2,_⟩:=dd;exact⟨ob,h1,h2.2.1⟩
 ·obtain⟨_,hd,xs,_,dd⟩:=cZo I.hok e;refine⟨dd.typeIs,λb q=>?_,hd⟩;cases q;obtain⟨ob,_,_,h1,h2,_⟩:=dd;exact⟨ob,h1,h2.2.1⟩
section
variable{X:Cx}{pins:List (Addr×Obj)}{σ:St}{H:Hp}{s:ah}{a:Addr}{y d:V}{u r:ad}{o:Option V}{A:aO}{E:ad->ah->Prop}
theorem eX1{Q:ad->ah->Prop}(hu:A.units+1<bU)(I:Inv X pins σ H s)(g:DGet H a y o)(ry:RelV y u)(rd:RelV d r)(h:∀w' s',Inv X pins σ H s'->RelV (o.getD d) w'->Q w' s') :
  aF (az X.prog X.w) A (call (.builtin "dict.get") [.ref a,u,r]) Q E s:=by
 rcases g with⟨j,k,e,B,l⟩|⟨j,k,b,e,B,D,l⟩
 ·subst B;obtain⟨z,hd,J,rel,dd⟩:=cZn I.hok e;refine call_meetsIn fW dd.typeIs iV (iM _ _ _) (meets_dict_get_default (aQm X.prog X.w) a (cJk ry) hd r) ⟨_,dd.mapOf,h _ _ (I.tok _) ?_⟩;rw[l];exact(rel.val k).getD rd
 ·subst B;cases (show u=c9 b from ry)
  obtain⟨z,hd,xs,rel,dd⟩:=cZo I.hok e;refine call_meetsIn fW dd.typeIs iV (iM _ _ _) (meetsH_dict_get_default (iw (aQm X.prog X.w)) a b hd r) ⟨gZ hu,k,xs,key_of I.hok D,dd,h _ _ (I.tok _) ?_⟩;rw[l];exact(rel.val k).getD rd
end
def eX2(td ty tx:TE):TE:=fun σ H Q=>td σ H λx H1=>∃a,x=.ref a/\IsD H1 a/\ty σ H1 λy H2=>tx σ H2 λz H3=>∃o,DGet H3 a y o/\Q (o.getD z) H3
section
variable{X:Cx}{o e f:Expr}{apos cpos:Pos}{td ty tx:TE}
theorem cJn(hu:X.A.units+1<bU)(ho:PE X o td)(he:PE X e ty)(hf:PE X f tx)(m:M2 X o "get" apos e f cpos):PE X (.Call (.Attribute o "get" apos) [e,f] [] cpos) (eX2 td ty tx):=by
 intro pins s σ H Q I h;refine wpAny_Call_method m.base m.few m.line PySem.F.plainAttrs_dict fW PySem.F.type_dict_get (thn (ho pins s σ H _ I h) λu s1 ⟨x,H1,B,N,a,ex,d,Y⟩=>?_);subst ex;obtain rfl:u=c9 a:=N;obtain⟨t1,D,_⟩:=eX0 B d;refine⟨t1,D,?_⟩;rw[m.trees];refine iR rfl (Calls.evalArgs_plain (fm (thn (he pins s1 σ H1 _ B Y) λiv s2 ⟨y,H2,I2,L,U⟩ =>
  fm (thn (hf pins s2 σ H2 _ I2 U) λfv s3 ⟨z,H3,I3,J,ov,g,O⟩=>hX ?_))))
 exact eX1 hu I3 g L J λw' s4 Z j=>⟨_,H3,Z,j,O⟩
end
section
variable{X:Cx}{K:Fg}{pos:Pos}{k:Nat}
section
variable{elt target iter:Expr}{ifs:List Expr}{gs:List eD}{scope:Scope}{N':List Str}{is:List (Option Nat)}{wi:ID}{g:TG}{gd:GD}{tt:TD}{tv:Addr->TB}{tb:BD}{oc:Option Str}{m:ad->Env->Sem Unit}{b:Bool}
theorem aQs(L L':List Nat)(hcalm:X.calm=true)(hN:X.N.Nodup)
  (hturn:∀it acc env,eP (.ListComp elt (⟨target,iter,ifs,0⟩::gs) scope pos) 0 it acc env=aZ2 target ifs iter.pos (m acc env) (.compLoop (.ListComp elt (⟨target,iter,ifs,0⟩::gs) scope pos) 0 it acc env) it env)
  (cp:Cap X.N scope N' is) (hL:∀σ,Free L (capt is σ)) (hi:PID K X target iter wi) (hgd:CG K L L' g gd)
  (hg:∀cl C fp s H,PG (aQc X N' scope cl C fp s H oc) target g) (ht:∀cl C fp s H,PTs (aQc X N' scope cl C fp s H oc) ifs (upT K tt)) (hbd:bXs K L' tv tb) (hb:∀cl C fp s H D,PB (aQc X N' scope cl C fp s H oc) (m (.ref D) (iB scope cl C X.env)) (tv D))
  (hcf:∀n acc,eV n scope.names acc=ocl oc n acc:=by intro _ _;rfl) (hpc:∀h,gD h scope.names=ohp oc h:=by intro _;rfl)
  (hkind:scope.kind=.function:=by rfl) (hcell:∀y∈scope.names,y.2=.cell->oc=some y.1:=by decide +kernel)
  (hu:∀y∈scope.names,scope.names.lookup y.1=some y.2:=by decide +kernel) (hoc:∀x,oc=some x->scope.names.lookup x=some .cell:=by intro x h;cases h <;> rfl)
  (hVb:okV scope.names X.env.scope.names=true:=by first|rfl|kernel_rfl)
  (hs:∀x,cu iter X.env x=pure x:=by intro _;rfl) :
  PD K X (.ListComp elt (⟨target,iter,ifs,0⟩::gs) scope pos) (eZt b is wi gd tt tb):=.of (cJ7 hcalm hN hturn cp hi.o hg ht hb hcf hpc hkind hcell hu hoc hVb hs) (dXd hL hgd hbd)
end
def dCut(t u:SD):SD:=λE Γ S=>∃M:Gm->Sto->Prop,t {E with nx:=M} Γ S/\∀Γ' S',M Γ' S'->u E Γ' S'
theorem dXg{st:Stmt}{rest:List Stmt}{t u:SD}(h1:PSD K X st t)(h2:PSsD K X rest u):PSsD K X (st::rest) (dCut t u):=.of (bXf h1.o h2.o) λL σ H ⟨F,S,Γ,E,r,g,⟨M,q,J⟩,c⟩ =>
 ⟨F,S,Γ,{E with nx:=M},r,g,q,fun Γ1 j σ1 H1 z B g1 D=>⟨F,j,Γ1,E,B,g1,J Γ1 j D,c.ext z⟩,c.rt,c.bk,c.ct⟩
abbrev SpD:=List D->Sto->DK->Prop
def spU(K:Fg)(sp:SpD):Sp:=λvs H Q _=>∃F S ds QD,Rp K F S H/\RepL K (mt S F) H ds vs/\sp ds S QD/\Cn K F S H QD Q
theorem aQ9{x:Str}{ps:List Str}{sp:SpD}{p:Pos}{e:Expr}{es:List Expr}{t:AD}(Df':Df X.prog X.w X.K X.mg X.base k x ps (spU K sp))(hr:Room k X.A)(hg:Gl X x)(ha:PAD K X (e::es) t)
  (hdb:(x==("__debug__":Str))=false:=by decide) (he:av (e::es) X.env=(false,eval e X.env)::av es X.env:=by rfl) (hpl:(bZ pos (av es X.env)).any (·.1)=false:=by rfl) :
  PD K X (.Call (.Name x p) (e::es) [] pos) (dCB sp t):=.of (cJ5 Df' hr hg ha.o hdb he hpl) fun σ H Q j=>j.el λF S Γ QD r g q c =>
 ⟨F,S,Γ,_,r,g,q,λB ds H1 L z D v1 J=>by
  show spU K sp (B++[]) H1 Q E0;rw[bY];exact⟨F,L,ds,QD,D,v1,J,Cn.shift c z⟩⟩
inductive Frz(S S':Sto):D->D->Prop where
 |same (d:D):Frz S S' d d
 |ref {a:Addr}{xs ys:List D}(h:S a=some (.lst xs)) (h':S' a=none) (l:Frz S S' (.tup xs) (.tup ys)):Frz S S' (.ref a) (.lst ys)
 |nil:Frz S S' (.tup []) (.tup [])
 |cons {d e:D}{ds es:List D}(h:Frz S S' d e) (l:Frz S S' (.tup ds) (.tup es)):Frz S S' (.tup (d::ds)) (.tup (e::es))
theorem cZs{F:Am}{S S':Sto}{H:Hp}(r:Rp K F S H)(hs:∀a o,S' a=some o->S a=some o):∀{d e:D},Frz S S' d e->(∀v,RepV K (mt S F) H d v->RepV K (mt S' F) H e v)/\(∀ds es,d=.tup ds->e=.tup es->∀vs,RepL K (mt S F) H ds vs->RepL K (mt S' F) H es vs):=by
 intro d e h;have kp:Keep (mt S F) H (mt S' F) H:=(Ext.less (H:=H) hs).kp
 induction h with
 |same d=>exact⟨λv h=>h.keep kp,λds es e1 e2 vs l=>by cases e1;cases e2;exact l.keep kp⟩
 |@ref a xs ys h h' l U =>
  refine⟨λv j=>?_,λds es e1=>by cases e1⟩
  rw[rref j];obtain⟨us,Y,N⟩:=r.obj a _ h;unfold RepV;refine⟨a,us,rfl,.inl ⟨λz=>?_,.inl Y⟩,U.2 xs ys rfl rfl us N⟩;rcases z with z|z
  ·exact z h'
  ·rw[(r.frm a z).2] at h;cases h
 |nil=>exact⟨λv h=>h.keep kp,λds es e1 e2 vs l=>by cases e1;cases e2;exact l.keep kp⟩
 |@cons d e ds es h l J B =>
  have ls:∀vs,RepL K (mt S F) H (d::ds) vs->RepL K (mt S' F) H (e::es) vs:=λvs l=>by
   unfold RepL at l ⊢;obtain⟨v,vs,rfl,L,O⟩:=l;exact⟨v,vs,rfl,J.1 v L,B.2 ds es rfl rfl vs O⟩
  refine⟨λv j=>?_,λds' Z e1 e2 vs l=>by cases e1;cases e2;exact ls vs l⟩
  unfold RepV at j ⊢;obtain⟨a,us,rfl,t,l⟩:=j;exact⟨a,us,rfl,t.keep kp,ls us l⟩
def rtD(Q:DK):DK:=λd S=>∃d' S',(∀a o,S' a=some o->S a=some o)/\Frz S S' d d'/\Q d' S'
theorem aQi{Q:DK}{d:D}{S:Sto}(h:Q d S):rtD Q d S:=⟨d,S,λ_ _ e=>e,.same d,h⟩
theorem aZo{Q:DK}{d:D}{S S':Sto}(hs:∀a o,S' a=some o->S a=some o)(h:Q d S'):rtD Q d S:=⟨d,S',hs,.same d,h⟩
theorem eX3{Q:DK}{a:Addr}{xs:List D}{S S':Sto}(h:S a=some (.lst xs))(hs:∀a o,S' a=some o->S a=some o)(h':S' a=none)(q:Q (.lst xs) S'):rtD Q (.ref a) S:=⟨.lst xs,S',hs,.ref h h' (.same _),q⟩
def bX5(Q:DK):EndsD:={nx:=λ_ S=>rtD Q .non S,rt:=rtD Q}
def aXm(N:List Str)(ds:List D):Gm:=ds.map some++gM (N.length-ds.length) none
theorem bQg{M:Am}{H:Hp}{N:List Str}{ds:List D}{vs:List V}(l:RepL K M H ds vs):RepG K M H (aXm N ds) (start N vs):=by
 have j:∀n,RepG K M H (gM n none) (gM n none):=λn=>by
  induction n with
  |zero=>exact rfl
  |succ n z=>exact⟨none,_,rfl,z⟩
 have gen:∀{ds:List D}{vs:List V}{g:Gm}{σ:St},RepL K M H ds vs->RepG K M H g σ->RepG K M H (ds.map some++g) (vs.map some++σ):=by
  intro ds
  induction ds with
  |nil=>intro vs g σ l h;unfold RepL at l;subst l;exact h
  |cons d ds z =>
   intro vs g σ l h;unfold RepL at l;obtain⟨v,vs,rfl,r,l⟩:=l;exact⟨v,_,rfl,r,z l h⟩
 unfold aXm start;rw[l.length];exact gen l (j _)
theorem aZk{P:aC}{w:aL}{mg:Str->Option ad}{base:aY}{x:Str}{st:Stmt}{N ps:List Str}{sp:SpD}(T:Tx K mg x st)(S:FnScope N ps (aQ3 st))
  (b:∀{f:Addr}{fd:cR},Fun K x x st f fd->Binds K fd ps []) (len:∀ds S Q,sp ds S Q->ds.length=ps.length)
  (h:∀ (f:Addr) (cdv:ad) (A:aO) (outer:List Env) (s:ah) (H:Hp) (E:XK),Room k (A.deeper (gN x (aQ3 st) s.heap.objs.size f cdv)) ->
   ∃t,PSsD K (cxOf CX0 P w K mg base N x (aQ3 st) f cdv A outer s H E).nox (aQz st) t/\∀ds S Q,sp ds S Q->t (bX5 Q) (aXm N ds) S):Df P w K mg base (k+1) x ps (spU K sp):=by
 refine T.df b λ{f fd} Fn=>Fn.ok S (λO H Q E B=>by obtain⟨F,S,ds,QD,r,l,j,c⟩:=B;rw[l.length];exact len ds S QD j) (λcdv A outer s H O Q E' U B=>?_)
 obtain⟨F,S,ds,QD,r,l,j,c⟩:=B;obtain⟨t,h1,h2⟩:=h f cdv A outer s H E' U;have fin:∀v d H' S',Ext S H S' H'->Rp K F S' H'->RepV K (mt S' F) H' d v->rtD QD d S'->Q v H':=λv d H' S' D z v1 L=>by
  obtain⟨Z,S2,J,Y,q⟩:=L;exact c v Z H' S2 (D.trans (Ext.less J)) (z.less J) ((cZs z J Y).1 v v1) q
 exact⟨_,h1.o,F,S,aXm N ds,bX5 QD,r,bQg l,h2 ds S QD j,fun Γ' S' σ' H' D z g1 q=>fin .non .non H' S' D z (by unfold RepV;rfl) q,fin,λ_ _ _ _ _ _ _ q=>q.elim,λ_ _ _ _ _ _ _ q=>q.elim⟩
theorem eX4{M:Am}{H:Hp}:∀{as:List Int},RepL K M H (as.map D.int) (as.map V.int)
 |[]=>RepL.nil
 |a::as=>RepL.cons (by unfold RepV;rfl) eX4
def dMt(rd:D->List D->Sto->DK->Prop)(ck:D->Sto->Prop)(to:ED)(t:AD):ED:=fun Γ S Q=>to Γ S λo S1=>ck o S1/\t Γ S1 λds S2=>rd o ds S2 Q
def MtD(K:Fg)(T:String)(r:V->List V->Hp->VK->Prop)(rd:D->List D->Sto->DK->Prop)(ck:D->Sto->Prop):Prop :=
 (∀F S H d x,Rp K F S H->RepV K (mt S F) H d x->ck d S->tyV K T x H)/\∀F S H d ds x vs Q QD,Rp K F S H->RepV K (mt S F) H d x->RepL K (mt S F) H ds vs->rd d ds S QD->Cn K F S H QD Q->r x vs H Q
theorem e_bm{T id:String}{name:Str}{r:V->List V->Hp->VK->Prop}{rd:D->List D->Sto->DK->Prop}{ck:D->Sto->Prop}{o e:Expr}{es:List Expr}{to:ED}{t:AD}{apos cpos:Pos}(M:MtD K T r rd ck)
  (pa:PlainAttrs T) (slot:Slot T name id) (hty:typeOf (.builtin id)=pure (.type "method_descriptor")) (hm:MtR X id r) (ho:PD K X o to) (ha:PAD K X (e::es) t) (hK:X.K=K:=by rfl)
  (hbase:fb o name X.env (eval o X.env)=eval o X.env:=by rfl)
  (hfew:((bZ cpos (av (e::es) X.env)).all (λx=>!x.1) && (gP cpos (eO [] X.env)).all (λx=>x.1.isSome)
   && decide ((e::es).length+([]:List fG).length+(if ([]:List fG).isEmpty then 0 else 1)<30))=true:=by rfl)
  (hline:(apos.endLine==cpos.line)=true:=by rfl) (hs:av (e::es) X.env=(false,eval e X.env)::av es X.env:=by rfl) (hplain:(bZ cpos (av es X.env)).any (·.1)=false:=by rfl) :
  PD K X (.Call (.Attribute o name apos) (e::es) [] cpos) (dMt rd ck to t):=by
 subst hK;exact .of (eJi pa slot hty hm ho.o ha.o hbase hfew hline hs hplain) fun σ H Q L=>L.el λF S Γ QD r g q c =>
  ⟨F,S,Γ,_,r,g,q,λv d H1 J z B v1 ⟨Z,Y⟩=>⟨M.1 F J H1 d v B v1 Z,F,J,Γ,_,B,g.ext z,Y,λN ds H2 S2 j O v2 U=>M.2 F S2 H2 d ds v N Q QD O (v1.ext j) v2 U (Cn.shift c (z.trans j))⟩⟩
def ckL(d:D)(S:Sto):Prop:=match d with
 |.ref a=>∃xs,S a=some (.lst xs)
 |_=>False
theorem ty_L{F:Am}{S:Sto}{H:Hp}{d:D}{x:V}(r:Rp K F S H)(h:RepV K (mt S F) H d x)(c:ckL d S):tyV K "list" x H:=by
 cases d with
 |ref a =>
  obtain⟨xs,j⟩:=c;rw[rref h];obtain⟨us,z,_⟩:=r.obj a _ j;exact .inl ⟨rfl,us,SqL.of z⟩
 |_=>exact c.elim
theorem Cn.write{F:Am}{S:Sto}{H:Hp}{QD:DK}{Q:VK}(c:Cn K F S H QD Q)(r:Rp K F S H){a:Addr}{xs ys:List D}{us ws:List V}(hS:S a=some (.lst xs))(l:RepL K (mt S F) H ys ws){d:D}{v:V}(hv:RepV K (mt S F) H d v)(q:QD d (supd S a (.lst ys))):Q v (upd H a (.lst ws)):=by
 have j:S a≠none:=by rw[hS];exact λz=>by cases z
 have x:Ext S H (supd S a (.lst ys)) (upd H a (.lst ws)):=Ext.write j;exact c v d _ _ x (r.write j ⟨ws,aQ7,l.ext x⟩) (hv.ext x) q
def appD:D->List D->Sto->DK->Prop:=λo ds S Q=>match o,ds with
 |.ref a,[y]=>∃xs,S a=some (.lst xs)/\xs.length<sizeLine/\Q .non (supd S a (.lst (xs++[y])))
 |_,_=>False
theorem eX5:MtD K "list" cQd appD ckL:=⟨λF S H d x r h c=>ty_L r h c,λF S H d ds x L Q QD r h l q c=>by
 match d,ds,q with
 |.ref a,[y],⟨xs,z,D,q⟩ =>
  obtain⟨v,rfl,B⟩:=l.one;obtain⟨us,J,j⟩:=r.obj a _ z;rw[rref h];exact⟨a,us,v,rfl,rfl,J,by rw[j.length];exact D,c.write r (us:=us) z (j.app (RepL.cons B RepL.nil)) (by unfold RepV;rfl) q⟩⟩
def cZt:D->List D->Sto->DK->Prop:=λo ds S Q=>match o,ds with
 |.ref a,[.int i]=>∃xs j y,S a=some (.lst xs)/\i=(j:Nat)/\(j:Nat)<2^63/\xs[(j:Nat)]?=some y/\Q y (supd S a (.lst (xs.eraseIdx j)))
 |_,_=>False
theorem cJo:MtD K "list" dQb cZt ckL:=⟨λF S H d x r h c=>ty_L r h c,λF S H d ds x vs Q QD r h l q c=>by
 match d,ds,q with
 |.ref a,[.int i],⟨xs,j,y,D,hi,Y,N,q⟩ =>
  obtain⟨v,rfl,L⟩:=l.one;obtain⟨us,O,B⟩:=r.obj a _ D;obtain⟨z,e1,J⟩:=B.get N;rw[rref h,rint L];have U:j<us.length:=by
   rcases Nat.lt_or_ge j us.length with z|z
   ·exact z
   ·rw[bK z] at e1;cases e1
  have Z:seqIndex? i us.length=some j:=by
   subst hi
   have:ixN us.length (j:Int)=some j:=by unfold ixN;rw[if_pos (by lia),if_pos (by lia),cv]
   exact(bZs this).1
  exact⟨a,us,i,j,z,rfl,rfl,O,by lia,by subst hi;exact_mod_cast Y,Z,e1,c.write r (us:=us) D (B.erase j) J q⟩⟩
theorem aZ8{o e:Expr}{to:ED}{t:AD}{apos cpos:Pos}(ho:PD K X o to)(ha:PAD K X [e] t)(hK:X.K=K:=by rfl)
  (hbase:fb o "append" X.env (eval o X.env)=eval o X.env:=by rfl)
  (hfew:((bZ cpos (av [e] X.env)).all (λx=>!x.1) && (gP cpos (eO [] X.env)).all (λx=>x.1.isSome)
   && decide (([e]:List Expr).length+([]:List fG).length+(if ([]:List fG).isEmpty then 0 else 1)<30))=true:=by rfl)
  (hline:(apos.endLine==cpos.line)=true:=by rfl) (hs:av [e] X.env=(false,eval e X.env)::av [] X.env:=by rfl) (hplain:(bZ cpos (av [] X.env)).any (·.1)=false:=by rfl) :
  PD K X (.Call (.Attribute o "append" apos) [e] [] cpos) (dMt appD ckL to t):=e_bm eX5 fB PySem.F.slot_list_append PySem.F.type_list_append bQy ho ha hK hbase hfew hline hs hplain
theorem dXh{o e:Expr}{to:ED}{t:AD}{apos cpos:Pos}(ho:PD K X o to)(ha:PAD K X [e] t)(hK:X.K=K:=by rfl)
  (hbase:fb o "pop" X.env (eval o X.env)=eval o X.env:=by rfl)
  (hfew:((bZ cpos (av [e] X.env)).all (λx=>!x.1) && (gP cpos (eO [] X.env)).all (λx=>x.1.isSome)
   && decide (([e]:List Expr).length+([]:List fG).length+(if ([]:List fG).isEmpty then 0 else 1)<30))=true:=by rfl)
  (hline:(apos.endLine==cpos.line)=true:=by rfl) (hs:av [e] X.env=(false,eval e X.env)::av [] X.env:=by rfl) (hplain:(bZ cpos (av [] X.env)).any (·.1)=false:=by rfl) :
  PD K X (.Call (.Attribute o "pop" apos) [e] [] cpos) (dMt cZt ckL to t):=e_bm cJo fB PySem.F.slot_list_pop PySem.F.type_list_pop cJ4 ho ha hK hbase hfew hline hs hplain
end
end L2
set_option maxHeartbeats 1000000
namespace L2
open PySem PySem.Spec PyProof.Rows
def leS(a b:Str):Bool:=!HT.ltS b a
def leT(a b:List Str):Bool:=!HT.lexS b a
theorem bXu:∀a:List Str,HT.lexS a a=false
 |[]=>rfl
 |x::xs=>by rw[HT.lexS_cons,if_pos rfl,bXu xs]
theorem eX6(a b c:Str)(h:leS a b=true)(h':leS b c=true):leS a c=true:=by
 unfold leS at *
 rw[bR] at *
 cases e:HT.ltS c a with
 |false=>rfl
 |true =>
  by_cases j:b=a
  ·subst j;rw[h'] at e;cases e
  ·have:=HT.ltS_tr e (HT.ltS_tot h j)
   rw[h'] at this;cases this
theorem dXi(a b:Str):(leS a b||leS b a)=true:=by
 unfold leS;cases e:HT.ltS b a with
 |false=>rfl
 |true=>rw[HT.ltS_as e];rfl
theorem cJp{a b:Str}(h:leS a b=true)(h':leS b a=true):a=b:=by
 unfold leS at *
 rw[bR] at *
 exact bi λn=>by
  have:=HT.ltS_tot h (λz=>n z.symm)
  rw[h'] at this;cases this
theorem eX7(a b c:List Str)(h:leT a b=true)(h':leT b c=true):leT a c=true:=by
 unfold leT at *
 rw[bR] at *
 cases e:HT.lexS c a with
 |false=>rfl
 |true =>
  by_cases j:b=a
  ·subst j;rw[h'] at e;cases e
  ·have:=HT.lexS_tr e (HT.lexS_tot h j)
   rw[h'] at this;cases this
theorem dXj(a b:List Str):(leT a b||leT b a)=true:=by
 unfold leT;cases e:HT.lexS b a with
 |false=>rfl
 |true=>rw[HT.lexS_as e];rfl
theorem cJq{a b:List Str}(h:leT a b=true)(h':leT b a=true):a=b:=by
 unfold leT at *
 rw[bR] at *
 exact bi λn=>by
  have:=HT.lexS_tot h (λz=>n z.symm)
  rw[h'] at this;cases this
def srS(l:List Str):List Str:=l.mergeSort leS
def srT(l:List (List Str)):List (List Str):=l.mergeSort leT
def srI(l:List Int):List Int:=l.mergeSort λa b=>decide (a<=b)
theorem aZv(l:List Str):(srS l).Perm l:=gu _ _
theorem aX7(l:List (List Str)):(srT l).Perm l:=gu _ _
theorem cJr(l:List Int):(srI l).Perm l:=gu _ _
theorem bZd(l:List Str):(srS l).Pairwise λa b=>leS a b=true:=fC eX6 dXi l
theorem cZu(l:List (List Str)):(srT l).Pairwise λa b=>leT a b=true:=fC eX7 dXj l
theorem eX8(l:List Int):(srI l).Pairwise λa b=>decide (a<=b)=true:=fC (le:=λa b=>decide (a<=b)) (λa b c h h'=>decide_eq_true (Int.le_trans (of_decide_eq_true h) (of_decide_eq_true h'))) (λa b=>by
 rcases Int.le_total a b with h|h
 ·rw[decide_eq_true h];rfl
 ·rw[decide_eq_true h,Bool.or_true]) l
theorem eX9{l out:List Str}(p:out.Perm l)(h:out.Pairwise λa b=>HT.ltS b a=false):out=srS l :=
 (p.trans (aZv l).symm).eq_of_pairwise (λ_ _ _ _ h h'=>cJp h h') (h.imp λh=>by unfold leS;rw[h];rfl) (bZd l)
theorem dXk{l out:List (List Str)}(p:out.Perm l)(h:out.Pairwise λa b=>HT.lexS b a=false):out=srT l :=
 (p.trans (aX7 l).symm).eq_of_pairwise (λ_ _ _ _ h h'=>cJq h h') (h.imp λh=>by unfold leT;rw[h];rfl) (cZu l)
theorem eXa{l out:List Int}(p:out.Perm l)(h:out.Pairwise (·<=·)):out=srI l :=
 (p.trans (cJr l).symm).eq_of_pairwise (λ_ _ _ _ h h'=>Int.le_antisymm (of_decide_eq_true h) (of_decide_eq_true h')) (h.imp λh=>decide_eq_true h) (eX8 l)
section
variable{X:Cx}{K:Fg}{pos:Pos}{k:Nat}{e:Expr}{t:AD}{p:Pos}
theorem cZv{M:Am}{H:Hp}:∀{as:List Int}{xs:List V},RepL K M H (as.map D.int) xs->xs=as.map V.int
 |[],xs,h=>by rw[d9] at h;unfold RepL at h;exact h
 |a::as,xs,h=>by
  rw[aX] at h;unfold RepL at h;obtain⟨v,j,rfl,r,l⟩:=h;unfold RepV at r;rw[r,cZv l];rfl
theorem cZw{M:Am}{H:Hp}:∀{as:List Int},RepL K M H (as.map D.int) (as.map V.int)
 |[]=>RepL.nil
 |a::as=>RepL.cons (by unfold RepV;rfl) cZw
theorem cZx{M:Am}{H:Hp}:∀{as:List Str}{xs:List V},RepL K M H (as.map D.str) xs->xs=as.map V.str
 |[],xs,h=>by rw[d9] at h;unfold RepL at h;exact h
 |a::as,xs,h=>by
  rw[aX] at h;unfold RepL at h;obtain⟨v,j,rfl,r,l⟩:=h;unfold RepV at r;rw[r,cZx l];rfl
theorem cZy{M:Am}{H:Hp}:∀{as:List Str},RepL K M H (as.map D.str) (as.map V.str)
 |[]=>RepL.nil
 |a::as=>RepL.cons (by unfold RepV;rfl) cZy
def keyD:Key->D
 |.inl i=>.int i
 |.inr x=>.str x
def srcIs(S:Sto)(d:D)(xs:List D):Prop:=match d with
 |.tup ys=>xs=ys
 |.lst ys=>xs=ys
 |.ref a=>S a=some (.lst xs)\/∃kvs,S a=some (.dk kvs)/\xs=kvs.map λp=>keyD p.1
 |_=>False
theorem cZz{M:Am}{H:Hp}:∀{ks:List (Key×V)}{kvs:List (Key×D)},bx (λ(p:Key×V) (q:Key×D)=>p.1=q.1/\RepV K M H q.2 p.2) ks kvs->RepL K M H (kvs.map λp=>keyD p.1) (ks.map λp=>kV p.1)
 |_,_,.nil=>RepL.nil
 |_,_,.cons (a:=a) (b:=b) h l=>by
  refine RepL.cons ?_ (cZz l);show RepV K M H (keyD b.1) (kV a.1);rw[h.1];cases b.1 <;> (unfold keyD kV RepV;rfl)
theorem srcIs.src{F:Am}{S:Sto}{H:Hp}(r:Rp K F S H){d:D}{v:V}{xs:List D}(h:RepV K (mt S F) H d v)(l:srcIs S d xs):∃us,Src K H v us/\RepL K (mt S F) H xs us:=by
 cases d with
 |tup ys=>cases l;obtain⟨a,us,rfl,sq,l⟩:=tup.st h;exact⟨us,⟨a,rfl,.inr (.inl sq)⟩,l⟩
 |lst ys=>cases l;obtain⟨a,us,rfl,sq,l⟩:=lsIs.sl r h (show lsIs S (.lst xs) xs from rfl);exact⟨us,⟨a,rfl,.inl sq⟩,l⟩
 |ref a =>
  rw[rref h];rcases l with l|⟨B,l,rfl⟩
  ·obtain⟨us,z,j⟩:=r.obj a _ l;exact⟨us,⟨a,rfl,.inl (SqL.of z)⟩,j⟩
  ·obtain⟨J,z,j⟩:=r.obj a _ l;exact⟨_,⟨a,rfl,.inr (.inr ⟨J,z,rfl⟩)⟩,cZz j⟩
 |_=>exact l.elim
def tupS(t:List Str):D:=.tup (t.map D.str)
def srtD(b:Bool):RCD:=λds S Q=>match ds with
 |[d]=>(∃ss:List Str,srcIs S d (ss.map D.str)/\newL b ((srS ss).map D.str) S Q)\/(∃ns:List Int,srcIs S d (ns.map D.int)/\newL b ((srI ns).map D.int) S Q) \/
  ∃ts:List (List Str),srcIs S d (ts.map tupS)/\newL b ((srT ts).map tupS) S Q
 |_=>False
def fQ7(K:Fg):List V->Hp->VK->Prop:=λxs H Q=>eZu K xs H Q\/eZv K xs H Q\/eZw K xs H Q
theorem cX0{S:Sto}{F:Am}{H:Hp}:∀{ts:List (List Str)}{us:List V},RepL K (mt S F) H (ts.map tupS) us->bx (dT K dS H) us ts
 |[],us,h=>by rw[d9] at h;unfold RepL at h;subst h;exact .nil
 |a::as,xs,h=>by
  rw[aX] at h;unfold RepL at h;obtain⟨v,j,rfl,r,l⟩:=h;exact .cons (bX3 r) (cX0 l)
theorem cX1{M:Am}{H:Hp}{ds:List D}{us:List V}(l:RepL K M H ds us):∀(idx:List Nat),(∀i∈idx,i<us.length)->RepL K M H (idx.map λi=>ds.getD i .non) (idx.map λi=>us.getD i .non)
 |[],_=>RepL.nil
 |i::idx,h=>by
  have hi:=h i aA;refine RepL.cons ?_ (cX1 l idx λj z=>h j (au _ z));obtain⟨d,B,rd⟩:=l.get' (ag hi);show RepV K M H (ds.getD i .non) (us.getD i .non);rw[ak,ak,B,ag hi];exact rd
theorem eXb{b:Bool}:aXv K (fQ7 K) (srtD b):=by
 intro F S H ds vs Q QD r l h c
 match ds,h with
 |[d],h =>
  obtain⟨v,rfl,J⟩:=l.one;rcases h with⟨ss,h1,q⟩|⟨ss,h1,q⟩|⟨ts,h1,q⟩
  ·obtain⟨us,z,j⟩:=h1.src r J;rw[cZx j] at z;exact .inl ⟨v,ss,rfl,z,λp out B N L=>by
    rw[eX9 N L];exact c.new r B cZy q⟩
  ·obtain⟨us,z,j⟩:=h1.src r J;rw[cZv j] at z;exact .inr (.inl ⟨v,ss,rfl,z,λp out B N L=>by
    rw[eXa N L];exact c.new r B cZw q⟩)
  ·obtain⟨us,z,j⟩:=h1.src r J;refine .inr (.inr ⟨v,us,ts,rfl,z,cX0 j,λp idx B Z Y U=>c.new r B ?_ q⟩);have hl:=j.length;rw[am] at hl;have D:∀i∈idx,i<us.length:=λi hi=>bO.mp (Z.mem_iff.mp hi)
   have:=cX1 j idx D
   rw[<- dXk U Y,bW];have e:(idx.map λi=>(ts.map tupS).getD i .non)=idx.map (tupS∘λi=>ts.getD i []):=List.map_congr_left λi hi=>by
    have O:i<ts.length:=by have:=D i hi;omega
    show(ts.map tupS).getD i .non=tupS (ts.getD i []);rw[ak,ak,aK,ag O]
    rfl
   rw[<- e];exact this
theorem aQx{b:Bool}(hr:Room k X.A)(hg:Gl X "sorted")(hm:X.mg "sorted"=none)(ha:PAD K X [e] t)(hK:X.K=K:=by rfl)(hc:X.calm=true:=by rfl)(he:av [e] X.env=(false,eval e X.env)::av [] X.env:=by rfl)(hpl:(bZ pos (av [] X.env)).any (·.1)=false:=by rfl):PD K X (.Call (.Name "sorted" p) [e] [] pos) (dCB (srtD b) t):=aZb ((cZk hK hc).or ((cZl hK hc).or (cZm (lt10 hr) hK hc))) eXb hg hm aJa ha (by decide) (by decide) he hpl
def putG{β:Type}(kvs:List (Key×β))(key:Key)(v:β):List (Key×β) :=
 if (kvs.any λkv=>decide (kv.1=key))=true then kvs.map (λkv=>if kv.1=key then (kv.1,v) else kv) else kvs++[(key,v)]
theorem cJs{M:Am}{H:Hp}{key:Key}{d:D}{v:V}(rv:RepV K M H d v){ks:List (Key×V)}{kvs:List (Key×D)}(l:bx (λ(p:Key×V) (q:Key×D)=>p.1=q.1/\RepV K M H q.2 p.2) ks kvs):bx (λ(p:Key×V) (q:Key×D)=>p.1=q.1/\RepV K M H q.2 p.2) (putK ks key v) (putG kvs key d):=by
 have j:(ks.any λB=>decide (B.1=key))=kvs.any λB=>decide (B.1=key):=by
  induction l with
  |nil=>rfl
  |cons h _ z=>rw[dZ,dZ,h.1,z]
 unfold putK putG;rw[j]
 split
 ·rename_i J;clear j J
  induction l with
  |nil=>exact .nil
  |@cons a b as bs h _ z =>
   refine .cons ?_ z;show(if a.1=key then (a.1,v) else a).1=(if b.1=key then (b.1,d) else b).1/\RepV K M H (if b.1=key then (b.1,d) else b).2 (if a.1=key then (a.1,v) else a).2
   rw[h.1]
   split
   ·exact⟨rfl,rv⟩
   ·exact h
 ·rename_i J;clear j J
  induction l with
  |nil=>exact .cons ⟨rfl,rv⟩ .nil
  |cons h _ z=>exact .cons h z
def dkey:D->Option Key
 |.int i=>some (.inl i)
 |.str x=>some (.inr x)
 |_=>none
theorem aJ4{M:Am}{H:Hp}{d:D}{v:V}{key:Key}(h:RepV K M H d v)(e:dkey d=some key):v=kV key:=by
 cases d <;> first|(cases e;unfold RepV at h;exact h)|cases e
def fQ8:ED:=λ_ S Q=>∀p,S p=none->Q (.ref p) (supd S p (.dk []))
theorem eXc:PD K X (.Dict [] [] pos) fQ8:=.of cJm fun σ H Q z=>z.el λF S Γ QD r g q c=>λp j =>
 c (.ref p) (.ref p) _ (supd S p (.dk [])) (Ext.mk' j) (r.mk' j ⟨[],aQ7,.nil⟩) (by unfold RepV;rfl) (q p (r.sn j))
def fQ9(td ty tv:ED):SD:=λE Γ S=>tv Γ S λv S1=>td Γ S1 λo S2=>ty Γ S2 λy S3=>match o with
 |.ref a=>∃kvs key,S3 a=some (.dk kvs)/\dkey y=some key/\kvs.length<sizeLine/\E.nx Γ (supd S3 a (.dk (putG kvs key v)))
 |_=>False
theorem dXl{o i value:Expr}{td ty tv:ED}{pos':Pos}(hr:Room k X.A)(ho:PD K X o td)(hi:PD K X i ty)(hv:PD K X value tv)(hs:ix value (some (.Subscript o i pos')) pos.line X.env=pure false:=by rfl) :
  PSD K X (.Assign [.Subscript o i pos'] value pos) (fQ9 td ty tv):=.of (dXf (lt10 hr) ho.o hi.o hv.o hs) λD' σ H z0=>z0.el λF S Γ E r g q c =>
 ⟨F,S,Γ,_,r,g,q,λv d H1 S1 N r1 v1 q1=>⟨F,S1,Γ,_,r1,g.ext N,q1,λx od H2 S2 L r2 v2 q2=>⟨F,S2,Γ,_,r2,g.ext (N.trans L),q2,λy yd Z Y J r3 v3 B=>by
  cases od with
  |ref a =>
   obtain⟨O,key,hS,hk,hz,B⟩:=B;obtain⟨U,hu,lu⟩:=r3.obj a _ hS;have j:Y a≠none:=by rw[hS];exact λz=>by cases z
   have D:Ext Y Z (supd Y a (.dk (putG O key d))) (upd Z a (.dK (putK U key v))):=Ext.write j;refine⟨a,upd Z a (.dK (putK U key v)),rref (v2.ext J),?_,?_⟩
   ·rw[aJ4 v3 hk];exact .inl ⟨U,key,hu,rfl,by rw[cQ lu];exact hz,rfl⟩
   ·have x:=N.trans (L.trans (J.trans D));refine c.nx Γ _ σ _ x (r3.write j ⟨_,aQ7,?_⟩) (g.ext x) B;exact cJs (v1.ext (L.trans (J.trans D))) (Paired.imp (λ_ _ z=>⟨z.1,z.2.ext D⟩) lu)
  |_=>exact B.elim⟩⟩⟩
end
end L2
set_option maxHeartbeats 4000000
namespace L2
open PySem PySem.Spec PyProof.Rows
theorem md{a b:Int}(h:0<b):0<=a%b/\a%b<b:=⟨Int.emod_nonneg _ (by lia),Int.emod_lt_of_pos _ h⟩
theorem bQh{g:GD}{tt:TD}{tb:BD}{G:Sto->Prop}{Γ0:Gm}{xs acc:List D}{S:Sto}{Q:List D->Sto->Prop}(I:Nat->List D->Sto->Prop)(h0:I 0 acc S)
  (hs:∀i x acc S (N:List D->Sto->Prop),xs[i]?=some x->I i acc S->(∀acc' S',I (i+1) acc' S'->N acc' S')->G S/\g x Γ0 S fun Γ2 S2=>tt Γ2 S2 λb S3=>if b=true then tb Γ2 S3 acc N else N acc S3)
  (hd:∀acc S,I xs.length acc S->G S/\Q acc S):aZ1 g tt tb G Γ0 xs acc S Q:=by
 have gen:∀n i acc S,i+n=xs.length->I i acc S->aZ1 g tt tb G Γ0 (xs.drop i) acc S Q:=by
  intro n
  induction n with
  |zero =>
   intro i acc S hi h;have e:i=xs.length:=by lia
   subst e;rw[dE];exact hd acc S h
  |succ n z =>
   intro i acc S hi h;have j:i<xs.length:=by lia
   rw[aZn j];exact hs i xs[i] acc S (λacc' B=>aZ1 g tt tb G Γ0 (xs.drop (i+1)) acc' B Q) (ag j) h λacc' S' h'=>z (i+1) acc' S' (by lia) h'
 simpa using gen xs.length 0 acc S (by lia) h0
theorem for_ind{g:GD}{tb:SD}{G:Sto->Prop}{E:EndsD}{xs:List D}{Γ:Gm}{S:Sto}(I:Nat->Gm->Sto->Prop)(h0:I 0 Γ S)
  (hs:∀i x Γ S (N:Gm->Sto->Prop),xs[i]?=some x->I i Γ S->(∀Γ' S',I (i+1) Γ' S'->N Γ' S')->G S/\g x Γ S fun Γ2 S2=>tb {E with nx:=N,ct:=N,bk:=E.nx} Γ2 S2)
  (hd:∀Γ S,I xs.length Γ S->G S/\E.nx Γ S):forD g tb G E xs Γ S:=by
 have gen:∀n i Γ S,i+n=xs.length->I i Γ S->forD g tb G E (xs.drop i) Γ S:=by
  intro n
  induction n with
  |zero =>
   intro i Γ S hi h;have e:i=xs.length:=by lia
   subst e;rw[dE];exact hd Γ S h
  |succ n z =>
   intro i Γ S hi h;have j:i<xs.length:=by lia
   rw[aZn j];exact hs i xs[i] Γ S (forD g tb G E (xs.drop (i+1))) (ag j) h fun Γ' S' h'=>z (i+1) Γ' S' (by lia) h'
 simpa using gen xs.length 0 Γ S (by lia) h0
theorem aQy{α:Type}{i:Nat}{te:ED}{Γ0:Gm}{S:Sto}{Q:List D->Sto->Prop}{enc:α->D}{f:α->D}{xs:List α}{acc:List D}(h:∀x∈xs,∀Q:DK,Q (f x) S->te (Γ0.set i (some (enc x))) S Q)(hn:acc.length+xs.length<=sizeLine)
  (q:Q (acc++xs.map f) S):aZ1 (aZ7 i) dYes (aXj te) (λ_=>True) Γ0 (xs.map enc) acc S Q:=by
 induction xs generalizing acc with
 |nil=>exact⟨trivial,by simpa using q⟩
 |cons x xs z =>
  refine⟨trivial,?_⟩;show aXj te (Γ0.set i (some (enc x))) S acc (λj J=>aZ1 (aZ7 i) dYes (aXj te) (λ_=>True) Γ0 (xs.map enc) j J Q);refine h x aA _ ⟨by simp at hn;lia,z (λy B=>h y (au _ B)) (by simp at hn ⊢;lia) (by simpa using q)⟩
theorem aZc{α:Type}{i:Nat}{tt:TD}{te:ED}{Γ0:Gm}{S:Sto}{Q:List D->Sto->Prop}{enc:α->D}{p:α->Bool}{f:α->D}{xs:List α}{acc:List D}(ht:∀x∈xs,∀Q:Bool->Sto->Prop,Q (p x) S->tt (Γ0.set i (some (enc x))) S Q)(h:∀x∈xs,p x=true->∀Q:DK,Q (f x) S->te (Γ0.set i (some (enc x))) S Q)(hn:acc.length+xs.length<=sizeLine)
  (q:Q (acc++(xs.filter p).map f) S):aZ1 (aZ7 i) tt (aXj te) (λ_=>True) Γ0 (xs.map enc) acc S Q:=by
 induction xs generalizing acc with
 |nil=>exact⟨trivial,by simpa using q⟩
 |cons x xs z =>
  refine⟨trivial,?_⟩;show tt (Γ0.set i (some (enc x))) S _;refine ht x aA _ ?_;cases hp:p x with
  |true =>
   rw[if_pos rfl];refine h x aA hp _ ⟨by simp at hn;lia,z (λy j=>ht y (au _ j)) (λy j=>h y (au _ j)) (by simp at hn ⊢;lia) ?_⟩
   rw[eZ,hp] at q;simpa using q
  |false =>
   rw[if_neg (by simp)]
   refine z (λy j=>ht y (au _ j)) (λy j=>h y (au _ j)) (by simp at hn ⊢;lia) ?_
   rw[eZ,hp] at q;simpa using q
def sg(c:Nat):Str:=⟨#[c]⟩
theorem cJt{α:Type}(f:α->D)(xs:List α)(lo hi:Option Int):cutD (xs.map f) lo hi=((xs.drop (HT.sIx xs.length 0 lo)).take (HT.sIx xs.length xs.length hi-HT.sIx xs.length 0 lo)).map f:=by
 unfold cutD;rw[am,List.map_take,List.map_drop]
theorem dXm(n:Nat):rngD 0 n=(bu n).map λi=>.int (i:Nat):=by
 apply eG;intro i
 by_cases h:i<n
 ·have h1:i<(rngD 0 n).length:=by rw[aZt];exact h
  obtain⟨_,e⟩:=aX4 n 0 i _ (ag h1);rw[ag h1,e,aK,List.getElem?_range h];simp
 ·rw[bK (by rw[aZt];lia),bK (by simp;lia)]
theorem cX2{n i:Nat}{x:D}(h:(rngD 0 n)[i]?=some x):i<n/\x=.int (i:Nat):=by
 obtain⟨h1,h2⟩:=aX4 n 0 i x h;exact⟨h1,by rw[h2,Int.zero_add]⟩
def Off(a:Addr)(S S':Sto):Prop:=∀b,b≠a->S' b=S b
theorem Off.trans{a:Addr}{S S1 S2:Sto}(h:Off a S S1)(h':Off a S1 S2):Off a S S2:=λb j=>(h' b j).trans (h b j)
end L2
set_option maxHeartbeats 1000000
namespace L2
open PySem PySem.Spec PyProof.Rows
section
variable{X:Cx}{K:Fg}{pos:Pos}{k:Nat}
def exrD:D->List D->Sto->DK->Prop:=λo ds S Q=>match o,ds with
 |.ref a,[.ref b]=>∃xs ys,S a=some (.lst xs)/\S b=some (.lst ys)/\xs.length+ys.length<=sizeLine/\Q .non (supd S a (.lst (xs++ys)))
 |_,_=>False
theorem eXd:MtD K "list" cQe exrD ckL:=⟨λF S H d x r h c=>ty_L r h c,λF S H d ds x N Q QD r h l q c=>by
 match d,ds,q with
 |.ref a,[.ref b],⟨xs,ys,B,j,J,q⟩ =>
  obtain⟨v,rfl,D⟩:=l.one;obtain⟨us,L,z⟩:=r.obj a _ B;obtain⟨ws,hw,lw⟩:=r.obj b _ j;rw[rref h,rref D];exact⟨a,b,us,ws,rfl,rfl,L,hw,by rw[z.length,lw.length];exact J,c.write r (us:=us) B (z.app lw) (by unfold RepV;rfl) q⟩⟩
theorem cJu{o e:Expr}{to:ED}{t:AD}{apos cpos:Pos}(ho:PD K X o to)(ha:PAD K X [e] t)(hK:X.K=K:=by rfl)
  (hbase:fb o "extend" X.env (eval o X.env)=eval o X.env:=by rfl)
  (hfew:((bZ cpos (av [e] X.env)).all (λx=>!x.1) && (gP cpos (eO [] X.env)).all (λx=>x.1.isSome)
   && decide (([e]:List Expr).length+([]:List fG).length+(if ([]:List fG).isEmpty then 0 else 1)<30))=true:=by rfl)
  (hline:(apos.endLine==cpos.line)=true:=by rfl) (hs:av [e] X.env=(false,eval e X.env)::av [] X.env:=by rfl) (hplain:(bZ cpos (av [] X.env)).any (·.1)=false:=by rfl) :
  PD K X (.Call (.Attribute o "extend" apos) [e] [] cpos) (dMt exrD ckL to t):=e_bm eXd fB PySem.F.slot_list_extend PySem.F.type_list_extend cQf ho ha hK hbase hfew hline hs hplain
end
end L2
set_option maxHeartbeats 4000000
namespace L2
open PySem PySem.Spec PyProof.Rows
section
variable{X:Cx}{K:Fg}{pos:Pos}{k:Nat}
theorem dXn{pins:List (Addr×Obj)}{σ:St}{H:Hp}{s:ah}{Q:VK}{xs:List V}{acc:Array ad}{h':aY}{c tk:Nat}(I:Inv X pins σ H s)(hz:xs.length<=sizeLine)(r:Vals xs acc.toList)(hk:∀b o,s.heap.get? b=some o->h'.get? b=some o)
  (hp:h'.get? s.heap.objs.size=some {cls:=.type "list",dict:=none,data:=.seq acc c,slots:=#[]}) (q:∀l,H l=none->Q (.ref l) (upd H l (.lst xs))):EP X pins σ Q (.ref s.heap.objs.size) {s with heap:=h',toks:=tk}:=by
 refine⟨.ref s.heap.objs.size,_,I.laid (t':=tk) (o:=.lst xs) hk (Nat.le_refl _) ?_,rfl,q _ (I.hok.fresh (Nat.le_refl _))⟩;exact⟨hz,acc.toList,c,r,by rw[Array.toArray_toList];exact hp⟩
theorem cX3:∀{xs:List V}{us:List ad},xs.length=us.length->(∀(i:Nat) (x:V) (u:ad),xs[i]?=some x->us[i]?=some u->RelV x u)->Vals xs us
 |[],[],_,_=>.nil
 |[],_::_,h,_=>by simp at h
 |_::_,[],h,_=>by simp at h
 |x::xs,u::us,h,j=>.cons (j 0 x u rfl rfl) (cX3 (by simpa using h) λi y v h1 h2=>j (i+1) y v (by simpa using h1) (by simpa using h2))
theorem bJl(hc:X.calm=true:=by rfl):CallR X (.type "list") (λxs H Q=>∃x:Str,xs=[.str x]/\x.length<=1000/\∀l,H l=none->Q (.ref l) (upd H l (.lst (x.cps.toList.map λc=>.str ⟨#[c]⟩)))):=by
 intro pins s σ H xs us Q I r h;obtain⟨x,rfl,D,q⟩:=h;obtain⟨u,rfl,B⟩:=aX0 r;obtain⟨t,rfl⟩:=B;have O:x.cps.size<=1000:=D;refine call_list_str (I.ok.hd hc) x t (λh' N acc c L J it=>dXn I (by rw[am,aJ,aW];lia) ?_ L J q) (by rw[aW];lia)
 refine cX3 (by rw[am,aJ,aJ,it.1]) λi y u h1 h2=>?_
 obtain⟨U,z,j,rfl⟩:=it.2 i u (by rw[<- aT];exact h2)
 rw[aK,aT,j] at h1;cases h1;exact⟨z,rfl⟩
def lsSD(b:Bool):RCD:=λds S Q=>match ds with
 |[.str x]=>x.length<=1000/\newL b (x.cps.toList.map λc=>.str ⟨#[c]⟩) S Q
 |_=>False
theorem bXv{M:Am}{H:Hp}:∀cs:List Nat,RepL K M H (cs.map λc=>D.str ⟨#[c]⟩) (cs.map λc=>V.str ⟨#[c]⟩)
 |[]=>RepL.nil
 |c::cs=>RepL.cons (by unfold RepV;rfl) (bXv cs)
theorem dXo{b:Bool}{e:Expr}{t:AD}{p:Pos}(hg:Gl X "list")(hm:X.mg "list"=none)(ha:PAD K X [e] t)(hc:X.calm=true:=by rfl)(he:av [e] X.env=(false,eval e X.env)::av [] X.env:=by rfl)(hpl:(bZ pos (av [] X.env)).any (·.1)=false:=by rfl):PD K X (.Call (.Name "list" p) [e] [] pos) (dCB (lsSD b) t):=aJ2 (bJl hc) (by
 intro F S H ds D Q QD r l h c
 match ds,h with
 |[.str x],⟨z,q⟩ =>
  obtain⟨v,rfl,j⟩:=l.one;rw[rstr j];exact⟨x,rfl,z,λp B=>c.new r B (bXv _) q⟩) hg hm cQi ha (by decide) (by decide) he hpl
end
end L2
set_option maxHeartbeats 1000000
namespace L2
open PySem PySem.Spec PyProof.Rows
def Its(x:Str):It:=⟨λi _=>i<x.cps.size,λi H v H'=>H'=H/\∃c,x.cps[i]?=some c/\v=.str ⟨#[c]⟩,λi _=>i=x.cps.size⟩
theorem bXw{P:aC}{w:aL}{K:Fg}{tg:Expr}(x:Str)(t:Tok)(ty:String)(it:Addr)(hty:["enumerate", "zip", "dict_itemiterator", "dict_reverseitemiterator", "odict_iterator", "itertools.zip_longest", "itertools.pairwise"].contains ty=false)
  (W:∀A:aO,A.handled=none->Walks P w A it [it] [it] x.cps.size (SignAt x) (λi h=>h.IsStrIter it ty x t i)) (hs:∀(A:aO) (i:Nat) (s:ah) (Q:ad->ah->Prop) (E:ad->ah->Prop),s.heap.IsStrIter it ty x t i->Q (.ref it) s->aF (az P w) A (pyIter (.ref it)) Q E s) :
  Turn P w K tg (Its x) [it] it (λi h=>h.IsStrIter it ty x t i) where
 mem:=by simp
 obj:=λi h st b j=>by
  have e:b=it:=by simpa using j
  subst e;obtain⟨o,g,c,d⟩:=st;exact⟨o,g,λv z=>by rw[d] at z;cases z⟩
 keep:=λi h h' st k=>by
  obtain⟨o,g,r⟩:=st;exact⟨o,k it (by simp) o g,r⟩
 item:=by
  intro X U hw Y O i pins s σ H E I hf st L;subst U hw Y;obtain⟨f0,f1,f2,Z,f4,f5⟩:=hf it (by simp)
  refine(W X.A (I.ok.hd O)).item i s _ E L st λv h' B hv D J=>?_;obtain⟨c,u,N,rfl⟩:=hv;have I1:Inv X pins σ H {s with heap:=h',toks:=B}:=I.turned (t':=B) (λb o j e=>J b o (by simpa using j) e) f0 f1 Z f4 f5
  obtain⟨o,e,cl,d⟩:=id D;exact⟨_,rfl,cXw (s:={s with heap:=h',toks:=B}) e cl d hty ⟨.str ⟨#[c]⟩,H,I1,⟨u,rfl⟩,⟨rfl,c,N,rfl⟩,D,λb j=>(hf b j).1⟩⟩
 done:=by
  intro X U hw Y O i pins s σ H E I hf st L;subst U hw Y;obtain⟨f0,f1,f2,Z,f4,f5⟩:=hf it (by simp)
  have e:i=x.cps.size:=L;subst e;exact(W X.A (I.ok.hd O)).done s _ E st λh' B J=>⟨rfl,I.turned (t':=B) (λb o j e=>J b o (by simpa using j) e) f0 f1 Z f4 f5⟩
 self:=λA i s Q E st h=>hs A i s Q E st h
section
variable{X:Cx}{tg:Expr}
def iStr(tl:TE):TI:=fun σ H R=>tl σ H λv H1=>∃x,v=.str x/\R (Its x) H1
theorem eXe{l:Expr}{tl:TE}(hl:PE X l tl):PI X tg l (iStr tl):=by
 intro pins s σ H R I h;refine thn (hl pins s σ H _ I h) λv s1 ⟨y,H1,j,z,x,e,q⟩=>?_;subst e;obtain⟨t,rfl⟩:=z;refine wpAny_pyIter_strU ?_;have D:∀b∈[s1.heap.objs.size],FpOk X pins H1 b:=λb B=>by
  have e:b=s1.heap.objs.size:=by simpa using B
  subst e;exact j.fpOk (Nat.le_refl _) (j.hok.fresh (Nat.le_refl _))
 refine⟨s1.heap.objs.size,[s1.heap.objs.size],(λi h=>h.IsStrIter s1.heap.objs.size (strIterType x) x t i),_,H1,rfl,j.kept (t':=s1.toks) λb o e=>ae _ e,?_,⟨_,ax _ rfl,rfl,rfl⟩,D,q⟩;unfold strIterType
 split
 ·exact bXw x t _ _ (by decide) (λA hh=>Walks.strAscii hh _ x t) λA i s Q E st h=>wpAny_pyIter_striter_ascii st h
 ·exact bXw x t _ _ (by decide) (λA hh=>Walks.strWide hh _ x t) λA i s Q E st h=>wpAny_pyIter_striter_wide st h
end
section
variable{X:Cx}{K:Fg}{pos:Pos}
theorem dXp{F:Am}{S:Sto}{H:Hp}{x:Str}{G:Sto->Prop}:ItOk K F S H (Its x) (cJi x) G where
 go:=λL f J H2 y j _ i d hd=>by
  unfold cJi at hd;rw[aK,a8] at hd;obtain⟨c,hc,rfl⟩:=hd;rw[aT] at hc;have hi:i<x.cps.size:=by
   rcases Nat.lt_or_ge i x.cps.size with z|z
   ·exact z
   ·rw[Array.getElem?_eq_none z] at hc;cases hc
  refine⟨hi,λz O ⟨D,N,hc',B⟩=>?_⟩;subst B;subst D;rw[hc] at hc';cases hc';exact⟨Ext.refl _ _,j,by unfold RepV;rfl⟩
 stop:=λL f J H2 y j _=>by unfold cJi;rw[am];exact aJ
def fQa(te:ED):ID:=fun Γ S Q=>te Γ S λd S1=>match d with
 |.str x=>Q (cJi x) (λ_=>True) S1
 |_=>False
theorem dQv{tg l:Expr}{tl:ED}(hl:PD K X l tl):PID K X tg l (fQa tl):=.of (eXe hl.o) fun σ H Q z=>z.el λF S Γ QD r g q c =>
 ⟨F,S,Γ,_,r,g,q,λv d H1 J B D v1 j=>by
  match d,j with
  |.str x,j=>exact⟨x,rstr v1,c _ _ _ _ _ B D dXp j⟩⟩
end
end L2
set_option maxHeartbeats 4000000
namespace L2
open PySem PySem.Spec PyProof.Rows
section
variable{X:Cx}{K:Fg}{pos:Pos}{k:Nat}{F:Am}{S:Sto}{H:Hp}
theorem Rp.ntup(r:Rp K F S H){a:Addr}{xs:List V}(h:Rd H a (.tup xs)):¬ mt S F a:=λz=>by
 have no:∀u,H a=some u->(∀ys,u≠.tup ys)->(∀o ys,u≠.frz o (.tup ys))->False:=λu e L J=>by
  rcases h with h|⟨o,h⟩
  ·rw[e] at h;exact L _ (aM h)
  ·rw[e] at h;exact J _ _ (aM h)
 rcases z with z|z
 ·cases e:S a with
  |none=>exact z e
  |some o =>
   have q:=r.obj a o e;cases o with
   |lst ds=>obtain⟨us,j,_⟩:=q;exact no _ j (λ_ z=>by cases z) λ_ _ z=>by cases z
   |dk B=>obtain⟨us,j,_⟩:=q;exact no _ j (λ_ z=>by cases z) λ_ _ z=>by cases z
   |dt B=>obtain⟨us,j,_⟩:=q;exact no _ j (λ_ z=>by cases z) λ_ _ z=>by cases z
   |tb ps O=>obtain⟨us,j,_⟩:=q;exact no _ j (λ_ z=>by cases z) λ_ _ z=>by cases z
   |ex f U N=>obtain⟨us,j,D⟩:=N _ _ _ q;exact no _ j (λ_ z=>by subst z;exact D) λ_ _ z=>by subst z;exact D
 ·obtain⟨⟨zs,e,ct⟩,_⟩:=r.frm a z;exact no _ e (λ_ z=>by subst z;exact ct) λ_ _ z=>by subst z;exact ct
end
end L2
set_option maxHeartbeats 1000000
namespace L2
open PySem PySem.Spec PyProof.Rows
section
variable{X:Cx}
def dSs(w:aL):Dn (List Str):=λH v ms=>∃p es ep t,v=.ref p/\H p=some (stO p es ep t)/\t.fits es.size=true/\t.led=ST.ledOf w/\(t.plain=true->es.size<=1)/\iU (es.toList.map (·.2)) ms
theorem bZe{l l':List ad}(p:l'.Perm l):∀{m:List Str},iU l m->∃m',m'.Perm m/\iU l' m':=by
 induction p with
 |nil=>intro m h;exact⟨m,.refl _,h⟩
 |cons x p O =>
  intro m h;cases h with
  |cons y t r =>
   obtain⟨m',L,h'⟩:=O r;exact⟨_::m',L.cons _,.cons _ _ h'⟩
 |swap x y l =>
  intro m h;cases h with
  |cons y t r =>
   cases r with
   |cons z u r=>exact⟨_,.swap _ _ _,.cons _ _ (.cons _ _ r)⟩
 |trans p q B j =>
  intro m h;obtain⟨U,J,h1⟩:=j h;obtain⟨N,D,h2⟩:=B h1;exact⟨N,D.trans J,h2⟩
def cX4(w:aL):List V->Hp->VK->Prop:=λxs H Q=>∃x ms,xs=[x]/\dSs w H x ms/\ms.Nodup/\ms.length<300/\∀(l:Addr) (out:List Str),H l=none->out.Perm ms->out.Pairwise (λa b=>HT.ltS a b=true)->Q (.ref l) (upd H l (.lst (out.map V.str)))
theorem bQi{w:aL}(hw:X.w=w:=by rfl)(hc:X.calm=true:=by rfl):CallR X (.builtin "sorted") (cX4 w):=by
 subst hw;intro pins s σ H xs us Q I r h;obtain⟨x,ms,rfl,⟨p,es,ep,t,rfl,hH,hf,L,O,pp⟩,nd,h64,q⟩:=h;obtain⟨u,rfl,rx⟩:=aX0 r;cases rx;obtain⟨hg,_⟩:=I.hok p _ hH;have hl:es.size=ms.length:=by have:=pp.length;simpa using this
 have hh:=I.ok.hd hc;refine g7 kind_sorted plain_sorted entry_sorted (args_sorted1 _) ?_;unfold cK.«sorted»;refine aa (m:=checkCount "sorted" 1 1 _) (af ?_);refine aa (ST.collectT (by simp[hh]) hg hf L O (by omega) λvals h1 d J kp=>?_)
 obtain⟨ms',j,z⟩:=bZe J pp;have hvl:vals.length=ms'.length:=z.length;have hml:ms'.length=ms.length:=j.length_eq;have I1:Inv X pins σ H {s with heap:=h1,drawn:=d}:=(I.kept (t':=s.toks) kp).drawn d
 refine aa (wpAny_newList ?_ (by rw[aW];omega))
 have B:(h1.push (be "list" vals.toArray 0)).get? h1.objs.size=some (be "list" vals.toArray 0):=ax _ rfl;refine aa (bM (dD slot_list_sort ⟨_,B,rfl⟩ entry_list_sort (SF.treeK strKind_oneLt (s:={s with heap:=h1.push (be "list" vals.toArray 0),drawn:=d}) B z.keysOf (λZ Y rest e=>keyKind_strs (by rw[<- e];exact z)) (by rw[aW];omega) λD a1 a2=>⟨_,rfl,?_⟩) (args_list_sort _)))
 refine af ⟨_,rfl,?_⟩;obtain⟨out,o1,N,o3⟩:=sorted_out_str z a1 a2;obtain⟨v1,_⟩:=bQc (H:=H) o1;have U:H h1.objs.size=none:=I1.hok.fresh (Nat.le_refl _);obtain⟨e,he⟩:=sortedHeap_at (out:=(aH D).map (·.2)) B;have hol:=N.length_eq;have I2:Inv X pins σ (upd H h1.objs.size (.lst (out.map V.str))) {s with heap:=fu (h1.push (be "list" vals.toArray 0)) h1.objs.size vals ((aH D).map (·.2)),drawn:=d}:=I1.laid (t':=s.toks) (λb o g=>(sortedHeap_old (Nat.ne_of_lt (aD g)) (Nat.lt_trans (aD g) (aD B))).trans (ae _ g)) (Nat.le_refl _)
  ⟨by rw[am,aW];omega,((aH D).map (·.2)).toList,e,v1,by rw[Array.toArray_toList];exact he⟩
 exact⟨.ref h1.objs.size,_,I2,rfl,q _ _ U (N.trans j) (dQl o3 ((N.trans j).nodup_iff.mpr nd))⟩
end
section
variable{X:Cx}{K:Fg}{pos:Pos}{k:Nat}
theorem eXf{M:Am}{H:Hp}:∀ss:List Str,RepL K M H (ss.map D.str) (ss.map V.str)
 |[]=>RepL.nil
 |s::ss=>RepL.cons (by unfold RepV;rfl) (eXf ss)
end
end L2
set_option maxHeartbeats 4000000
namespace L2
open PySem PySem.Spec PyProof.Rows
end L2
set_option maxHeartbeats 1000000
namespace L2
open PySem PySem.Spec PyProof.Rows
section
variable{X:Cx}{K:Fg}{pos:Pos}
theorem eXg:bg "abs"=some (.builtin "abs"):=by decide +kernel
def absD:RCD:=λds S Q=>match ds with
 |[.int i]=>Q (.int (if i<0 then -i else i)) S
 |_=>False
theorem dXq{e:Expr}{t:AD}{p:Pos}(hg:Gl X "abs")(hm:X.mg "abs"=none)(ha:PAD K X [e] t)(he:av [e] X.env=(false,eval e X.env)::av [] X.env:=by rfl)(hpl:(bZ pos (av [] X.env)).any (·.1)=false:=by rfl):PD K X (.Call (.Name "abs" p) [e] [] pos) (dCB absD t):=aZb cXy (by
 intro F S H ds z Q QD r l h c
 match ds,h with
 |[.int i],q =>
  obtain⟨v,rfl,j⟩:=l.one;rw[rint j];exact⟨i,rfl,c _ _ _ S (Ext.refl _ _) r (by unfold RepV;rfl) q⟩) hg hm eXg ha (by decide) (by decide) he hpl
end
def emitOfS(elt:Expr)(acc:ad)(env:Env):Sem Unit:=eval elt env>>=λx=>fh elt.pos>>=λ_=>call (.builtin "set.add") [acc,x]>>=λ_=>pure ()
theorem bJm(elt target iter t2 i2:Expr)(ifs ifs2:List Expr)(scope:Scope)(pos:Pos)(it acc:ad)(env:Env) :
  eP (.SetComp elt [⟨target,iter,ifs,0⟩,⟨t2,i2,ifs2,0⟩] scope pos) 0 it acc env=aZ2 target ifs iter.pos (innerOf (.SetComp elt [⟨target,iter,ifs,0⟩,⟨t2,i2,ifs2,0⟩] scope pos) i2 acc env) (.compLoop (.SetComp elt [⟨target,iter,ifs,0⟩,⟨t2,i2,ifs2,0⟩] scope pos) 0 it acc env) it env:=by
 unfold aZ2 bQ7 innerOf;show(fh iter.pos>>=λ_=>fj it>>=λr=>_)=_;refine bind_congr λ_=>bind_congr λr=>?_;cases r with
 |none=>rfl
 |some v =>
  show(ej target it v>>=λ_=>assign target env v>>=λ_=>(forIn ifs true _>>=λok=>_))=_;refine bind_congr λ_=>bind_congr λ_=>bind_congr λok=>?_;cases ok with
  |false=>rfl
  |true =>
   simp only[bind_assoc,pure_bind]
   rfl
theorem bJn(elt target iter t2 i2:Expr)(ifs ifs2:List Expr)(scope:Scope)(pos:Pos)(it acc:ad)(env:Env) :
  eP (.SetComp elt [⟨target,iter,ifs,0⟩,⟨t2,i2,ifs2,0⟩] scope pos) 1 it acc env=aZ2 t2 ifs2 i2.pos (emitOfS elt acc env) (.compLoop (.SetComp elt [⟨target,iter,ifs,0⟩,⟨t2,i2,ifs2,0⟩] scope pos) 1 it acc env) it env:=by
 unfold aZ2 bQ7 emitOfS;show(fh i2.pos>>=λ_=>fj it>>=λr=>_)=_;refine bind_congr λ_=>bind_congr λr=>?_;cases r with
 |none=>rfl
 |some v =>
  show(ej t2 it v>>=λ_=>assign t2 env v>>=λ_=>(forIn ifs2 true _>>=λok=>_))=_;refine bind_congr λ_=>bind_congr λ_=>bind_congr λok=>?_;cases ok <;> rfl
def TKp(H H':Hp):Prop:=∀a xs,Rd H a (.tup xs)->Rd H' a (.tup xs)
abbrev PVk{κ:Type}(rp:Hp->V->κ->Prop)(H:Hp):ad->V×κ->Prop:=λv p=>RelV p.1 v/\rp H p.1 p.2
structure SKn(P:aC)(w:aL)(K:Fg)(κ:Type) where
 kd:Hp->ST.SetKd P w κ
 rp:Hp->V->κ->Prop
 pI:Array (Int×ad)->cg->List κ->Prop
 toI:∀{X:Cx}{pins σ H s p es ep t} {ps:List (V×κ)},X.prog=P->X.w=w->X.K=K->Inv X pins σ H s->s.heap.get? p=some (ST.setOb es ep t)->pI es t (ps.map (·.2))->bx (PVk rp H) (es.toList.map (·.2)) ps ->
  (kd H).I s.heap p es ep t/\bx (λ(e:Int×ad) k=>(kd H).is s.heap k e.2) es.toList (ps.map (·.2))
 toIs:∀{X:Cx}{pins σ H s} {x:V}{v:ad}{k:κ},X.prog=P->X.w=w->X.K=K->Inv X pins σ H s->RelV x v->rp H x k->(kd H).is s.heap k v
 ofI:∀{H:Hp}{h:aY}{p es ep t} {ks:List κ},(kd H).I h p es ep t->ks.Nodup->bx (λ(e:Int×ad) k=>(kd H).is h k e.2) es.toList ks->∃ps:List (V×κ),bx (PVk rp H) (es.toList.map (·.2)) ps/\ps.map (·.2)=ks/\pI es t ks
 fr:∀led,pI #[] (.fresh 0 0 led) []
 mo:∀{H H':Hp}{v:V}{k:κ},TKp H H'->rp H v k->rp H' v k
def StV{P:aC}{w:aL}{K:Fg}{κ:Type}(kn:SKn P w K κ)(H:Hp)(p:Addr)(acc:List κ):Prop:=∃es ep t,∃ps:List (V×κ),H p=some (stO p es ep t)/\t.led=ST.ledOf w/\kn.pI es t (ps.map (·.2))/\bx (PVk kn.rp H) (es.toList.map (·.2)) ps/\(ps.map (·.2)).Nodup/\∀k,k∈ps.map (·.2)↔k∈acc
theorem StV.keep{P:aC}{w:aL}{K:Fg}{κ:Type}{kn:SKn P w K κ}{H H':Hp}{p:Addr}{acc:List κ}(h:StV kn H p acc)(e:H' p=H p)(t:TKp H H'):StV kn H' p acc:=by
 obtain⟨es,L,tb,ps,h1,h2,J,D,B,j⟩:=h;exact⟨es,L,tb,ps,e.trans h1,h2,J,Paired.imp (λ_ _ z=>⟨z.1,kn.mo t z.2⟩) D,B,j⟩
theorem StV.at{P:aC}{w:aL}{K:Fg}{κ:Type}{kn:SKn P w K κ}{H:Hp}{p:Addr}{acc:List κ}(h:StV kn H p acc):∃φ,H p=some (.ext φ):=by
 obtain⟨es,j,tb,ps,h1,_⟩:=h;exact⟨_,h1⟩
theorem dXr{H:Hp}{p:Addr}{φ:aY->Prop}{o:HO}(h:H p=some (.ext φ)):TKp H (upd H p o):=λa xs r=>by
 have:a≠p:=by
  rintro rfl;rcases r with r|⟨o,r⟩ <;> rw[h] at r <;> cases r
 rcases r with r|⟨o',r⟩
 ·exact .inl (by rw[upd_ne this];exact r)
 ·exact .inr ⟨o',by rw[upd_ne this];exact r⟩
section
variable{X:Cx}{K:Fg}{κ:Type}[DecidableEq κ]
def cX5{P:aC}{w:aL}(kn:SKn P w K κ)(p:Addr)(te:TE):TB:=fun σ H N=>te σ H λy H4=>∃acc k,StV kn H4 p acc/\kn.rp H4 y k/\acc.length+1<=300/\∀φ,StV kn (upd H4 p (.ext φ)) p (acc++[k])->N (upd H4 p (.ext φ))
theorem cJv{P:aC}{w:aL}{kn:SKn P w K κ}{elt:Expr}{te:TE}{p:Addr}(hxe:X.xe=λ_ _=>False)(hu:X.A.units+1<bU)(hP:X.prog=P)(hw:X.w=w)(hK:X.K=K)(he:PE X elt te):PB X (emitOfS elt (.ref p) X.env) (cX5 kn p te):=by
 intro pins s σ H N I h;unfold emitOfS;have h1:=he pins s σ H _ I h;rw[hxe] at h1;refine aa (thn h1 λy s1 ⟨v,H1,I1,r1,acc,k,st,rk,hn,n⟩=>aa (e8 (aa ?_)));obtain⟨es,ep,t,ps,hp,hled,hpi,hpp,hnd,Z⟩:=id st;subst hP hw;obtain⟨ho,_⟩:=I1.hok p _ hp;obtain⟨i1,i2⟩:=kn.toI rfl rfl hK I1 ho hpi hpp;have isk:=kn.toIs rfl rfl hK I1 r1 rk;have M:ST.Mem (kn.kd H1) s1.heap p acc (ST.ledOf X.w) (ps.map (·.2)):=⟨⟨es,ep,t,i1,hled,i2⟩,hnd,Z⟩;refine dD F.slot_set_add ⟨_,ho,rfl⟩ F.entry_set_add ?_ (F.args_set_add_2 _ _);unfold cK.«set.add» cK.Frozenset.oneOther;simp only[iD,bind_assoc];unfold ip;refine aa (af ?_)
 try dsimp only
 refine aa (af ?_)
 try dsimp only
 refine aa ?_;refine ST.addM (kn.kd H1) (show X.A.units+1<bU by omega) M isk (by have:=M.size;omega) λh' tk ks' M' sb kp tk'=>?_
 show aF _ _ (ret bJ) _ _ _;refine af ⟨_,rfl,af ?_⟩;obtain⟨J,L,t',O,B,i2'⟩:=M'.ex;obtain⟨ps',U,D,Y⟩:=kn.ofI O M'.nd i2';have j:=(kn.kd H1).obj O;have I2:Inv X pins σ (upd H1 p (stO p J L t')) {s1 with heap:=h',toks:=tk}:=I1.write (x:=p) (e:=p) (by rw[hp];exact trivial) (.inl rfl) (λb u hb hu=>(sb.2 b hb).trans hu) ⟨_,j⟩ ⟨j,⟨_,j⟩,λg1 g2 g k=>k _ g⟩
 have tk1:TKp H1 (upd H1 p (stO p J L t')):=dXr hp;refine⟨σ,_,I2,Wk.refl σ,n _ ⟨J,L,t',ps',aQ7,B,by rw[D];exact Y,Paired.imp (λ_ _ z=>⟨z.1,kn.mo tk1 z.2⟩) U,by rw[D];exact M'.nd,by rw[D];exact M'.mem⟩⟩
end
end L2
namespace ST
open PySem PySem.SetTable PySem.Spec PyProof.Rows
end ST
namespace L2
open PySem PySem.Spec PyProof.Rows
def bJo(P:aC)(w:aL)(K:Fg):SKn P w K Str where
 kd:=λ_=>ST.strKd P w
 rp:=λ_ v k=>v=.str k
 pI:=λes t _=>t.fits es.size=true/\ElemsOf (f9 P w) es.toList/\(t.plain=true->es=#[])
 toI:=λ{X pins σ H s p es ep t ps} _ _ _ _ ho hpi hp=>⟨⟨ho,hpi⟩,by
  generalize es.toList=l at hp
  induction l generalizing ps with
  |nil=>cases hp;exact .nil
  |cons e l ih =>
   cases hp with
   |cons h1 h2 =>
    refine .cons ?_ (ih h2);obtain⟨r,e1⟩:=h1;rw[e1] at r;obtain⟨t',e2⟩:=r;have e2:e.2=_:=e2;show eC _ e.2=true;rw[e2];simp[eC]⟩
 toIs:=λ{X pins σ H s x v k} _ _ _ _ r e=>by
  rw[e] at r;obtain⟨t',e2⟩:=r;rw[e2];have z:eC k (jk k t')=true:=by simp[eC]
  exact z
 ofI:=λ{H h p es ep t ks} hI nd hp=>by
  clear nd;refine(λ⟨ps,a,b⟩=>⟨ps,a,b,hI.2⟩) (?_:∃ps:List (V×Str),bx (PVk (λ_ v k=>v=.str k) H) (es.toList.map (·.2)) ps/\ps.map (·.2)=ks);generalize es.toList=l at hp
  induction l generalizing ks with
  |nil=>cases hp;exact⟨[],.nil,rfl⟩
  |cons e l ih =>
   cases hp with
   |cons h1 h2 =>
    obtain⟨ps,a,b⟩:=ih h2;obtain⟨tk,e1⟩:=gq (show eC _ e.2=true from h1)
    exact⟨(.str _,_)::ps,.cons ⟨⟨tk,e1⟩,rfl⟩ a,by rw[aX,b]⟩
 fr:=λled=>⟨rfl,ST.empty_el,λ_=>rfl⟩
 mo:=λ_ h=>h
theorem bQj{prog:aC}{w:aL}{A:aO}{R:Result->ah->Prop}{s:ah}{elt target iter:Expr}{ifs:List Expr}{rest:List eD}{scope:Scope}{pos:Pos}{it acc:ad}{env:Env}
  (h0:eF (az prog w) A (.compLoop (.SetComp elt (⟨target,iter,ifs,0⟩::rest) scope pos) 0 it acc env) R s)
  (h:aF (az prog w) A (pyIter it) (λit' s'=>eF (az prog w) A (.compLoop (.SetComp elt (⟨target,iter,ifs,0⟩::rest) scope pos) 0 it' acc env) R s')
   (notedBy (az prog w) A env λx s'=>R (.error x) s') s) :
  eF (az prog w) A (.compStart (.SetComp elt (⟨target,iter,ifs,0⟩::rest) scope pos) 0 it acc env) R s:=by
 refine codeAny_of_tree ?_;show aF _ _ ((compStart (.SetComp elt (⟨target,iter,ifs,0⟩::rest) scope pos) 0 it acc env).onRaise (λx=>do noteFrame x env;fh theWindowsPlace)) _ _ s
 refine wpAny_notedAt ?_;unfold compStart;show aF _ _ (ask>>=_) _ _ s;refine aa (da (wpAny_ite ?_))
 split
 ·first
   |exact aa (af (af (iA rfl h0)))
   |exact af (iA rfl h0)
 ·refine aa (cJ ?_);show aF _ _ (fh iter.pos>>=_) _ _ s;exact aa (e8 (aa (cr h (λit' s' h'=>af (iA rfl h')) λ_ _ x=>x)))
section
variable{X:Cx}{K:Fg}{κ:Type}{pins:List (Addr×Obj)}{σ:St}{H:Hp}{s:ah}
def bQk{P:aC}{w:aL}(kn:SKn P w K κ)(is:List (Option Nat))(wi:TI)(g:TG)(tt:TT)(tb:Addr->TB):TE:=fun σ H Q=>wi σ H λJ H1=>∀p,H1 p=none->∀φ,StV kn (upd H1 p (.ext φ)) p []->bZu J (capt is σ) g tt (tb p) (Q (.ref p)) (upd H1 p (.ext φ))
theorem comp_genS{P:aC}{w:aL}{kn:SKn P w K κ}(hw:X.w=w){elt target iter:Expr}{ifs:List Expr}{gs:List eD}{scope:Scope}{pos:Pos}{N':List Str}{is:List (Option Nat)}{wi:TI}{g:TG}{tt:TT}{tb:Addr->TB}{oc:Option Str}{m:ad->Env->Sem Unit}(hcalm:X.calm=true)(hN:X.N.Nodup)
  (hturn:∀it acc env,eP (.SetComp elt (⟨target,iter,ifs,0⟩::gs) scope pos) 0 it acc env=aZ2 target ifs iter.pos (m acc env) (.compLoop (.SetComp elt (⟨target,iter,ifs,0⟩::gs) scope pos) 0 it acc env) it env)
  (cp:Cap X.N scope N' is) (hi:PI X target iter wi)
  (hg:∀cl C fp s H,PG (aQc X N' scope cl C fp s H oc) target g) (ht:∀cl C fp s H,PTs (aQc X N' scope cl C fp s H oc) ifs tt) (hb:∀cl C fp s H D,PB (aQc X N' scope cl C fp s H oc) (m (.ref D) (iB scope cl C X.env)) (tb D))
  (hcf:∀n acc,eV n scope.names acc=ocl oc n acc) (hpc:∀h,gD h scope.names=ohp oc h)
  (hkind:scope.kind=.function) (hcell:∀y∈scope.names,y.2=.cell->oc=some y.1)
  (hu:∀y∈scope.names,scope.names.lookup y.1=some y.2) (hoc:∀x,oc=some x->scope.names.lookup x=some .cell)
  (hVb:okV scope.names X.env.scope.names=true)
  (hs:∀x,cu iter X.env x=pure x)
  {use:Option (ad->Sem Unit)}{Q:VK}{Qv:ad->ah->Prop}(I:Inv X pins σ H s) (h:bQk kn is wi g tt tb σ H Q)
  (fin:∀D C H5 s6,Inv X pins σ H5 s6->(∃m,s6.heap.Ns C m)->FrC X pins C H5->Q (.ref D) H5->compPost (az X.prog X.w) X.A X.xe use Qv (.ref D) C (.ok .next) s6) :
  aF (az X.prog X.w) X.A (comprehension (.SetComp elt (⟨target,iter,ifs,0⟩::gs) scope pos) scope X.env (firstIterPos (⟨target,iter,ifs,0⟩::gs) pos) (newSet (.type "set")) (firstAsync (⟨target,iter,ifs,0⟩::gs)) (firstIter (⟨target,iter,ifs,0⟩::gs) X.env) use) Qv X.xe s:=by
 have hV:=dQd hVb;have hV':∀x,(x,aR)∈scope.names->Vis X.env.scope x/\X.env.scope.names.lookup x≠some .local:=λx j=>hV (x,.free) j rfl;have hu':∀x,(x,aR)∈scope.names->scope.names.lookup x=some .free:=λx j=>hu (x,.free) j;have B:∀x∈scope.names,x.2=.local->scope.names.lookup x.1=some .local:=λx j hl=>by rw[hu x j,hl]
 obtain⟨cl,O,c1,c2,c3⟩:=aZw (env:=X.env) (scope:=scope) λx j=>I.ok.has x (by
  obtain⟨v,n⟩:=hV' x j;rcases v with v|v|v
  ·exact absurd v n
  ·exact .inl v
  ·exact .inr v)
 have hun:∀x,oc=some x->cl.lookup x=none:=λx j=>by
  cases e:cl.lookup x with
  |none=>rfl
  |some c =>
   have:=hu' x (c3 x c e)
   rw[hoc x j] at this;cases this
 refine wpAny_comprehension_free (use:=use) rfl hs O hkind B (thn (hi pins s σ H _ I h) λv s1 h1=>thn h1 λitv s2 h2=>?_);obtain⟨it,fp,tn,J,H2,rfl,I2,T,st2,f2,q2⟩:=h2;unfold newSet iT;refine aa (aa (da (af ?_)));dsimp only;refine bd ?_;have hD:H2 s2.heap.objs.size=none:=I2.hok.fresh (Nat.le_refl _);have fpl:∀b∈fp,b<s2.heap.objs.size:=λb hb=>by obtain⟨o,e,_⟩:=T.obj _ _ st2 b hb;exact aD e
 have led:(!(X.w.params.followText "set-order"))=ST.ledOf X.w:=rfl;have U:Inv X pins σ (upd H2 s2.heap.objs.size (stO s2.heap.objs.size #[] 0 (.fresh 0 0 (ST.ledOf X.w)))) {s2 with heap:=s2.heap.push (ST.setOb #[] 0 (.fresh 0 0 (ST.ledOf X.w)))} :=
  I2.laid (t':=s2.toks) (λb u e=>ae _ e) (Nat.le_refl _) ⟨ax _ rfl,⟨_,ax _ rfl⟩,λg1 g2 g k=>k _ g⟩
 have st3:tn 0 (s2.heap.push (ST.setOb #[] 0 (.fresh 0 0 (ST.ledOf X.w)))):=T.keep _ _ _ st2 λb hb o e=>ae _ e;have Y:∀b∈fp,FpOk X pins (upd H2 s2.heap.objs.size (stO s2.heap.objs.size #[] 0 (.fresh 0 0 (ST.ledOf X.w)))) b:=λb hb=>⟨by rw[upd_ne (Nat.ne_of_lt (fpl b hb))];exact(f2 b hb).1,(f2 b hb).2⟩
 have L:∀b∈fp,b<(s2.heap.push (ST.setOb #[] 0 (.fresh 0 0 (ST.ledOf X.w)))).objs.size:=λb hb=>by rw[d5];exact Nat.lt_succ_of_lt (fpl b hb)
 have q3:=q2 _ hD _ (⟨#[],0,_,[],aQ7,by rw[<- hw];rfl,kn.fr _,.nil,fR,λ_=>Iff.rfl⟩:StV kn (upd H2 s2.heap.objs.size (stO s2.heap.objs.size #[] 0 (.fresh 0 0 (ST.ledOf X.w)))) _ [])
 show aF (az X.prog X.w) X.A _ _ X.xe {s2 with heap:=s2.heap.push (ST.setOb #[] 0 (.fresh 0 0 (ST.ledOf X.w)))}
 change bZu _ _ _ _ _ _ (upd H2 s2.heap.objs.size (stO s2.heap.objs.size #[] 0 (.fresh 0 0 (ST.ledOf X.w)))) at q3;generalize hob:ST.setOb #[] 0 (.fresh 0 0 (ST.ledOf X.w))=ob at *
 generalize hso:stO s2.heap.objs.size #[] 0 (.fresh 0 0 (ST.ledOf X.w))=so at *
 generalize hDe:s2.heap.objs.size=D at *
 generalize hs3:({s2 with heap:=s2.heap.push ob}:ah)=s3 at *
 have hsh:s3.heap=s2.heap.push ob:=by rw[<- hs3]
 rw[<- hsh] at st3 L;have ok:=aJu (N':=N') (cl:=cl) (oc:=oc) U Y L hkind c1 c2 hcell hun;have I4:=aJc U ok hN c1 c2 hu' cp hV' hun;refine cQn ?_;rw[hcf,hpc];have kp:∀b o,s3.heap.get? b=some o->(ohp oc (s3.heap.push {cls:=.type "dict",data:=.dict #[]})).get? b=some o:=λb o e=>aJ0 (ae _ e);have st4:tn 0 (ohp oc (s3.heap.push {cls:=.type "dict",data:=.dict #[]})):=T.keep _ _ _ st3 λb _ o e=>kp b o e;have f4:∀b∈fp,FpOk (aQc X N' scope (ocl oc (s3.heap.objs.size+1) cl) s3.heap.objs.size fp s3 (upd H2 D so) oc) [] (upd H2 D so) b:=λb hb =>
  ⟨(Y b hb).1,(ok.exf b hb).1,ok.exfs b hb,.inl hb,(ok.exf b hb).2,λp hp=>absurd (show p∈([]:List (Addr×Obj)) from hp) (by simp)⟩
 have loop:=bQ8 (X:=aQc X N' scope (ocl oc (s3.heap.objs.size+1) cl) s3.heap.objs.size fp s3 (upd H2 D so) oc) (e:=.SetComp elt (⟨target,iter,ifs,0⟩::gs) scope pos) (d:=0) (acc:=.ref D)
  (R:=compPost (az X.prog X.w) X.A X.xe use Qv (.ref D) s3.heap.objs.size) hcalm rfl (hturn _ _ _) rfl rfl T (hg _ _ _ _ _) (ht _ _ _ _ _) (hb _ _ _ _ _ D) I4 st4 f4 q3 (by
   intro H5 s6 Z _ qn;obtain⟨m6,n6,_⟩:=id Z.loc;have un:Un (frs X.stack) fp (upd H2 D so) H5 s3.heap s6.heap:=Z.base;have hok':HOk X.prog X.w H5 s6.heap:=Z.hok;refine fin D s3.heap.objs.size H5 s6 (U.call' (s':=s6) (ch:=fp) Z.os un hok' Z.bare λb hb=>⟨(Y b hb).2.2.2.1,(Y b hb).2.1,(Y b hb).2.2.2.2.1,(Y b hb).2.2.2.2.2⟩) ⟨m6,n6⟩ ⟨Z.free,Nat.ne_of_gt U.lt,U.sz,λx c e z=>?_,λp hp z=>?_⟩ qn
   ·obtain⟨v,q⟩:=U.cell x c e;exact absurd q.lt (by rw[z];exact Nat.lt_irrefl _)
   ·exact absurd (aD (U.pin p hp).1) (by rw[z];exact Nat.lt_irrefl _))
 exact bQj loop (T.self _ 0 _ _ _ st4 loop)
theorem cX6{P:aC}{w:aL}{kn:SKn P w K κ}{elt target iter:Expr}{ifs:List Expr}{gs:List eD}{scope:Scope}{pos:Pos}{N':List Str}{is:List (Option Nat)}{wi:TI}{g:TG}{tt:TT}{tb:Addr->TB}{oc:Option Str}{m:ad->Env->Sem Unit}(hw:X.w=w)(hcalm:X.calm=true)(hN:X.N.Nodup)
  (hturn:∀it acc env,eP (.SetComp elt (⟨target,iter,ifs,0⟩::gs) scope pos) 0 it acc env=aZ2 target ifs iter.pos (m acc env) (.compLoop (.SetComp elt (⟨target,iter,ifs,0⟩::gs) scope pos) 0 it acc env) it env)
  (cp:Cap X.N scope N' is) (hi:PI X target iter wi)
  (hg:∀cl C fp s H,PG (aQc X N' scope cl C fp s H oc) target g) (ht:∀cl C fp s H,PTs (aQc X N' scope cl C fp s H oc) ifs tt) (hb:∀cl C fp s H D,PB (aQc X N' scope cl C fp s H oc) (m (.ref D) (iB scope cl C X.env)) (tb D))
  (hcf:∀n acc,eV n scope.names acc=ocl oc n acc:=by intro _ _;rfl) (hpc:∀h,gD h scope.names=ohp oc h:=by intro _;rfl)
  (hkind:scope.kind=.function:=by rfl) (hcell:∀y∈scope.names,y.2=.cell->oc=some y.1:=by decide +kernel)
  (hu:∀y∈scope.names,scope.names.lookup y.1=some y.2:=by decide +kernel) (hoc:∀x,oc=some x->scope.names.lookup x=some .cell:=by intro x h;cases h <;> rfl)
  (hVb:okV scope.names X.env.scope.names=true:=by first|rfl|kernel_rfl)
  (hs:∀x,cu iter X.env x=pure x:=by intro _;rfl) :
  PE X (.SetComp elt (⟨target,iter,ifs,0⟩::gs) scope pos) (bQk kn is wi g tt tb):=by
 intro pins s σ H Q I h;rw[arm_eval_SetComp];refine comp_genS hw hcalm hN hturn cp hi hg ht hb hcf hpc hkind hcell hu hoc hVb hs I h λD C L O J ⟨m,n⟩ B z=>?_;exact⟨m,n,λh' j=>⟨.ref D,L,B.gone J j,rfl,z⟩⟩
end
section
variable{X:Cx}{K:Fg}{pos:Pos}{k:Nat}{κ:Type}
theorem dXs{F:Am}{S S':Sto}{H H':Hp}(r:Rp K F S H)(x:Ext S H S' H'):TKp H H':=λa xs h=>by
 have j:S a=none:=bi λn=>r.ntup h (.inl n);rcases h with h|⟨o,h⟩
 ·exact .inl (x.keep _ _ j h)
 ·exact .inr ⟨o,x.keep _ _ j h⟩
def aX3{P:aC}{w:aL}(kn:SKn P w K κ)(enc:κ->D)(L:List Nat)(tv:Addr->TB)(td:BD):Prop:=∀D' F S H Γ σ acc N QD,Free L σ->F D'->Rp K F S H->RepG K (mt S F) H Γ σ->StV kn H D' acc->td Γ S (acc.map enc) QD ->
 (∀acc' S' H',ExtX D' S H S' H'->Rp K F S' H'->StV kn H' D' acc'->QD (acc'.map enc) S'->N H')->tv D' σ H N
def eXh(enc:κ->D)(te:ED):BD:=fun Γ S acc Q=>te Γ S λy S1=>∃k,y=enc k/\acc.length+1<=300/\Q (acc++[y]) S1
theorem extx_upd{D':Addr}{S:Sto}{H:Hp}{o:HO}:ExtX D' S H S (upd H D' o):=⟨λa o n _ e=>by rw[upd_ne n];exact e,λa h=>by
  by_cases e:a=D'
  ·subst e;rw[aQ7];exact λz=>by cases z
  ·rw[upd_ne e];exact h,λa h=>.inl h⟩
theorem dXt{D':Addr}{F:Am}{S:Sto}{H:Hp}{o:HO}(r:Rp K F S H)(hF:F D')(ho:Clt o):Rp K F S (upd H D' o) :=
 ⟨λa u e=>(r.obj a u e).keep (extx_upd.kp hF) (upd_ne (by rintro rfl;rw[(r.frm a hF).2] at e;cases e)),λa h=>by
   obtain⟨⟨ys,e,ct⟩,h2⟩:=r.frm a h
   by_cases z:a=D'
   ·subst z;exact⟨⟨_,aQ7,ho⟩,h2⟩
   ·exact⟨⟨ys,by rw[upd_ne z];exact e,ct⟩,h2⟩⟩
theorem cJw{P:aC}{w:aL}{kn:SKn P w K κ}{enc:κ->D}(hrep:∀M H k v,RepV K M H (enc k) v->kn.rp H v k){L:List Nat}{te:ED}:aX3 kn enc L (λD'=>cX5 kn D' (upE K te)) (eXh enc te):=by
 intro D' F S H Γ σ acc N QD _ J r g st q c;refine⟨F,S,Γ,_,r,g,q,λv d H1 S1 j O v1 ⟨k,e,Y,U⟩=>?_⟩;have Z:S D'=none:=(r.frm D' J).2;obtain⟨φ0,h0⟩:=st.at
 have e1:H1 D'=H D':=by rw[h0];exact j.keep _ _ Z h0
 have B:StV kn H1 D' acc:=st.keep e1 (dXs r j);subst e;refine⟨acc,k,B,hrep _ _ _ _ v1,by simpa using Y,fun φ z=>c (acc++[k]) S1 _ (j.x.trans extx_upd) (dXt O J trivial) z (by rw[bq];exact U)⟩
theorem bXx{P:aC}{w:aL}{kn:SKn P w K κ}{enc:κ->D}{L L':List Nat}{g:TG}{gd:GD}{tt:TD}{tv:Addr->TB}{tb:BD}(hg:CG K L L' g gd)(hb:aX3 kn enc L' tv tb){D':Addr}{F:Am}{S:Sto}{H:Hp}{Γ:Gm}{σ:St}{acc:List κ}{N:Hp->Prop}{QD:List D->Sto->Prop}{J:It}{xs:List D}{G:Sto->Prop}
  (f:Free L σ) (hF:F D') (r:Rp K F S H) (gm:RepG K (mt S F) H Γ σ) (st:StV kn H D' acc) (it:∀S2 H2,ExtX D' S H S2 H2->Rp K F S2 H2->G S2->(∀i d,xs[i]?=some d->J.go i H2/\∀x H3,J.yld i H2 x H3->Ext S2 H2 S2 H3/\Rp K F S2 H3/\RepV K (mt S2 F) H3 d x)/\J.stop xs.length H2)
  (q:aZ1 gd tt tb G Γ xs (acc.map enc) S QD) (c:∀acc' S' H',ExtX D' S H S' H'->Rp K F S' H'->StV kn H' D' acc'->QD (acc'.map enc) S'->N H'):bZu J σ g (upT K tt) (tv D') N H:=by
 refine⟨λi m H'=>m=xs.length-i/\i<=xs.length/\∃S' acc',ExtX D' S H S' H'/\Rp K F S' H'/\StV kn H' D' acc'/\aZ1 gd tt tb G Γ (xs.drop i) (acc'.map enc) S' QD,⟨xs.length,by simp,Nat.zero_le _,S,acc,(Ext.refl _ _).x,r,st,by simpa using q⟩,?_⟩
 rintro i m H' ⟨rfl,hi,S',acc',x2,r2,U,f2⟩;have g2:=gm.keep (x2.kp hF)
 by_cases Y:i<xs.length
 ·rw[aZn Y] at f2;obtain⟨hG,f2⟩:=f2;obtain⟨hgo,hy⟩:=(it S' H' x2 r2 hG).1 i xs[i] (ag Y);refine .inr ⟨hgo,λB=>∃Z j,ExtX D' S H Z B/\Rp K F Z B/\StV kn B D' j/\aZ1 gd tt tb G Γ (xs.drop (i+1)) (j.map enc) Z QD,λB z=>⟨xs.length-(i+1),by omega,rfl,Y,z⟩,λx H3 y3=>?_⟩
  obtain⟨x3,r3,v3⟩:=hy x H3 y3;refine hg F S' H3 Γ σ xs[i] x _ _ f r3 (g2.ext x3) v3 f2 fun Γ4 S4 σ4 H4 x4 r4 g4 wk fr4 q4=>⟨wk,F,S4,Γ4,_,r4,g4,q4,λz H5 S5 x5 r5 q5=>?_⟩;have O:=x3.trans (x4.trans x5);obtain⟨φ0,h0⟩:=U.at
  have h5:H5 D'=H' D':=by rw[h0];exact O.keep _ _ (r2.frm D' hF).2 h0
  have st5:StV kn H5 D' acc':=U.keep h5 (dXs r2 O);have x05:ExtX D' S H S5 H5:=x2.trans O.x;cases z with
  |false=>exact⟨S5,acc',x05,r5,st5,q5⟩
  |true=>exact hb D' F S5 H5 Γ4 σ4 acc' _ _ fr4 hF r5 (g4.ext x5) st5 q5 λacc6 S6 H6 x6 r6 st6 q6=>⟨S6,acc6,x05.trans x6,r6,st6,q6⟩
 ·have e:i=xs.length:=by omega
  subst e;rw[dE] at f2;exact .inl ⟨(it S' H' x2 r2 f2.1).2,c acc' S' H' x2 r2 U f2.2⟩
theorem cX7{P:aC}{w:aL}{kn:SKn P w K κ}{enc:κ->D}{L L':List Nat}{wi:ID}{g:TG}{gd:GD}{tt:TD}{tv:Addr->TB}{tb:BD}(hg:CG K L L' g gd)(hb:aX3 kn enc L' tv tb):aX3 kn enc L (λD'=>dQf (upI K wi) g (upT K tt) (tv D')) (eZs wi gd tt tb):=by
 intro D' F S H Γ σ acc N QD fr O r Z st q c;refine⟨F,S,Γ,_,r,Z,q,λJ xs G H1 S1 B r1 it q1=>?_⟩;obtain⟨φ0,h0⟩:=st.at
 have h1:H1 D'=H D':=by rw[h0];exact B.keep _ _ (r.frm D' O).2 h0
 exact bXx hg hb fr O r1 (Z.ext B) (st.keep h1 (dXs r B)) (λS2 H2 z U Y=>⟨it.go F (FE.refl _ _) S2 H2 (z.w O) U Y,it.stop F (FE.refl _ _) S2 H2 (z.w O) U Y⟩) q1 λj S' H' z=>c j S' H' (B.x.trans z)
theorem cJx{P:aC}{w:aL}{kn:SKn P w K κ}{enc:κ->D}{L L':List Nat}{is:List (Option Nat)}{wi:ID}{g:TG}{gd:GD}{tt:TD}{tv:Addr->TB}{tb:BD}(hL:∀σ,Free L (capt is σ))(hg:CG K L L' g gd)(hb:aX3 kn enc L' tv tb)
  {σ:St}{H:Hp}{Q:VK}{F:Am}{S:Sto}{Γ:Gm}{QD:List D->Sto->Prop}(r:Rp K F S H) (gm:RepG K (mt S F) H Γ σ) (q:wi Γ S λxs G S1=>aZ1 gd tt tb G (cZg is Γ) xs [] S1 QD)
  (c:∀p ks H' S',Ext S H S' H'->Rp K F S' H'->StV kn H' p ks->QD (ks.map enc) S'->Q (.ref p) H'):bQk kn is (upI K wi) g (upT K tt) tv σ H Q :=
 ⟨F,S,Γ,_,r,gm,q,λJ xs G H1 S1 x1 Y it q1 D' j φ st=>by
  have N:S1 D'=none:=Y.sn j;have fe:FE F H1 (λa=>F a\/a=D'):=λa h=>h.elim .inl λe=>.inr (by rw[e];exact j)
  have nF:¬ F D':=λh=>by
   obtain⟨⟨ys,e,_⟩,_⟩:=Y.frm D' h;rw[j] at e;cases e
  have xe:Ext S1 H1 S1 (upd H1 D' (.ext φ)):=Ext.same (aZs j);have kp:Keep (mt S1 F) H1 (mt S1 λa=>F a\/a=D') (upd H1 D' (.ext φ)):=xe.w.kpF fe;have U:Rp K (λa=>F a\/a=D') S1 (upd H1 D' (.ext φ)):=⟨λa o e=>(Y.obj a o e).keep kp (upd_ne (by rintro rfl;rw[N] at e;cases e)),λa h=>by
   rcases h with h|h
   ·obtain⟨⟨ys,e,ct⟩,h2⟩:=Y.frm a h;exact⟨⟨ys,by rw[upd_ne (by rintro rfl;rw[j] at e;cases e)];exact e,ct⟩,h2⟩
   ·subst h;exact⟨⟨_,aQ7,trivial⟩,N⟩⟩
  have old:∀ {B H2},ExtX D' S1 (upd H1 D' (.ext φ)) B H2->Ext S1 H1 B H2:=λ{B H2} y=>⟨λa o h e=>y.keep a o (by rintro rfl;rw[j] at e;cases e) h (by rw[upd_ne (by rintro rfl;rw[j] at e;cases e)];exact e),λa h=>y.live a (xe.live a h),λa h=>by
   rcases y.new a h with z|z
   ·exact .inl z
   ·by_cases e:a=D'
    ·subst e;exact .inr j
    ·rw[upd_ne e] at z;exact .inr z⟩
  refine bXx hg hb (hL σ) (F:=λa=>F a\/a=D') (.inr rfl) U ((gm.ext x1).keep kp |>.capt is) st (λB H2 y U hG=>⟨it.go _ fe B H2 (old y).w U hG,it.stop _ fe B H2 (old y).w U hG⟩) q1 λO S' H' y r3 Z q3=>?_
  have less:Keep (mt S' λa=>F a\/a=D') H' (mt S' F) H':=⟨λ_ _ _ e=>e,λa h _=>λz=>h (z.elim .inl λw=>.inr (.inl w))⟩;have r4:Rp K F S' H':=⟨λa o e=>(r3.obj a o e).keep less rfl,λa h=>r3.frm a (.inl h)⟩;exact c D' O H' S' (x1.trans (old y)) r4 Z q3⟩
def srtC(enc:κ->D)(lt:κ->κ->Bool)(b:Bool)(is:List (Option Nat))(wi:ID)(g:GD)(tt:TD)(tb:BD):ED:=fun Γ S Q=>wi Γ S λxs G S1=>aZ1 g tt tb G (cZg is Γ) xs [] S1 λacc S2=>∃ks:List κ,acc=ks.map enc/\∀out:List κ,out.Nodup->(∀t,t∈out↔t∈ks)->out.length<300/\(out.Pairwise (λa b=>lt a b=true)->newL b (out.map enc) S2 Q)
theorem dXu(M:Am)(H:Hp)(k:Str)(v:V)(h:RepV K M H (.str k) v):v=.str k:=by unfold RepV at h;exact h
theorem bQl{α β:Type}{f:α->β}(hf:∀x y,f x=f y->x=y):∀{l m:List α},l.map f=m.map f->l=m
 |[],[],_=>rfl
 |[],_::_,h=>by cases h
 |_::_,[],h=>by cases h
 |x::l,y::m,h=>by
  rw[aX,aX] at h;injection h with h1 h2
  rw[hf _ _ h1,bQl hf h2]
theorem cJy(x y:List Str)(h:tupS x=tupS y):x=y:=by
 unfold tupS at h;injection h with h
 exact bQl (λa b e=>by injection e) h
section
variable{elt target iter:Expr}{ifs:List Expr}{gs:List eD}{scope:Scope}{N':List Str}{is:List (Option Nat)}{wi:ID}{g:TG}{gd:GD}{tt:TD}{tv:Addr->TB}{tb:BD}{oc:Option Str}{m:ad->Env->Sem Unit}{b:Bool}{p pos':Pos}
theorem dXv(L L':List Nat)(hr:Room k X.A)(hgl:Gl X "sorted")(hm:X.mg "sorted"=none)(hcalm:X.calm=true)(hN:X.N.Nodup)
  (hturn:∀it acc env,eP (.SetComp elt (⟨target,iter,ifs,0⟩::gs) scope pos') 0 it acc env=aZ2 target ifs iter.pos (m acc env) (.compLoop (.SetComp elt (⟨target,iter,ifs,0⟩::gs) scope pos') 0 it acc env) it env)
  (cp:Cap X.N scope N' is) (hL:∀σ,Free L (capt is σ)) (hi:PID K X target iter wi) (hgd:CG K L L' g gd)
  (hg:∀cl C fp s H,PG (aQc X N' scope cl C fp s H oc) target g) (ht:∀cl C fp s H,PTs (aQc X N' scope cl C fp s H oc) ifs (upT K tt)) (hbd:aX3 (bJo X.prog X.w K) D.str L' tv tb) (hb:∀cl C fp s H D,PB (aQc X N' scope cl C fp s H oc) (m (.ref D) (iB scope cl C X.env)) (tv D))
  (hcf:∀n acc,eV n scope.names acc=ocl oc n acc:=by intro _ _;rfl) (hpc:∀h,gD h scope.names=ohp oc h:=by intro _;rfl)
  (hkind:scope.kind=.function:=by rfl) (hcell:∀y∈scope.names,y.2=.cell->oc=some y.1:=by decide +kernel)
  (hu:∀y∈scope.names,scope.names.lookup y.1=some y.2:=by decide +kernel) (hoc:∀x,oc=some x->scope.names.lookup x=some .cell:=by intro x h;cases h <;> rfl)
  (hVb:okV scope.names X.env.scope.names=true:=by first|rfl|kernel_rfl)
  (hs:∀x,cu iter X.env x=pure x:=by intro _;rfl)
  (h1:av [Expr.SetComp elt (⟨target,iter,ifs,0⟩::gs) scope pos'] X.env=(false,eval (Expr.SetComp elt (⟨target,iter,ifs,0⟩::gs) scope pos') X.env)::av [] X.env:=by rfl) (h3:(bZ pos (av [] X.env)).any (·.1)=false:=by rfl) :
  PD K X (.Call (.Name "sorted" p) [.SetComp elt (⟨target,iter,ifs,0⟩::gs) scope pos'] [] pos) (srtC D.str HT.ltS b is wi gd tt tb) :=
 .of (bXi (bQi rfl hcalm) hgl hm aJa (cQ8 (cX6 (kn:=bJo X.prog X.w K) rfl hcalm hN hturn cp hi.o hg ht hb hcf hpc hkind hcell hu hoc hVb hs) dQa h1) (by decide) (by decide) h1 h3) fun σ H Q z0=>z0.el λF S Γ QD r gm q c =>
  show bQk (bJo X.prog X.w K) is (upI K wi) g (upT K tt) tv σ H (λv H1=>cX4 X.w [v] H1 Q) from cJx hL hgd hbd r gm q λp' ks H' S' x1 r1 st Z=>by
   obtain⟨ks',hk,B⟩:=Z;have J:ks=ks':=bQl (λa b e=>by injection e) hk
   subst J;obtain⟨es,ep,t,ps,s1,s2,s3,s4,s5,j⟩:=st;obtain⟨Y,q3⟩:=B (ps.map (·.2)) s5 j;have sa:iU (es.toList.map (·.2)) (ps.map (·.2)):=by
    clear Y q3 s5 j s3 B s1;generalize es.toList.map (·.2)=l at s4
    induction s4 with
    |nil=>exact .nil
    |@cons v q l2 ps h1 h2 ih =>
     obtain⟨h1,U⟩:=h1;rw[U] at h1;obtain⟨tk,e⟩:=h1;subst e;exact .cons _ _ ih
   refine⟨_,ps.map (·.2),rfl,⟨p',es,ep,t,rfl,s1,s3.1,s2,λz=>by rw[s3.2.2 z];exact Nat.zero_le _,sa⟩,s5,Y,λl out O pm pw=>?_⟩
   exact Cn.new (Cn.shift c x1) r1 O (eXf out) ((B out (pm.nodup_iff.mpr s5) λt=>(pm.mem_iff).trans (j t)).2 pw)
end
end
end L2
set_option maxHeartbeats 4000000
namespace HT
open PySem PyProof.Rows
def LtAt(A:aO)(s:ah)(u v:ad)(b:Bool):Prop:=∀(prog:aC) (w:aL) (E:ad->ah->Prop) (Q:ad->ah->Prop),Q (.bool b) s->aF (az prog w) A (richCompare .Lt u v) Q E s
inductive LexAt(A:aO)(s:ah):List ad->List ad->Bool->Prop
 |nn:LexAt A s [] [] false
 |nc {v vs}:LexAt A s [] (v::vs) true
 |cn {u us}:LexAt A s (u::us) [] false
 |eq {u v us vs b}:cq A s u v true->LexAt A s us vs b->LexAt A s (u::us) (v::vs) b
 |ne {u v us vs b}:cq A s u v false->LtAt A s u v b->LexAt A s (u::us) (v::vs) b
section
open PySem.SeqAt
open PySem.AutoSeq1 (wpAny_loadPart')
open PySem.MeetsSeq PySem.MeetsSeq2 PySem.MeetsSeq3
theorem bXy{A:aO}{s:ah}:∀{us vs:List ad}{o:Bool},LexAt A s us vs o->us.zip vs=[]->o=decide (us.length<vs.length)
 |_,_,_,.nn,_=>by simp
 |_,_,_,.nc,_=>by simp
 |_,_,_,.cn,_=>by simp
 |_,_,_,.eq _ _,h=>by rw[cb] at h;cases h
 |_,_,_,.ne _ _,h=>by rw[cb] at h;cases h
theorem tuple_lt_gen(l b:Addr)(items items2:Array ad)(n n2:Nat)(dd dd2:Option Addr)(sl sl2:Array (Option ad))(o:Bool) :
  Meets (cK.«tuple.__lt__» ⟨[.ref l,.ref b],[]⟩)
   (λA R s=>s.heap.get? l=some { cls:=.type "tuple",dict:=dd,data:=.seq items n,slots:=sl }/\s.heap.get? b=some { cls:=.type "tuple",dict:=dd2,data:=.seq items2 n2,slots:=sl2 } /\
    LexAt A.in1 s items.toList items2.toList o/\R (.ok (.ret (.bool o))) s) :=
 .of_wp λprog w A R s h=>by
  obtain⟨Y,g,d,U,os⟩:=s;obtain⟨hl,hb,hx,h⟩:=h;have f2:=io;have z1:items.size=items.toList.length:=by simp
  have z2:items2.size=items2.toList.length:=by simp
  wp_walk using bC hl,bC hb,wpAny_forIn_list _ (λrest b s'=>b.1=none/\s'=⟨Y,g,d,U,os⟩/\∃ (J ws:List ad),rest=J.zip ws /\
   LexAt A.in1 ⟨Y,g,d,U,os⟩ J ws o/\J.length+items2.size=ws.length+items.size) _
  case turn =>
   rintro⟨y,x⟩ rest b s' ⟨D,rfl,J,ws,hz,hx,hlen⟩;cases hx with
   |nn=>rw[eH] at hz;cases hz
   |nc=>rw[eH] at hz;cases hz
   |cn=>rw[eg] at hz;cases hz
   |eq he hx =>
    rw[cb] at hz;injection hz with z j
    injection z with L B
    subst L B;simp only[b7] at hlen;refine aa (he prog w _ _ ?_)
    wp_walk
    exact⟨rfl,rfl,_,_,j,hx,by lia⟩
   |ne he O =>
    rw[cb] at hz;injection hz with z j
    injection z with L B
    subst L B;refine aa (he prog w _ _ ?_);have N:=λQ E h=>O prog w E Q h
    wp_walk using N
    exact⟨_,rfl,by simpa using h⟩
  case fin =>
   rintro⟨b1,b2⟩ s' ⟨D,rfl,J,ws,hz,hx,hlen⟩;simp only at D;subst D;have Z:o=decide (items.size<items2.size):=by
    rw[bXy hx hz.symm]
    congr 1
    apply propext;lia
   rw[Z] at h
   wp_walk
   exact⟨_,rfl,by simpa [fU] using h⟩
  case h =>
   exact⟨rfl,rfl,items.toList,items2.toList,rfl,hx,by lia⟩
theorem bX6(l b:Addr)(us vs:Array ad)(n n2:Nat)(dd dd2:Option Addr)(sl sl2:Array (Option ad))(o:Bool)(k:Nat):∀i:Nat,us.size-i=k->i<=us.size->i<=vs.size ->
  Meets (cK.«list.__eq__.loop» ⟨[.ref l,.ref b,d4 i,d4 0],[]⟩) (λA R s=>(s.heap.get? l=some { cls:=.type "list",dict:=dd,data:=.seq us n,slots:=sl }/\s.heap.get? b=some { cls:=.type "list",dict:=dd2,data:=.seq vs n2,slots:=sl2 }) /\
   LexAt A.in1 s (us.toList.drop i) (vs.toList.drop i) o/\R (.ok (.ret (.bool o))) s):=by
 have dn:∀(xs:Array ad) (i:Nat),xs.size<=i->xs.toList.drop i=[]:=λxs i h=>bF (by simpa using h)
 have L:∀(xs:Array ad) (i:Nat) (h:i<xs.size),xs.toList.drop i=xs[i]::xs.toList.drop (i+1):=λxs i h=>by rw[bN (by simpa using h)];simp
 have an:∀(xs:Array ad) (i:Nat),xs.size<=i->xs[((i:Nat):Int).toNat]?=none:=λxs i h=>by simp;exact h
 have ac:∀(xs:Array ad) (i:Nat) (h:i<xs.size),xs[((i:Nat):Int).toNat]?=some xs[i]:=λxs i h=>by simp[h]
 have tail:∀{A:aO}{s:ah}{o:Bool}{i:Nat},i<=us.size->i<=vs.size->us.size<=i\/vs.size<=i->LexAt A s (us.toList.drop i) (vs.toList.drop i) o->o=decide (us.size<vs.size):=λ{A s o i} h1 h2 h hx=>by
  have U:(us.toList.drop i).zip (vs.toList.drop i)=[]:=by rcases h with h|h <;> rw[dn _ _ h] <;> simp
  rw[bXy hx U]
  congr 1
  apply propext;simp;omega
 induction k with
 |zero =>
  intro i Z hi j prog w A R s h;obtain⟨Y,g,d,N,os⟩:=s;obtain⟨⟨gl,z⟩,hx,h⟩:=h
  wp_walk using bC gl,bC z
  rw[an us i (by omega)]
  wp_walk using bC gl,bC z
  rw[tail hi j (.inl (by omega)) hx] at h
  exact h
 |succ k O =>
  intro i Z hi j prog w A R s h;obtain⟨Y,g,d,N,os⟩:=s;obtain⟨⟨gl,z⟩,hx,h⟩:=h
  wp_walk using bC gl,bC z
  rw[ac us i (by omega)]
  rcases Nat.lt_or_ge i vs.size with B|B
  ·rw[ac vs i B];have hc:((i:Int)+1)=((i+1:Nat):Int):=by push_cast;rfl
   rw[L us i (by omega),L vs i B] at hx
   cases hx with
   |eq he hx =>
    refine aa (he prog w _ _ ?_)
    wp_walk
    rw[hc];exact⟨cV plain_eq_loop _,cH entry_eq_loop (by
     rw[bH plain_eq_loop _];exact O (i+1) (by omega) (by omega) (by omega) prog w A R _ ⟨⟨gl,z⟩,hx,h⟩)⟩
   |ne he J =>
    refine aa (he prog w _ _ ?_)
    wp_walk using bC gl,bC z
    rw[ac us i (by omega),ac vs i B]
    have D:=λQ E h=>J prog w E Q h
    wp_walk using D
    exact h
  ·rw[an vs i B]
   wp_walk using bC gl,bC z
   rw[tail hi j (.inr B) hx] at h;exact h
theorem eXi(l b:Addr)(us vs:Array ad)(n n2:Nat)(dd dd2:Option Addr)(sl sl2:Array (Option ad))(o:Bool) :
  Meets (cK.«list.__lt__» ⟨[.ref l,.ref b],[]⟩) (λA R s=>(s.heap.get? l=some { cls:=.type "list",dict:=dd,data:=.seq us n,slots:=sl }/\s.heap.get? b=some { cls:=.type "list",dict:=dd2,data:=.seq vs n2,slots:=sl2 }) /\
   LexAt A.in1 s us.toList vs.toList o/\R (.ok (.ret (.bool o))) s):=by
 intro prog w A R s h;obtain⟨J,g,d,D,os⟩:=s;obtain⟨⟨gl,j⟩,B,h⟩:=h;have z:=AutoSeq1.sub_list_list
 wp_walk using bC gl,bC j
 exact⟨cV plain_eq_loop _,cH entry_eq_loop (by
  rw[bH plain_eq_loop _];exact bX6 l b us vs n n2 dd dd2 sl sl2 o _ 0 rfl (Nat.zero_le _) (Nat.zero_le _) prog w A R _ ⟨⟨gl,j⟩,B,h⟩)⟩
end
theorem ltAt_lst{A:aO}{s:ah}{l b:Addr}{us vs:Array ad}{o:Bool}(hl:s.heap.IsList l us)(hb:s.heap.IsList b vs)(hx:LexAt A.in1 s us.toList vs.toList o)(hu:A.units<bU):LtAt A s (.ref l) (.ref b) o:=by
 intro prog w E Q h;obtain⟨⟨cls,dd,data,sl⟩,J,L,n,hd⟩:=id hl;obtain⟨⟨N,D,data2,B⟩,j,z,O,hd2⟩:=id hb;simp only at L hd z hd2;subst L hd z hd2;exact fL (op:=.Lt) ⟨_,J,rfl⟩ ⟨_,j,rfl⟩ PySem.F.slot_list_lt PySem.F.entry_list_lt (PySem.F.args_list_lt_2 _ _) (eXi l b us vs n O dd D sl B o) ⟨⟨J,j⟩,hx,show gG o≠gb/\Q (.bool o) s from⟨(λx=>nomatch x),h⟩⟩ hu
theorem ltAt_tup{A:aO}{s:ah}{l b:Addr}{items items2:Array ad}{o:Bool}(hl:gH s.heap l items)(hb:gH s.heap b items2)(hx:LexAt A.in1 s items.toList items2.toList o)(hu:A.units<bU):LtAt A s (.ref l) (.ref b) o:=by
 intro prog w E Q h;obtain⟨⟨cls,dd,data,sl⟩,J,L,n,hd⟩:=id hl;obtain⟨⟨N,D,data2,B⟩,j,z,O,hd2⟩:=id hb;simp only at L hd z hd2;subst L hd z hd2;exact fL (op:=.Lt) ⟨_,J,rfl⟩ ⟨_,j,rfl⟩ c8 eh (d6 _ _) (tuple_lt_gen l b items items2 n O dd D sl B o)
  ⟨J,j,hx,show gG o≠gb/\Q (.bool o) s from⟨(λx=>nomatch x),h⟩⟩ hu
end HT
namespace L2
open PySem PySem.Spec PyProof.Rows
def lexN(lt:D->D->Bool):List D->List D->Bool
 |[],[]=>false
 |[],_::_=>true
 |_::_,[]=>false
 |x::xs,y::ys=>if x=y then lexN lt xs ys else lt x y
def ltN:Nat->D->D->Bool
 |_,.int i,.int j=>decide (i<j)
 |_,.str x,.str y=>HT.ltS x y
 |n+1,.tup xs,.tup ys=>lexN (ltN n) xs ys
 |n+1,.lst xs,.lst ys=>lexN (ltN n) xs ys
 |_,_,_=>false
def okLs(ok:D->D->Bool)(n:Nat):List D->List D->Bool
 |x::xs,y::ys=>okE n x y&&(if x=y then okLs ok n xs ys else ok x y)
 |_,_=>true
def okL:Nat->D->D->Bool
 |_,.int _,.int _=>true
 |_,.str _,.str _=>true
 |n+1,.tup xs,.tup ys=>okLs (okL n) n xs ys
 |n+1,.lst xs,.lst ys=>okLs (okL n) n xs ys
 |_,_,_=>false
section
variable{X:Cx}{pins:List (Addr×Obj)}{σ:St}{H:Hp}{s:ah}{M:Am}
theorem bXz{n:Nat}{A:aO}(heq:∀{d e:D}{x y:V}{u v:ad},RepV X.K M H d x->RepV X.K M H e y->RelV x u->RelV y v->okE n d e=true->cq A s u v (decide (d=e)))
  (hlt:∀{d e:D}{x y:V}{u v:ad},RepV X.K M H d x->RepV X.K M H e y->RelV x u->RelV y v->okL n d e=true->HT.LtAt A s u v (ltN n d e)) :
  ∀{ds es:List D}{xs ys:List V}{us vs:List ad},RepL X.K M H ds xs->RepL X.K M H es ys->Vals xs us->Vals ys vs->okLs (okL n) n ds es=true->HT.LexAt A s us vs (lexN (ltN n) ds es)
 |[],[],_,_,_,_,p,q,r,t,_=>by
  unfold RepL at p q;subst p;subst q;cases r;cases t;exact .nn
 |[],e::es,_,_,_,_,p,q,r,t,_=>by
  unfold RepL at p q;subst p;obtain⟨v,vs,rfl,_,_⟩:=q;cases r;cases t;exact .nc
 |d::ds,[],_,_,_,_,p,q,r,t,_=>by
  unfold RepL at p q;subst q;obtain⟨v,vs,rfl,_,_⟩:=p;cases r;cases t;exact .cn
 |d::ds,e::es,_,_,_,_,p,q,r,t,o=>by
  unfold RepL at p q;obtain⟨x,xs,rfl,J,p2⟩:=p;obtain⟨y,ys,rfl,B,O⟩:=q;cases r with
  |cons z N =>
   cases t with
   |cons t1 L =>
    unfold okLs at o;rw[a4] at o;have h1:=heq J B z t1 o.1;unfold lexN
    by_cases j:d=e
    ·rw[if_pos j];rw[if_pos j] at o;rw[decide_eq_true j] at h1;exact .eq h1 (bXz heq hlt p2 O N L o.2)
    ·rw[if_neg j];rw[if_neg j] at o;rw[decide_eq_false j] at h1;exact .ne h1 (hlt J B z t1 o.2)
theorem eXj(I:Inv X pins σ H s):∀(n:Nat) {A:aO}{d e:D}{x y:V}{u v:ad},A.units+n<bU->RepV X.K M H d x->RepV X.K M H e y->RelV x u->RelV y v->okL n d e=true->HT.LtAt A s u v (ltN n d e):=by
 intro n
 induction n with
 |zero =>
  intro A d e x y u v U h h' r r' o;cases d <;> cases e <;> first|(cases o;done)|skip
  all_goals unfold RepV at h h';subst h;subst h';obtain⟨t,rfl⟩:=r;obtain⟨z,rfl⟩:=r'
  ·intro prog w E Q q;exact(jn q:aF (az prog w) A (cN .Lt _ _) Q E s)
  ·intro prog w E Q q;exact HT.rcLt_st A s _ _ _ _ prog w E Q q
 |succ n N =>
  intro A d e x y u v U h h' r r' o;cases d <;> cases e <;> first|(cases o;done)|skip
  ·unfold RepV at h h';subst h;subst h';obtain⟨t,rfl⟩:=r;obtain⟨z,rfl⟩:=r';intro prog w E Q q;exact(jn q:aF (az prog w) A (cN .Lt _ _) Q E s)
  ·unfold RepV at h h';subst h;subst h';obtain⟨t,rfl⟩:=r;obtain⟨z,rfl⟩:=r';intro prog w E Q q;exact HT.rcLt_st A s _ _ _ _ prog w E Q q
  ·rename_i ds es;unfold RepV at h h';obtain⟨a,xs,rfl,t,l⟩:=h;obtain⟨b,ys,rfl,z,L⟩:=h';cases r;cases r';obtain⟨us,J,pl,_⟩:=I.tuple t.sq;obtain⟨O,B,j,_⟩:=I.tuple z.sq;refine HT.ltAt_tup pl j ?_ (by lia)
   exact bXz (λp q r r' o=>(eq3 I n (show A.units+1+n<bU by lia) p q r r' o).eq) (λp q r r' o=>N (show A.units+1+n<bU by lia) p q r r' o) l L J B o
  ·rename_i ds es;unfold RepV at h h';obtain⟨a,xs,rfl,t,l⟩:=h;obtain⟨b,ys,rfl,z,L⟩:=h';cases r;cases r';obtain⟨us,J,pl,_⟩:=I.list t.sq;obtain⟨O,B,j,_⟩:=I.list z.sq;refine HT.ltAt_lst pl.isList j.isList ?_ (by omega)
   exact bXz (λp q r r' o=>(eq3 I n (show A.units+1+n<bU by lia) p q r r' o).eq) (λp q r r' o=>N (show A.units+1+n<bU by lia) p q r r' o) l L J B o
end
end L2
set_option maxHeartbeats 1000000
namespace L2
open PySem PySem.Spec PyProof.Rows
def Kp(h h':aY):Prop:=∀b o,h.get? b=some o->h'.get? b=some o
end L2
set_option maxHeartbeats 4000000
namespace L2
open PySem PySem.Spec PyProof.Rows
end L2
set_option maxHeartbeats 1000000
namespace L2
open PySem PySem.Spec PyProof.Rows
section
variable{X:Cx}{K:Fg}{pos:Pos}{k:Nat}
theorem eXk{P:aC}{w:aL}{L:List Nat}{te:ED}:aX3 (bJo P w K) D.str L (λD'=>cX5 (bJo P w K) D' (upE K te)) (eXh D.str te):=cJw dXu
end
end L2
namespace L2
open PySem PyProof.Rows
section
variable{K:ap}{k:Nat}
theorem e_fn{P:aC}{w:aL}{mg:Str->Option ad}{base:aY}{x:Str}{st:Stmt}{N ps:List Str}{sp:SpD}{f:Addr}{fd:cR}(Fn:Fun K x x st f fd)(S:FnScope N ps (aQ3 st))
  (len:∀ds S Q,sp ds S Q->ds.length=ps.length)
  (h:∀ (cdv:ad) (A:aO) (outer:List Env) (s:ah) (H:Hp) (E:XK),Room k (A.deeper (gN x (aQ3 st) s.heap.objs.size f cdv)) ->
   ∃t,PSsD K (cxOf CX0 P w K mg base N x (aQ3 st) f cdv A outer s H E).nox (aQz st) t/\∀ds S Q,sp ds S Q->t (bX5 Q) (aXm N ds) S):FnOk P w K mg base CX0 (k+1) f fd ps (spU K sp):=by
 refine Fn.ok S (λO H Q E B=>by obtain⟨F,S,ds,QD,r,l,j,c⟩:=B;rw[l.length];exact len ds S QD j) (λcdv A outer s H O Q E' U B=>?_)
 obtain⟨F,S,ds,QD,r,l,j,c⟩:=B;obtain⟨t,h1,h2⟩:=h cdv A outer s H E' U;have fin:∀v d H' S',Ext S H S' H'->Rp K F S' H'->RepV K (mt S' F) H' d v->rtD QD d S'->Q v H':=λv d H' S' D z v1 L=>by
  obtain⟨Z,S2,J,Y,q⟩:=L;exact c v Z H' S2 (D.trans (Ext.less J)) (z.less J) ((cZs z J Y).1 v v1) q
 exact⟨_,h1.o,F,S,aXm N ds,bX5 QD,r,bQg l,h2 ds S QD j,fun Γ' S' σ' H' D z g1 q=>fin .non .non H' S' D z (by unfold RepV;rfl) q,fin,λ_ _ _ _ _ _ _ q=>q.elim,λ_ _ _ _ _ _ _ q=>q.elim⟩
end
theorem us1{p:List ad->Prop}(h:∀a,p [a])(us:List ad)(ee:us.length=1):p us:=by
 cases us with
 |nil=>cases ee
 |cons a us =>
  cases us with
  |nil=>exact h a
  |cons z us=>exact absurd (Nat.succ.inj ee) (Nat.succ_ne_zero _)
theorem us2{p:List ad->Prop}(h:∀a b,p [a,b])(us:List ad)(ee:us.length=2):p us:=by
 cases us with
 |nil=>cases ee
 |cons a us =>
  cases us with
  |nil=>cases ee
  |cons b us =>
   cases us with
   |nil=>exact h a b
   |cons z us=>exact absurd (Nat.succ.inj (Nat.succ.inj ee)) (Nat.succ_ne_zero _)
theorem us3{p:List ad->Prop}(h:∀a b c,p [a,b,c])(us:List ad)(ee:us.length=3):p us:=by
 cases us with
 |nil=>cases ee
 |cons a us =>
  cases us with
  |nil=>cases ee
  |cons b us =>
   cases us with
   |nil=>cases ee
   |cons c us =>
    cases us with
    |nil=>exact h a b c
    |cons z us=>exact absurd (Nat.succ.inj (Nat.succ.inj (Nat.succ.inj ee))) (Nat.succ_ne_zero _)
theorem us4{p:List ad->Prop}(h:∀a b c d,p [a,b,c,d])(us:List ad)(ee:us.length=4):p us:=by
 cases us with
 |nil=>cases ee
 |cons a us =>
  cases us with
  |nil=>cases ee
  |cons b us =>
   cases us with
   |nil=>cases ee
   |cons c us =>
    cases us with
    |nil=>cases ee
    |cons d us =>
     cases us with
     |nil=>exact h a b c d
     |cons z us=>exact absurd (Nat.succ.inj (Nat.succ.inj (Nat.succ.inj (Nat.succ.inj ee)))) (Nat.succ_ne_zero _)
theorem fsc{N ps:List Str}{sc:Scope}(a:sc.kind=.function:=by rfl)(b:sc.isCoroutine=false:=by rfl)(c:sc.isGenerator=false:=by rfl)(d:N.Nodup:=by decide +kernel)(e:N.take ps.length=ps:=by rfl)(f:∀x∈ps,sc.names.lookup x=some .local\/sc.names.lookup x=some .cell:=by decide +kernel)(g:∀y∈sc.names,y.2≠.free:=by decide +kernel):FnScope N ps sc:=⟨a,b,c,d,e,f,g⟩
end L2
namespace Toy
open PySem L2
def top(i:Nat):Stmt:=PySem.Challenge.pw_corepetals_k09_found_by_the_way.main.body.getD i (.Pass ⟨0,0,0,0⟩)
end Toy
set_option maxHeartbeats 4000000
namespace L2
open PySem PySem.Spec PyProof.Rows
theorem bZf{α:Type}(l:List α)(i:Nat):∀m,(bu m).filterMap (λk=>l[i+k]?)=(l.drop i).take m
 |0=>rfl
 |m+1=>by
  rw[List.range_succ,List.filterMap_append,bZf l i m,cw]
  congr 1
  rw[List.getElem?_drop];simp only[d3,List.filterMap_nil];cases l[i+m]? <;> rfl
theorem eXl(lo hi:Option Int)(n:Nat):bG lo hi 1 n=(bu (HT.sIx n n hi-HT.sIx n 0 lo)).map λk=>HT.sIx n 0 lo+k:=by
 have e:bG lo hi 1 n=sliceRange (d7 lo hi none n).1 (d7 lo hi none n).2.1 1:=rfl;obtain⟨h1,h2,_⟩:=aXl lo hi n;rw[e,h1,h2];unfold sliceRange;have j:(if (1:Int)>0 then (if ((HT.sIx n 0 lo:Nat):Int)<((HT.sIx n n hi:Nat):Int) then (((HT.sIx n n hi:Nat):Int)-((HT.sIx n 0 lo:Nat):Int)+1-1)/1 else 0) else (if ((HT.sIx n 0 lo:Nat):Int)>((HT.sIx n n hi:Nat):Int) then (((HT.sIx n 0 lo:Nat):Int)-((HT.sIx n n hi:Nat):Int)-1-1)/(-1) else 0)).toNat=HT.sIx n n hi-HT.sIx n 0 lo:=by
  rw[if_pos (by decide),Int.ediv_one]
  split <;> lia
 show(bu _).map _=_;rw[j];apply List.map_congr_left;intro k _;lia
theorem cutS_eq(z:Str)(lo hi:Option Int):cutS z lo hi=⟨((z.cps.toList.drop (HT.sIx z.length 0 lo)).take (HT.sIx z.length z.length hi-HT.sIx z.length 0 lo)).toArray⟩:=by
 unfold cutS;rw[eXl,am,ig];have D:HT.sIx z.length z.length hi<=z.length:=HT.sIx_le _ _ (Nat.le_refl _) hi;have B:z.cps.toList.length=z.length:=aJ
 by_cases h:(HT.sIx z.length z.length hi-HT.sIx z.length 0 lo==z.length)=true
 ·rw[if_pos h];have h':=fY h
  by_cases h0:z.length=0
  ·have:z.cps=#[]:=Array.eq_empty_of_size_eq_zero h0
   cases z;simp only at this;subst this;simp
  ·have j:HT.sIx z.length 0 lo=0:=by lia
   rw[h',j,jg,bQ (by lia)]
 ·rw[if_neg h,List.filterMap_map]
  congr 1
  have:=bZf z.cps.toList (HT.sIx z.length 0 lo) (HT.sIx z.length z.length hi-HT.sIx z.length 0 lo)
  rw[<- this]
  congr 2
  funext k;show z.cps[HT.sIx z.length 0 lo+k]?=_;rw[aT]
end L2
set_option maxHeartbeats 1000000
namespace L2
open PySem
def lettersZ:Str:=Str.ofString "abcdefghijklmnopqrstuvwxyz"
theorem cX8{i:Nat}(h:i<26):atI lettersZ.cps.toList (i:Int)=some (97+i):=by
 have:∀j:Fin 26,lettersZ.cps.toList[j.val]?=some (97+j.val):=by decide +kernel
 exact aQu (this ⟨i,h⟩)
end L2
set_option maxHeartbeats 4000000
namespace L2
open PySem
theorem aQ8{n:Nat}(h:n<=9999):n<=sizeLine:=by rw[aW];lia
theorem aJl{α:Type}:∀(l:List α) (j:Nat) (h:j<l.length),(l[j]::l.eraseIdx j).Perm l
 |a::l,0,_=>.refl _
 |a::l,j+1,h=>by
  have z:=aJl l j (by simpa using h)
  show(l[j]'(by simpa using h)::a::l.eraseIdx j).Perm (a::l)
  exact(jl.swap _ _ _).trans (z.cons a)
theorem cX9{α β:Type}{f:α->β}(g:β->α)(hg:∀x,g (f x)=x){vs us:List β}{xs:List α}(h:(vs++us).Perm (xs.map f)):∃as bs:List α,vs=as.map f/\us=bs.map f/\(as++bs).Perm xs:=by
 have mem:∀y∈vs++us,f (g y)=y:=λy j=>by
  obtain⟨x,_,rfl⟩:=bB.mp (h.mem_iff.mp j);rw[hg]
 have lift:∀l:List β,(∀y∈l,f (g y)=y)->l=(l.map g).map f:=λl z=>by
  rw[bW];apply iK (by simp)
  intro i h1 h2;rw[iL];exact(z _ (db h1)).symm
 refine⟨vs.map g,us.map g,lift vs λy j=>mem y (dg _ j),lift us λy j=>mem y (bb _ j),?_⟩;have p:=h.map g;rw[bq,bW] at p;have e:xs.map (g∘f)=xs:=by
  apply iK (by simp)
  intro i h1 h2;rw[iL];exact hg _
 rwa [e] at p
def dStr':D->Str
 |.str s=>s
 |_=>⟨#[]⟩
theorem cJz{t:List Str}{l:List (List Str)}:tupS t∈l.map tupS↔t∈l:=by
 rw[bB];exact⟨λ⟨m,h,e⟩=>by rw[<- cJy _ _ e];exact h,λh=>⟨t,h,rfl⟩⟩
theorem aXn:∀l:List Str,aQt (l.map D.str)=true
 |[]=>rfl
 |x::l=>by show(true&&aQt (l.map D.str))=true;rw[aXn l];rfl
theorem aJm:∀l:List (List Str),aQt (l.map tupS)=true
 |[]=>rfl
 |x::l=>by
  show(aQt (x.map D.str)&&aQt (l.map tupS))=true;rw[aXn x,aJm l];rfl
theorem dQ0(a b:List Str):okE 8 (tupS a) (tupS b)=true:=by
 show((a.map D.str).zip (b.map D.str)).all (λp=>okE 7 p.1 p.2)=true;rw[List.zip_map,fN,bI];rintro⟨a,b⟩ _
 rfl
end L2
namespace Toy
open PySem L2
def Pile(S:Sto)(a:Addr):Prop:=∃(cs:List Int) (i r s c:Int),S a=some (.lst [.lst (cs.map D.int),.int i,.int r,.int s,.int c])/\cs.length<=63/\0<=i/\i<=cs.length/\0<=r/\0<=s/\s<2147483629/\0<=c
theorem Pile.ne{S:Sto}{a p:Addr}(h:Pile S a)(hp:S p=none):p≠a:=by
 obtain⟨cs,i,r,s,c,hS,_⟩:=h;rintro rfl;rw[hp] at hS;cases hS
theorem Pile.eq{S S':Sto}{a:Addr}(h:Pile S a)(e:S' a=S a):Pile S' a:=by
 obtain⟨cs,i,r,s,c,j,k⟩:=h;exact⟨cs,i,r,s,c,e.trans j,k⟩
theorem Pile.supd{S:Sto}{a p:Addr}{o:DO}(h:Pile S a)(hp:p≠a):Pile (supd S p o) a:=h.eq (aQ6 (cy hp))
def aJn:SpD:=λds S Q=>∃ns:List Int,ds=[.lst (ns.map D.int)]/\ns.length<=63/\∀p S',S p=none->Off p S S'->Pile S' p->Q (.ref p) S'
def aQw:SpD:=λds S Q=>∃(a:Addr) (m:Int),ds=[.ref a,.int m]/\Pile S a/\1<=m/\m<1000000/\∀(r:Int) S',0<=r->r<m->Off a S S'->Pile S' a->Q (.int r) S'
theorem dQ1{a lp:Addr}(hla:lp≠a){S:Sto}{xs:List D}{m:Nat}(hS:S lp=some (.lst xs))(hm:m<=xs.length)(hx:xs.length<=9999)(dk:Pile S a){Q:List D->Sto->Prop}
  (q:∀vs us S',(vs++us).Perm xs->vs.length=m->S' lp=some (.lst us)->Pile S' a->(∀b,b≠a->b≠lp->S' b=S b)->Q vs S') :
  aZ1 (aZ7 0) dYes (aXj (dMt cZt ckL (dVar 1) (bZ8 (dCB aQw (bZ8 (dVar 2) (bZ8 (dCB lenD (bZ8 (dVar 1) dNil)) dNil))) dNil))) (λ_=>True) [none,some (.ref lp),some (.ref a)] (rngD 0 m) [] S Q:=by
 refine bQh (λi acc S'=>∃us:List D,acc.length=i/\S' lp=some (.lst us)/\(acc++us).Perm xs/\Pile S' a/\∀b,b≠a->b≠lp->S' b=S b) ⟨xs,rfl,hS,.refl _,dk,λ_ _ _=>rfl⟩ ?_ ?_
 ·rintro i x vs S' N U ⟨us,B,O,pm,L,z⟩ hN;obtain⟨hi,rfl⟩:=cX2 U;have hul:us.length+i=xs.length:=by have:=pm.length_eq;rw[aB] at this;lia
  refine⟨trivial,⟨_,O⟩,_,O,a,us.length,rfl,L,by lia,by lia,λr2 S2 r20 r21 J Z=>?_⟩
  have Y:S2 lp=some (.lst us):=(J lp hla).trans O;obtain⟨j,rfl⟩:∃j:Nat,r2=j:=⟨r2.toNat,by lia⟩
  have hj:j<us.length:=by lia
  refine⟨_,j,us[j],Y,rfl,by lia,ag hj,by rw[aW];lia,hN _ _ ⟨us.eraseIdx j,?_,supd_same,?_,Z.supd hla,λb h1 h2=>(aQ6 h2).trans ((J b h1).trans (z b h1 h2))⟩⟩
  ·rw[aB,B];rfl
  ·refine jl.trans ?_ pm;rw[aS];exact(List.perm_append_left_iff vs).mpr (aJl us j hj)
 ·rintro vs S' ⟨us,B,O,pm,L,z⟩;rw[aZt] at B;exact⟨trivial,q vs us S' pm B O L z⟩
def SetOf(names:List Str)(most:Nat)(t:List Str):Prop:=t.Nodup/\t.Pairwise (λx y=>leS x y=true)/\(∀n∈t,n∈names)/\t.length<=most
def bQ1:SpD:=λds S Q=>∃(a:Addr) (names:List Str) (many:Nat),ds=[.ref a,tupS names,.int many]/\Pile S a/\names.Nodup/\names.length<=60/\many<=60/\∀t S',SetOf names many t->(t.length=many\/t.length=names.length)->Off a S S'->Pile S' a->Q (tupS t) S'
theorem bJp{α:Type}(l:List α)(nd:l.Nodup)(i m:Nat)(hi:i<=l.length)(hm:m<=l.length):(((l++l).drop i).take m).Nodup:=by
 have e:(l++l).drop i=l.drop i++l:=by rw[d8 hi]
 rw[e];have j:(l.drop i++l.take i).Nodup:=by
  have:(l.drop i++l.take i).Perm l:=cO.trans (by rw[a6])
  exact this.nodup_iff.mpr nd
 have sub:((l.drop i++l).take m).Sublist (l.drop i++l.take i):=by
  have h1:(l.drop i++l).take m=((l.drop i++l.take i)++l.drop i).take m:=by rw[aS,a6]
  rw[h1,cL (by rw[aB,bz,aV];lia)]
  exact hZ _ _
 exact sub.nodup j
theorem dXw{p s:Str}{c d:Nat}(h:p++(⟨#[c]⟩:Str)++s=p++(⟨#[d]⟩:Str)++s):c=d:=by
 have e:(p.cps++#[c]++s.cps).toList=(p.cps++#[d]++s.cps).toList:=congrArg (λz:Str=>z.cps.toList) h;simpa using e
def sh2(x y:Nat):List Str:=([x,y].map λc=>sg c++sg x)++([x,y].map λc=>sg c++sg y)
theorem bZg{z:Str}(h:z.length<=7)(lo hi:Option Int):(cutS z lo hi).length<=7:=by
 rw[cutS_eq];show(List.toArray _).size<=7;rw[aq,aV,bz]
 have:z.cps.toList.length=z.length:=aJ
 lia
theorem aJo{x y:Nat}:∀w∈sh2 x y,w.length=2:=λw h=>by
 have two:∀c d:Nat,(sg c++sg d).length=2:=λc d=>by
  show((#[c]:Array Nat)++#[d]).size=2;rw[dl];rfl
 unfold sh2 at h;rcases aN.mp h with h|h <;> (obtain⟨c,_,rfl⟩:=bB.mp h;exact two _ _)
def w14(x y:Nat):List Str:=[x,y].map sg++sh2 x y++(sh2 x y).map (λw=>w++sg x)++(sh2 x y).map (λw=>w++sg y)
theorem bQm(a b:Str):(a++b).length=a.length+b.length:=by
 show(a.cps++b.cps).size=_;rw[dl];rfl
theorem dXx{x y:Nat}:∀w∈w14 x y,1<=w.length:=λw h=>by
 unfold w14 at h;rcases aN.mp h with h|h
 ·rcases aN.mp h with h|h
  ·rcases aN.mp h with h|h
   ·obtain⟨c,_,rfl⟩:=bB.mp h;exact Nat.le_refl 1
   ·rw[aJo w h];decide
  ·obtain⟨v,j,rfl⟩:=bB.mp h;rw[bQm,aJo v j];lia
 ·obtain⟨v,j,rfl⟩:=bB.mp h;rw[bQm,aJo v j];lia
def aXo:SpD:=λds S Q=>∃(a:Addr) (many:Nat),ds=[.ref a,.int many]/\Pile S a/\many<=24/\∀(names:List Str) S',names.Nodup->names.Pairwise (λx y=>leS x y=true)->names.length=many->(∀n∈names,1<=n.length)->Off a S S'->Pile S' a->Q (tupS names) S'
end Toy
set_option maxHeartbeats 1000000
namespace Toy
open PySem L2
abbrev s_law_pile:Stmt:=top 14
theorem bX7:FnScope ["script"] ["script"] (aQ3 s_law_pile):=fsc
section
variable{P:aC}{w:aL}{K:ap}{mg:Str->Option ad}{base:aY}{pt cc:Addr}
theorem bX8(T:Tx K mg "_law_pile" s_law_pile)(B:Bs mg):Df P w K mg base 1 "_law_pile" ["script"] (spU K aJn):=by
 refine aZk T bX7 (λF=>F.binds λ_ _ _ _ _ _=>us1 λ_=>rfl) ?_ λf J A outer s H E L=>⟨_,(aQ4 (aQf (aZa (b:=true) (aQ0 (dv 0) (aQ0 aQ5 (aQ0 aQ5 (aQ0 aQ5 (aQ0 aQ5 aQ1)))))))),?_⟩
 ·rintro ds S Q ⟨ns,rfl,_⟩;rfl
 ·rintro ds S Q ⟨ns,rfl,z,q⟩;refine⟨by show 5<=sizeLine;rw[aW];decide,λp j=>aQi (q p _ j (λb D=>aQ6 D) ⟨ns,0,0,44021,0,supd_same,z,by decide,by omega,by decide,by decide,by decide,by decide⟩)⟩
end
abbrev s_law_next:Stmt:=top 15
theorem sc_law_next:FnScope ["pile", "most", "found", "cell"] ["pile", "most"] (aQ3 s_law_next):=fsc
section
variable{P:aC}{w:aL}{K:ap}{mg:Str->Option ad}{base:aY}{pt cc:Addr}
theorem bX9(T:Tx K mg "_law_next" s_law_next)(B:Bs mg)(AB:mg "abs"=none):Df P w K mg base 1 "_law_next" ["pile", "most"] (spU K aQw):=by
 refine aZk T sc_law_next (λF=>F.binds λ_ _ _ _ _ _=>us2 λ_ _=>rfl) ?_ λf cdv A outer s H E hr=>⟨_,(aQ2 (aXi (eJq hr (e_ix (dv 0) aQ5) aQ5) (aQ2 (aQa (i:=2) sc_law_next.nd rfl (bf rfl) (bZ7 (e_ix (dv 0) aQ5) (dv 1)))
  (aQ2 (aJz (cZ3 (e_ix (dv 0) aQ5) (dv 1)) (aJy (dv 0) aQ5))
  (aQ4 (aQf (dv 2))))) aQv)
  (aQ2 (aXi (cZ6 hr (e_ix (dv 0) aQ5) (aZj rfl B.len (aQ0 (e_ix (dv 0) aQ5) aQ1))) (aQ2 (aQa (i:=3) sc_law_next.nd rfl (bf rfl) (e_ix (e_ix (dv 0) aQ5) (e_ix (dv 0) aQ5)))
  (aQ2 (aJz (aZ0 (k:=false) (e_ix (dv 0) aQ5) aQ5) (aJy (dv 0) aQ5))
  (aQ2 (aJz (bZ7 (aZ0 (k:=false) (cJg (e_ix (dv 0) aQ5) aQ5) (dv 3)) aQ5) (aJy (dv 0) aQ5))
  (aQ2 (aXi (eZg hr (dXq rfl AB (aQ0 (dv 3) aQ1)) (eJo aQ5 aQ5)) (aQ2 (aJz (cZ3 (dXq rfl AB (aQ0 (dv 3) aQ1)) (dv 1)) (aJy (dv 0) aQ5))
  (aQ4 (aQf (bZ7 (dXq rfl AB (aQ0 (dv 3) aQ1)) (dv 1))))) aQv)
  (aQ4 (aQf (bZ7 (dv 3) (dv 1)))))))) aQv)
  (aQ2 (aJz (aZ0 (k:=false) (e_ix (dv 0) aQ5) aQ5) (aJy (dv 0) aQ5))
  (aQ2 (aJz (bZ7 (aZ0 (k:=false) (aZ0 (k:=false) (cJg (e_ix (dv 0) aQ5) (e_ix (dv 0) aQ5)) (cJg aQ5 (e_ix (dv 0) aQ5))) aQ5) aQ5) (aJy (dv 0) aQ5))
  (aQ4 (aQf (bZ7 (cZ3 (e_ix (dv 0) aQ5) aQ5) (dv 1)))))))),?_⟩
 ·rintro ds S Q ⟨a,m,rfl,_⟩;rfl
 ·rintro ds S Q ⟨a,m,rfl,⟨cs,i,r,sd,c,J,hc,i0,i1,r0,s0,s1,c0⟩,N,m2,q⟩;have off:∀o,Off a S (supd S a o):=λo b O=>aQ6 O;have L:∀o o',Off a S (supd (supd S a o) a o'):=λo o' b O=>by rw[aQ6 O,aQ6 O]
  have Y:∀o o' Z,Off a S (supd (supd (supd S a o) a o') a Z):=λo o' Z b O=>by rw[aQ6 O,aQ6 O,aQ6 O]
  refine⟨_,_,J,rfl,_,rfl,ite2 (λk0=>?_) λk0=>?_⟩
  ·refine⟨_,_,J,rfl,(by first|exact .inl ⟨by decide,by decide⟩|exact .inr ⟨by decide,by decide⟩|exact .inl ⟨by omega,by omega⟩|exact .inr ⟨by omega,by omega⟩|exact⟨by decide,by decide⟩|exact⟨by omega,by omega⟩|(show(0:Int)<_;first|decide|omega)|(show _<=sizeLine;rw[aW];first|decide|omega)|decide|omega),_,_,J,rfl,⟨(by first|exact .inl ⟨by decide,by decide⟩|exact .inr ⟨by decide,by decide⟩|exact .inl ⟨by omega,by omega⟩|exact .inr ⟨by omega,by omega⟩|exact⟨by decide,by decide⟩|exact⟨by omega,by omega⟩|(show(0:Int)<_;first|decide|omega)|(show _<=sizeLine;rw[aW];first|decide|omega)|decide|omega),(by first|exact .inl ⟨by decide,by decide⟩|exact .inr ⟨by decide,by decide⟩|exact .inl ⟨by omega,by omega⟩|exact .inr ⟨by omega,by omega⟩|exact⟨by decide,by decide⟩|exact⟨by omega,by omega⟩|(show(0:Int)<_;first|decide|omega)|(show _<=sizeLine;rw[aW];first|decide|omega)|decide|omega)⟩,_,_,J,rfl,?_⟩
   show rtD Q (.int (r%m)) (supd S a (.lst [.lst (cs.map D.int),.int i,.int (r/m),.int sd,.int c]));exact aQi (q _ _ (md N).1 (md N).2 (off _) ⟨cs,i,r/m,sd,c,supd_same,hc,i0,i1,Int.ediv_nonneg r0 (by omega),s0,s1,c0⟩)
  refine⟨_,_,J,rfl,_,_,J,rfl,_,rfl,_,rfl,ite2 (λk1=>?_) λk1=>?_⟩
  ·have hi:i.toNat<cs.length:=by have:=of_decide_eq_true k1;rw[am] at this;omega
   obtain⟨cell,ei⟩:∃cell:Int,atI (cs.map D.int) i=some (.int cell):=by
    refine⟨cs[i.toNat],?_⟩
    have:=aQu (xs:=cs.map D.int) (j:=i.toNat) (v:=.int cs[i.toNat]) (by rw[aK,ag hi];rfl)
    rwa [show((i.toNat:Nat):Int)=i by omega] at this
   have z:supd S a (.lst [.lst (cs.map D.int),.int (i+1),.int r,.int sd,.int c]) a=_:=supd_same;refine⟨_,_,J,rfl,_,_,J,rfl,_,_,rfl,ei,_,_,J,rfl,_,_,J,rfl,_,_,z,rfl,.inr ⟨by decide,by decide⟩,by show(0:Int)<2147483629;decide,_,_,z,rfl,?_⟩
   have hm:=md (a:=sd*69069+cell) (b:=2147483629) (by decide)
   have U:supd (supd S a (.lst [.lst (cs.map D.int),.int (i+1),.int r,.int sd,.int c])) a (.lst [.lst (cs.map D.int),.int (i+1),.int r,.int ((sd*69069+cell)%2147483629),.int c]) a=_:=supd_same;refine⟨⟨by decide,by decide,by decide⟩,_,rfl,ite2 (λk2=>?_) λk2=>?_⟩
   ·refine⟨⟨(by first|exact .inl ⟨by decide,by decide⟩|exact .inr ⟨by decide,by decide⟩|exact .inl ⟨by omega,by omega⟩|exact .inr ⟨by omega,by omega⟩|exact⟨by decide,by decide⟩|exact⟨by omega,by omega⟩|(show(0:Int)<_;first|decide|omega)|(show _<=sizeLine;rw[aW];first|decide|omega)|decide|omega),(by first|exact .inl ⟨by decide,by decide⟩|exact .inr ⟨by decide,by decide⟩|exact .inl ⟨by omega,by omega⟩|exact .inr ⟨by omega,by omega⟩|exact⟨by decide,by decide⟩|exact⟨by omega,by omega⟩|(show(0:Int)<_;first|decide|omega)|(show _<=sizeLine;rw[aW];first|decide|omega)|decide|omega)⟩,_,_,U,rfl,(by first|exact .inl ⟨by decide,by decide⟩|exact .inr ⟨by decide,by decide⟩|exact .inl ⟨by omega,by omega⟩|exact .inr ⟨by omega,by omega⟩|exact⟨by decide,by decide⟩|exact⟨by omega,by omega⟩|(show(0:Int)<_;first|decide|omega)|(show _<=sizeLine;rw[aW];first|decide|omega)|decide|omega),aQi (q _ _ (md N).1 (md N).2 (Y _ _ _) ⟨cs,i+1,(if cell<0 then -cell else cell)/m,(sd*69069+cell)%2147483629,c,supd_same,hc,by omega,by omega,Int.ediv_nonneg (by split <;> omega) (by omega),hm.1,hm.2,c0⟩)⟩
   ·exact⟨(by first|exact .inl ⟨by decide,by decide⟩|exact .inr ⟨by decide,by decide⟩|exact .inl ⟨by omega,by omega⟩|exact .inr ⟨by omega,by omega⟩|exact⟨by decide,by decide⟩|exact⟨by omega,by omega⟩|(show(0:Int)<_;first|decide|omega)|(show _<=sizeLine;rw[aW];first|decide|omega)|decide|omega),aQi (q _ _ (md N).1 (md N).2 (L _ _) ⟨cs,i+1,r,(sd*69069+cell)%2147483629,c,supd_same,hc,by omega,by omega,r0,hm.1,hm.2,c0⟩)⟩
  ·have z:supd S a (.lst [.lst (cs.map D.int),.int i,.int r,.int sd,.int (c+1)]) a=_:=supd_same;have hm:=md (a:=sd*sd+40014*(c+1)+977) (b:=2147483629) (by decide)
   have U:supd (supd S a (.lst [.lst (cs.map D.int),.int i,.int r,.int sd,.int (c+1)])) a (.lst [.lst (cs.map D.int),.int i,.int r,.int ((sd*sd+40014*(c+1)+977)%2147483629),.int (c+1)]) a=_:=supd_same;exact⟨_,_,J,rfl,_,_,J,rfl,_,_,z,rfl,_,_,z,rfl,.inl ⟨by omega,by omega⟩,_,_,z,rfl,.inl ⟨by decide,by decide⟩,by show(0:Int)<2147483629;decide,_,_,z,rfl,_,_,U,rfl,⟨by decide,by decide⟩,(by first|exact .inl ⟨by decide,by decide⟩|exact .inr ⟨by decide,by decide⟩|exact .inl ⟨by omega,by omega⟩|exact .inr ⟨by omega,by omega⟩|exact⟨by decide,by decide⟩|exact⟨by omega,by omega⟩|(show(0:Int)<_;first|decide|omega)|(show _<=sizeLine;rw[aW];first|decide|omega)|decide|omega),aQi (q _ _ (md N).1 (md N).2 (L _ _) ⟨cs,i,r,(sd*sd+40014*(c+1)+977)%2147483629,c+1,supd_same,hc,i0,i1,r0,hm.1,hm.2,by omega⟩)⟩
end
abbrev s_law_names:Stmt:=top 16
theorem sc_law_names:FnScope ["pile", "many", "letters", "start", "at", "base", "pair", "short", "some"] ["pile", "many"] (aQ3 s_law_names):=fsc
section
variable{P:aC}{w:aL}{K:ap}{mg:Str->Option ad}{base:aY}{pt cc:Addr}
theorem bZh(T:Tx K mg "_law_names" s_law_names)(B:Bs mg)(d_law_next:Df P w K mg base 1 "_law_next" ["pile", "most"] (spU K aQw)):Df P w K mg base 2 "_law_names" ["pile", "many"] (spU K aXo):=by
 refine aZk T sc_law_names (λF=>F.binds λ_ _ _ _ _ _=>us2 λ_ _=>rfl) ?_ λf cdv A outer s H E Z=>⟨_,(aQ2 (aQa (i:=2) sc_law_names.nd rfl (fw rfl) aXe)
  (aQ2 (aQa (i:=3) sc_law_names.nd rfl (fw rfl) (aQ9 d_law_next Z rfl (aQ0 (dv 0) (aQ0 aQ5 aQ1))))
  (aQ2 (aQa (i:=4) sc_law_names.nd rfl (fw rfl) (aQ9 d_law_next Z rfl (aQ0 (dv 0) (aQ0 aQ5 aQ1))))
  (aQ2 (aQa (i:=5) sc_law_names.nd rfl (fw rfl) (e_ix (aZa (b:=false) (aQ0 aXe (aQ0 aXe (aQ0 aXe (aQ0 aXe (aQ0 aXe (aQ0 aXe (aQ0 aXe (aQ0 aXe aQ1))))))))) (aQ9 d_law_next Z rfl (aQ0 (dv 0) (aQ0 aQ5 aQ1)))))
  (dXg (aXi (PWD.pt (dQr (dX3 Z (aQ9 d_law_next Z rfl (aQ0 (dv 0) (aQ0 aQ5 aQ1))) aQ5) (cZ7 (cZ6 Z (dv 1) aQ5)))) (aQ2 (aQa (i:=6) sc_law_names.nd rfl (fw rfl) (e_ix (aZa (b:=false) (aQ0 aXe (aQ0 aXe (aQ0 aXe (aQ0 aXe aQ1))))) (bZ7 (dv 3) aQ5)))
  (aQ2 (aQa (i:=7) sc_law_names.nd rfl (bf rfl) (aZ0 (k:=false) (aQs (N':=["word", "pair"]) (oc:=none) (b:=false) [0] [] rfl sc_law_names.nd (λ_ _ _=>aQd ..) (.own (.cap (i:=6) rfl (by decide +kernel) .nil)) (aQh rfl) (dQv (dv 6)) (cg_name (i:=0)) (λ_ _ _ _ _=>aQe (i:=0) (nd_ ["word", "pair"]) rfl (bf rfl) (.inr rfl)) (λ_ _ _ _ _=>aQr) aQl (λ_ _ _ _ _ _=>aQj rfl (by exact PD.o (aZ0 (k:=false) (dv 0) (e_ix (dv 1) aQ5))))) (aQs (N':=["word", "pair"]) (oc:=none) (b:=false) [0] [] rfl sc_law_names.nd (λ_ _ _=>aQd ..) (.own (.cap (i:=6) rfl (by decide +kernel) .nil)) (aQh rfl) (dQv (dv 6)) (cg_name (i:=0)) (λ_ _ _ _ _=>aQe (i:=0) (nd_ ["word", "pair"]) rfl (bf rfl) (.inr rfl)) (λ_ _ _ _ _=>aQr) aQl (λ_ _ _ _ _ _=>aQj rfl (by exact PD.o (aZ0 (k:=false) (dv 0) (e_ix (dv 1) aQ5)))))))
  (aQ2 (aQa (i:=8) sc_law_names.nd rfl (bf rfl) (aZ0 (k:=false) (aZ0 (k:=false) (aZ0 (k:=false) (dXo (b:=false) rfl B.list (aQ0 (dv 6) aQ1)) (dv 7)) (aQs (N':=["word", "pair"]) (oc:=none) (b:=false) [0] [] rfl sc_law_names.nd (λ_ _ _=>aQd ..) (.own (.cap (i:=6) rfl (by decide +kernel) .nil)) (aQh rfl) (aZ5 (dv 7)) (cg_name (i:=0)) (λ_ _ _ _ _=>aQe (i:=0) (nd_ ["word", "pair"]) rfl (bf rfl) (.inr rfl)) (λ_ _ _ _ _=>aQr) aQl (λ_ _ _ _ _ _=>aQj rfl (by exact PD.o (aZ0 (k:=false) (dv 0) (e_ix (dv 1) aQ5)))))) (aQs (N':=["word", "pair"]) (oc:=none) (b:=false) [0] [] rfl sc_law_names.nd (λ_ _ _=>aQd ..) (.own (.cap (i:=6) rfl (by decide +kernel) .nil)) (aQh rfl) (aZ5 (dv 7)) (cg_name (i:=0)) (λ_ _ _ _ _=>aQe (i:=0) (nd_ ["word", "pair"]) rfl (bf rfl) (.inr rfl)) (λ_ _ _ _ _=>aQr) aQl (λ_ _ _ _ _ _=>aQj rfl (by exact PD.o (aZ0 (k:=false) (dv 0) (e_ix (dv 1) aQ5)))))))
  (aQ4 (aQf (aQo rfl B.tuple (aQ0 (aQx (b:=false) Z rfl B.sorted (aQ0 (e_sl (b:=false) (aZ0 (k:=false) (dv 8) (dv 8)) (aXh (dv 4)) (aXh (aZ0 (k:=false) (dv 4) (dv 1)))) aQ1)) aQ1))))))) aQv)
  (aQ4 (aQf (aQo rfl B.tuple (aQ0 (aQx (b:=false) Z rfl B.sorted (aQ0 (aQs (N':=["k", "base", "at", "letters", "start"]) (oc:=none) (b:=false) [0] [] rfl sc_law_names.nd (λ_ _ _=>aQd ..) (.own (.cap (i:=5) rfl (by decide +kernel) (.cap (i:=4) rfl (by decide +kernel) (.cap (i:=2) rfl (by decide +kernel) (.cap (i:=3) rfl (by decide +kernel) .nil))))) (aQh rfl) (aX5 rfl B.range (aQ0 (dv 1) aQ1)) (cg_name (i:=0)) (λ_ _ _ _ _=>aQe (i:=0) (nd_ ["k", "base", "at", "letters", "start"]) rfl (bf rfl) (.inr rfl)) (λ_ _ _ _ _=>aQr) aQl (λ_ _ _ _ _ _=>aQj rfl (by exact PD.o (aZ0 (k:=false) (aZ0 (k:=false) (e_sl (b:=false) (dv 1) bQd (aXh (dv 2))) (e_ix (dv 3) (bZ7 (aZ0 (k:=false) (dv 4) (cJg aQ5 (dv 0))) aQ5))) (e_sl (b:=false) (dv 1) (aXh (dv 2)) bQd))))) aQ1)) aQ1))))))))),?_⟩
 ·rintro ds S Q ⟨a,many,rfl,_⟩;rfl
 ·rintro ds S Q ⟨a,many,rfl,dk,m24,q⟩;refine⟨a,26,rfl,dk,by decide,by decide,λN S1 r10 r11 off1 dk1=>?_⟩
  refine⟨a,8,rfl,dk1,by decide,by decide,λJ S2 r20 r21 off2 dk2=>?_⟩
  refine⟨aQ8 (by decide),a,8,rfl,dk2,by decide,by decide,λY S3 r30 r31 off3 dk3=>?_⟩
  obtain⟨z,hz,hzl⟩:∃z:Str,atI [D.str (Str.ofString ""),D.str (Str.ofString ""),D.str (Str.ofString "room"),D.str (Str.ofString "lengthy"),D.str (Str.ofString "zzz"),D.str (Str.ofString "qx"),D.str (Str.ofString "kkkkkk"),D.str (Str.ofString "none")] Y=some (.str z)/\z.length<=7:=by
   have h:Y=0\/Y=1\/Y=2\/Y=3\/Y=4\/Y=5\/Y=6\/Y=7:=by omega
   rcases h with rfl|rfl|rfl|rfl|rfl|rfl|rfl|rfl <;> exact⟨_,rfl,by decide⟩
  have O:∀{S'},Off a S3 S'->Off a S S':=λo=>off1.trans (off2.trans (off3.trans o));refine⟨_,_,rfl,hz,?_⟩;refine⟨fun Γ' S'=>Γ'=[some (.ref a),some (.int many),some (.str lettersZ),some (.int N),some (.int J),some (.str z),none,none,none]/\Off a S S'/\Pile S' a,?_,?_⟩
  ·refine⟨a,4,rfl,dk3,by decide,by decide,λr4 S4 r40 r41 L U=>⟨rfl,_,rfl,ite2 (λc1=>?_) λc1=>⟨rfl,O L,U⟩⟩⟩
   refine⟨_,rfl,ite2 (λc2=>?_) λc2=>⟨rfl,O L,U⟩⟩;have m15:many<15:=by have:=of_decide_eq_true c2;omega
   obtain⟨x,y,hp,hnd⟩:∃x y:Nat,atI [D.str (Str.ofString "ab"),D.str (Str.ofString "qx"),D.str (Str.ofString "yz"),D.str (Str.ofString "mn")] (N%4)=some (.str ⟨#[x,y]⟩)/\(w14 x y).Nodup:=by
    have h:N%4=0\/N%4=1\/N%4=2\/N%4=3:=by omega
    rcases h with h|h|h|h <;> rw[h]
    ·exact⟨97,98,rfl,by decide +kernel⟩
    ·exact⟨113,120,rfl,by decide +kernel⟩
    ·exact⟨121,122,rfl,by decide +kernel⟩
    ·exact⟨109,110,rfl,by decide +kernel⟩
   refine⟨aQ8 (by show 4<=9999;decide),by show(0:Int)<4;decide,_,_,rfl,hp,?_⟩
   refine aQy (enc:=λc:Nat=>D.str ⟨#[c]⟩) (xs:=[x,y]) (f:=λc=>D.str (sg c++sg x)) (λc _ Q q=>⟨aQ8 (by show 2<=9999;decide),x,aQu (j:=0) rfl,aQ8 (by show 1+1<=9999;decide),q⟩) (aQ8 (by show 2<=9999;decide)) ?_
   refine aQy (enc:=λc:Nat=>D.str ⟨#[c]⟩) (xs:=[x,y]) (f:=λc=>D.str (sg c++sg y)) (λc _ Q q=>⟨aQ8 (by show 2<=9999;decide),y,aQu (j:=1) rfl,aQ8 (by show 1+1<=9999;decide),q⟩) (aQ8 (by show 2<=9999;decide)) ?_
   refine⟨_,_,rfl,rfl,aQ8 (by show 4<=9999;decide),by show 2<=1000;decide,_,_,rfl,rfl,aQ8 (by show 6<=9999;decide),(sh2 x y).map D.str,rfl,?_⟩
   refine aQy (enc:=D.str) (xs:=sh2 x y) (f:=λw=>D.str (w++sg x)) (λw hw Q q=>⟨aQ8 (by show 2<=9999;decide),x,aQu (j:=0) rfl,aQ8 (by rw[aJo w hw];show 2+1<=9999;decide),q⟩) (aQ8 (by show 4<=9999;decide)) ?_
   refine⟨_,_,rfl,rfl,aQ8 (by show 10<=9999;decide),(sh2 x y).map D.str,rfl,?_⟩
   refine aQy (enc:=D.str) (xs:=sh2 x y) (f:=λw=>D.str (w++sg y)) (λw hw Q q=>⟨aQ8 (by show 2<=9999;decide),y,aQu (j:=1) rfl,aQ8 (by rw[aJo w hw];show 2+1<=9999;decide),q⟩) (aQ8 (by show 4<=9999;decide)) ?_
   refine⟨_,_,rfl,rfl,aQ8 (by show 14<=9999;decide),_,_,rfl,rfl,aQ8 (by show 28<=9999;decide),J,rfl,J+many,rfl,_,rfl,?_⟩
   obtain⟨i,rfl⟩:∃i:Nat,J=i:=⟨J.toNat,by omega⟩
   have hi:i<8:=by omega
   have h14:(w14 x y).length=14:=rfl;have nds:=bJp (w14 x y) hnd i many (by omega) (by omega)
   have hlen:(((w14 x y++w14 x y).drop i).take many).length=many:=by rw[aV,bz,aB,h14];omega
   have sp:=aZv (((w14 x y++w14 x y).drop i).take many);refine .inl ⟨((w14 x y++w14 x y).drop i).take many,?_,_,rfl,aQi (q _ _ (sp.nodup_iff.mpr nds) (bZd _) (by rw[sp.length_eq,hlen]) (λn hn=>dXx n ((aN.mp (dY (cE (sp.mem_iff.mp hn)))).elim id id)) (O L) U)⟩
   have ec:cutD ((w14 x y++w14 x y).map D.str) (some (i:Int)) (some ((i:Int)+(many:Int)))=(((w14 x y++w14 x y).drop i).take many).map D.str:=by
    rw[cJt,show(i:Int)+(many:Int)=((i+many:Nat):Int) by omega,HT.sIx_nat,HT.sIx_nat,aB,h14,Nat.min_eq_left (by omega),Nat.min_eq_left (by omega),Nat.add_sub_cancel_left]
   exact ec.symm
  ·rintro Γ' S4 ⟨rfl,L,U⟩;refine⟨⟨by omega,by omega⟩,?_⟩
   rw[cv,dXm];refine aQy (enc:=λk:Nat=>D.int (k:Nat)) (f:=λk=>D.str (cutS z none (some J)++(⟨#[97+((N+5*(k:Int))%26).toNat]⟩:Str)++cutS z (some J) none)) (λk hk Q q=>?_) (aQ8 (by rw[ig];show 0+many<=_;omega)) ?_
   ·have hb:(N+5*(k:Int))%26=((((N+5*(k:Int))%26).toNat:Nat):Int):=by omega
    have hat:atI lettersZ.cps.toList ((N+5*(k:Int))%26)=some (97+((N+5*(k:Int))%26).toNat):=by
     rw[hb];exact cX8 (by omega)
    have l1:=bZg hzl none (some J);have l2:=bZg hzl (some J) none;have l3:(cutS z none (some J)++(⟨#[97+((N+5*(k:Int))%26).toNat]⟩:Str)).length=(cutS z none (some J)).length+1:=by
     show((cutS z none (some J)).cps++#[_]).size=_;rw[dl];rfl
    exact⟨J,rfl,by omega,.inl ⟨by decide,by decide⟩,by show(0:Int)<26;decide,by decide,_,hat,aQ8 (by show(cutS z none (some J)).length+1<=9999;omega),J,rfl,by omega,aQ8 (by rw[l3];omega),q⟩
   ·have nds:((bu many).map λk:Nat=>cutS z none (some J)++(⟨#[97+((N+5*(k:Int))%26).toNat]⟩:Str)++cutS z (some J) none).Nodup:=by
     unfold List.Nodup;rw[dq];refine iu ?_ (List.pairwise_lt_range (n:=many));intro k k' hk hk' hlt e
     have:=dXw e
     have h1:=bO.mp hk;have h2:=bO.mp hk';omega
    have sp:=aZv ((bu many).map λk:Nat=>cutS z none (some J)++(⟨#[97+((N+5*(k:Int))%26).toNat]⟩:Str)++cutS z (some J) none);refine .inl ⟨_,?_,_,rfl,aQi (q _ _ (sp.nodup_iff.mpr nds) (bZd _) (by rw[sp.length_eq,am,ig]) (λn hn=>by obtain⟨k,_,rfl⟩:=bB.mp (sp.mem_iff.mp hn);rw[bQm,bQm];show 1<=_+1+_;omega) L U)⟩
    show _=_;rw[bW];rfl
end
abbrev s_law_set:Stmt:=top 17
theorem sc_law_set:FnScope ["pile", "names", "many", "left"] ["pile", "names", "many"] (aQ3 s_law_set):=fsc
section
variable{P:aC}{w:aL}{K:ap}{mg:Str->Option ad}{base:aY}{pt cc:Addr}
theorem bJq(T:Tx K mg "_law_set" s_law_set)(B:Bs mg)(d_law_next:Df P w K mg base 1 "_law_next" ["pile", "most"] (spU K aQw)):Df P w K mg base 2 "_law_set" ["pile", "names", "many"] (spU K bQ1):=by
 refine aZk T sc_law_set (λF=>F.binds λ_ _ _ _ _ _=>us3 λ_ _ _=>rfl) ?_ λf cdv A outer s H E Y=>⟨_,(aQ2 (aQa (i:=3) sc_law_set.nd rfl (fw rfl) (dQs (b:=true) rfl B.list (aQ0 (dv 1) aQ1)))
  (aQ4 (aQf (aQo rfl B.tuple (aQ0 (aQx (b:=false) Y rfl B.sorted (aQ0 (aQs (N':=["k", "left", "pile"]) (oc:=none) (b:=false) [0] [] rfl sc_law_set.nd (λ_ _ _=>aQd ..) (.own (.cap (i:=3) rfl (by decide +kernel) (.cap (i:=0) rfl (by decide +kernel) .nil))) (aQh rfl) (aX5 rfl B.range (aQ0 (eJt rfl B.min (aQ0 (dv 2) (aQ0 (aZj rfl B.len (aQ0 (dv 1) aQ1)) aQ1))) aQ1)) (cg_name (i:=0)) (λ_ _ _ _ _=>aQe (i:=0) (nd_ ["k", "left", "pile"]) rfl (bf rfl) (.inr rfl)) (λ_ _ _ _ _=>aQr) aQl (λ_ _ _ _ _ _=>aQj rfl (by exact PD.o (dXh (dv 1) (aQ0 (aQ9 d_law_next Y rfl (aQ0 (dv 2) (aQ0 (aZj rfl B.len (aQ0 (dv 1) aQ1)) aQ1))) aQ1))))) aQ1)) aQ1))))),?_⟩
 ·rintro ds S Q ⟨a,names,many,rfl,_⟩;rfl
 ·rintro ds S Q ⟨a,names,many,rfl,dk,nd,Z,m60,q⟩;refine⟨_,rfl,λlp L=>?_⟩;have z:lp≠a:=dk.ne L;obtain⟨m,hm,mm,mn,mo⟩:∃m:Nat,(λi j:Int=>if j<i then j else i) (many:Int) ((names.map D.str).length:Int)=(m:Int)/\m<=many/\m<=names.length/\(m=many\/m=names.length):=by
   rw[am];show ∃m:Nat,(if (names.length:Int)<(many:Int) then (names.length:Int) else (many:Int))=(m:Int)/\_
   split
   ·exact⟨names.length,rfl,by omega,Nat.le_refl _,.inr rfl⟩
   ·exact⟨many,rfl,Nat.le_refl _,by omega,.inl rfl⟩
  refine⟨_,rfl,?_,?_⟩
  ·rw[hm];exact⟨by omega,by omega⟩
  rw[hm,cv];refine dQ1 z (xs:=names.map D.str) supd_same (by rw[am];exact mn) (by rw[am];omega) (dk.supd z) λvs us S' pm O hl U J=>?_
  obtain⟨as,bs,rfl,rfl,pn⟩:=cX9 (f:=D.str) dStr' (λ_=>rfl) pm;rw[am] at O;have N:as.Nodup:=(ii.mp (pn.nodup_iff.mpr nd)).1;have sp:=aZv as;refine .inl ⟨as,rfl,_,rfl,aZo (S':=sdel S' lp) cZ2 (q (srS as) _ ⟨sp.nodup_iff.mpr N,bZd as,λn h=>pn.mem_iff.mp (dg _ (sp.mem_iff.mp h)),by rw[sp.length_eq];omega⟩ (by rw[sp.length_eq];omega) (λb hb=>?_) (U.eq (aJh (cy z))))⟩
  by_cases e:b=lp
  ·subst e;rw[aJg,L]
  ·rw[aJh e,J b hb e,aQ6 e]
end
abbrev s_law_collection:Stmt:=top 18
theorem sc_law_collection:FnScope ["pile", "names", "count", "sizes", "found", "k", "one"] ["pile", "names", "count", "sizes"] (aQ3 s_law_collection):=fsc
def aZ9:SpD:=λds S Q=>∃(a:Addr) (names:List Str) (count:Nat) (sizes:List Nat) (most:Nat),ds=[.ref a,tupS names,.int count,.lst (sizes.map λk=>.int (k:Nat))]/\Pile S a/\names.Nodup/\names.length<=60/\count<=130/\sizes≠[]/\sizes.length<=99/\(∀k∈sizes,k<=most)/\most<=60 /\
 ∀(ts:List (List Str)) S',ts.Nodup->ts.Pairwise (λx y=>leT x y=true)->(∀t∈ts,SetOf names most t)->ts.length<=count->Off a S S'->Pile S' a->Q (.tup (ts.map tupS)) S'
section
variable{P:aC}{w:aL}{K:ap}{mg:Str->Option ad}{base:aY}{pt cc:Addr}
theorem aXk(T:Tx K mg "_law_collection" s_law_collection)(B:Bs mg)(d_law_next:Df P w K mg base 2 "_law_next" ["pile", "most"] (spU K aQw))(d_law_set:Df P w K mg base 2 "_law_set" ["pile", "names", "many"] (spU K bQ1)):Df P w K mg base 3 "_law_collection" ["pile", "names", "count", "sizes"] (spU K aZ9):=by
 refine aZk T sc_law_collection (λF=>F.binds λ_ _ _ _ _ _=>us4 λ_ _ _ _=>rfl) ?_ λf cdv A outer s H E hr=>⟨_,(aQ2 (aQa (i:=4) sc_law_collection.nd rfl (bf rfl) (aZa (b:=true) aQ1))
  (aQ2 (aX6 cI rfl (aX5 rfl B.range (aQ0 (dv 2) aQ1)) (aZe (i:=5) sc_law_collection.nd rfl (bf rfl)) (aQ2 (aQa (i:=6) sc_law_collection.nd rfl (bf rfl) (aQ9 d_law_set hr rfl (aQ0 (dv 0) (aQ0 (dv 1) (aQ0 (e_ix (dv 3) (aQ9 d_law_next hr rfl (aQ0 (dv 0) (aQ0 (aZj rfl B.len (aQ0 (dv 3) aQ1)) aQ1)))) aQ1)))))
  (aQ4 (aXi (dQq hr (dv 6) (dv 4)) (aQ4 (aZf (aZ8 (dv 4) (aQ0 (dv 6) aQ1)))) aQv))))
  (aQ4 (aQf (aQo rfl B.tuple (aQ0 (aQx (b:=false) hr rfl B.sorted (aQ0 (dv 4) aQ1)) aQ1)))))),?_⟩
 ·rintro ds S Q ⟨a,names,count,sizes,most,rfl,_⟩;rfl
 ·rintro ds S Q ⟨a,names,count,sizes,most,rfl,dk,nd,n60,c60,sne,s99,smost,m60,q⟩;refine⟨aQ8 (by decide),λU hfp=>⟨⟨by omega,by omega⟩,?_⟩⟩
  have O:U≠a:=dk.ne hfp;have hs1:1<=sizes.length:=by cases sizes with|nil=>exact absurd rfl sne|cons _ _=>simp
  rw[cv];refine for_ind (λi Γ S'=>∃(x5 x6:Option D) (J:List (List Str)),Γ=[some (.ref a),some (tupS names),some (.int count),some (.lst (sizes.map λk=>.int (k:Nat))),some (.ref U),x5,x6]/\S' U=some (.lst (J.map tupS))/\J.length<=i/\J.Nodup/\(∀t∈J,SetOf names most t)/\Pile S' a/\∀b,b≠a->b≠U->S' b=S b) ⟨none,none,[],rfl,supd_same,Nat.le_refl _,fR,by simp,dk.supd O,λb _ hb=>aQ6 hb⟩ ?_ ?_
  ·rintro i x Γ S' N hx ⟨x5,x6,J,rfl,hf,hl,Y,Z,dk',L⟩ hN;obtain⟨hi,rfl⟩:=cX2 hx;refine⟨trivial,_,rfl,a,_,rfl,dk',by rw[am];omega,by rw[am];omega,λr S2 r0 r1 off2 dk2=>?_⟩
   rw[am] at r1;have hr:r.toNat<sizes.length:=by omega
   have hat:atI (sizes.map λk=>D.int (k:Nat)) r=some (.int (sizes[r.toNat]:Nat)):=by
    have:=aQu (xs:=sizes.map λk=>D.int (k:Nat)) (j:=r.toNat) (v:=.int (sizes[r.toNat]:Nat)) (by rw[aK,ag hr];rfl)
    rwa [show((r.toNat:Nat):Int)=r by omega] at this
   have hsz:=smost _ (db hr);refine⟨_,_,rfl,hat,a,names,sizes[r.toNat],rfl,dk2,nd,n60,by omega,λt S3 ht _ off3 dk3=>?_⟩
   have hf3:S3 U=some (.lst (J.map tupS)):=(off3 U O).trans ((off2 U O).trans hf);have ht':SetOf names most t:=⟨ht.1,ht.2.1,ht.2.2.1,Nat.le_trans ht.2.2.2 hsz⟩;have offA:∀b,b≠a->b≠U->S3 b=S b:=λb h1 h2=>(off3 b h1).trans ((off2 b h1).trans (L b h1 h2));refine⟨J.map tupS,hf3,aJm J,by rw[fN,bI];exact λx _=>dQ0 x t,_,rfl,?_⟩
   have e:decide (tupS t∈J.map tupS)=decide (t∈J):=decide_eq_decide.mpr cJz;rw[if_pos rfl,e]
   by_cases hin:t∈J
   ·rw[decide_eq_true hin];exact hN _ _ ⟨_,_,J,rfl,hf3,by omega,Y,Z,dk3,offA⟩
   ·rw[decide_eq_false hin];refine⟨⟨_,hf3⟩,_,hf3,by rw[am,aW];omega,hN _ _ ⟨_,_,J++[t],rfl,?_,?_,?_,?_,dk3.supd O,λb h1 h2=>(aQ6 h2).trans (offA b h1 h2)⟩⟩
    ·rw[supd_same,bq];rfl
    ·rw[aB];show J.length+1<=_;omega
    ·rw[ii];exact⟨Y,cG.mpr ⟨by simp,fR⟩,λx hx y hy=>by rw[aU.mp hy];rintro rfl;exact hin hx⟩
    ·intro z hz;rcases aN.mp hz with hz|hz
     ·exact Z z hz
     ·rw[aU.mp hz];exact ht'
  ·rintro Γ S' ⟨x5,x6,J,rfl,hf,hl,Y,Z,dk',L⟩;rw[aZt] at hl;have sp:=aX7 J;refine⟨trivial,.inr (.inr ⟨J,.inl hf,_,rfl,aZo (S':=sdel S' U) cZ2 (q (srT J) _ (sp.nodup_iff.mpr Y) (cZu J) (λt h=>Z t (sp.mem_iff.mp h)) (by rw[sp.length_eq];exact hl) (λb hb=>?_) (dk'.eq (aJh (cy O))))⟩)⟩
   by_cases e:b=U
   ·subst e;rw[aJg,hfp]
   ·rw[aJh e,L b hb e]
end
end Toy
namespace L2
open PySem PySem.Spec PyProof.Rows
structure TabF(base:aY)(mg:Str->Option ad)(c P:Addr):Prop where
 hd:PySem.W.CodeHd base c P
 bm:∃bm ob,mg "__builtins__"=some (.ref bm)/\bm≠gI/\base.get? bm=some ob/\ob.cls=.type "module"/\ob.dict=some gI/\ob.data=.plain
def Grow(P:Addr)(lp:Pos)(qual:Str)(ps:Array ad)(H H':Hp):Prop:=H'=H \/
 ∃c oc vs t,H c=none/\c≠P/\H'=upd (upd H P (.tbl (ps++#[d4 lp.line,d4 lp.col,.ref c]))) c (cdO c oc)/\oc.data=.fields vs/\vs[1]?=some (.str qual t)/\gF lp ps.toList=none
def fQb(H:Hp)(P:Addr)(lp:Pos)(qual:Str)(c:Addr):Prop:=∃ps oc vs t,H P=some (.tbl ps)/\gF lp ps.toList=some (.ref c)/\H c=some (cdO c oc)/\oc.data=.fields vs/\vs[1]?=some (.str qual t)
def TbV(H:Hp)(lp:Pos)(qual:Str)(ps:Array ad):Prop:=TriplesOk ps.toList/\(gF lp ps.toList=none\/∃c oc,gF lp ps.toList=some (.ref c)/\H c=some (cdO c oc)/\∃vs t,oc.data=.fields vs/\vs[1]?=some (.str qual t))
section
variable{X:Cx}{pins:List (Addr×Obj)}{σ:St}{H:Hp}{s:ah}{E:ad->ah->Prop}
theorem dQ2{c P:Addr}{ps:Array ad}{qual:Str}{lp:Pos}{params:Arguments}{body:Expr}{scope:Scope}{clos:List (Str×Addr)}{Q:ad->ah->Prop}(I:Inv X pins σ H s)(hP:H P=some (.tbl ps))(tb:TbV H lp qual ps)
  (hcode:X.env.code=.ref c) (T:TabF X.base X.mg c P) (hq:X.env.qual ++ "<lambda>"=qual) (hcl:gQ scope X.env=pure clos) (hdef:defaultsOf params X.env=([],[]))
  (h:∀f c' pm ctv H' s',Inv X pins σ H' s'->Grow P lp qual ps H H'->s'.heap.get? f=some (i8 "<lambda>" qual params body scope clos pm c' ctv)->s'.heap.CodeRec (.ref c') qual->fQb H' P lp qual c'->s.heap.objs.size<=f->H' f=none->Q (.ref f) s') :
  aF (az X.prog X.w) X.A (eval (.Lambda params body scope lp) X.env) Q E s:=by
 obtain⟨J,tb⟩:=tb;obtain⟨bm,ob,b1,b2,b3,b4,b5,b6⟩:=T.bm;have hPh:s.heap.get? P=some (fT ps):=I.hok P _ hP;have nP:∀b o,X.base.get? b=some o->b≠P:=λb o e z=>by
  have:=(I.bs b o e).2
  rw[z,hP] at this;cases this
 have hgP:aP≠P:=by
  obtain⟨o,es,ep,e,_⟩:=I.mod.glob;exact nP _ _ e
 have hbG:bm≠aP:=λq=>by
  obtain⟨o,es,ep,e,hd,_⟩:=I.mod.glob;rw[q,e] at b3;cases b3;rw[hd] at b6;cases b6
 have BA:s.heap.BuiltinsAt X.mg P:=⟨bm,ob,b1,b2,hbG,nP _ _ b3,I.bk _ _ b3,b4,b5,b6⟩;refine PySem.W.kla_eval hdef ?_;rw[hq];rcases tb with hn|⟨c',oc,hf,hc,U,t,d1,d2⟩
 ·refine PySem.W.kla_makeFunction hcl I.ok.glob (I.mod.glob.keeps I.bk) hcode (T.hd.keeps I.bk) hPh J hn hgP BA λc' ctv h' tk hx D L hrec Y=>?_;obtain⟨c2,oc,U,t,e2,j,hd,hv⟩:=hrec;cases e2;have hfr:H c'=none:=I.hok.fresh D;have N:c'≠P:=λz=>by rw[z,hP] at hfr;cases hfr
  have bP:∀b,H b=none->b≠P:=λb e z=>by rw[z,hP] at e;cases e
  have bc:∀b u,H b=some u->b≠c':=λb u e z=>by rw[z,hfr] at e;cases e
  have lc:∀b o,s.heap.get? b=some o->b≠c':=λb o e=>Nat.ne_of_lt (Nat.lt_of_lt_of_le (aD e) D);have hfo:H h'.objs.size=none:=I.hok.fresh (Nat.le_trans D (Nat.le_of_lt L));have kk:∀(fo:Obj) b o,b≠P->s.heap.get? b=some o->(h'.push fo).get? b=some o:=λfo b o n e=>ae _ (hx b o n e);refine h _ c' _ ctv (upd (upd H P (.tbl (ps++#[d4 lp.line,d4 lp.col,.ref c']))) c' (cdO c' oc)) _ (I.un ⟨?_,?_,?_,?_,?_,?_,?_⟩ ?_) (.inr ⟨c',oc,U,t,hfr,N,rfl,hd,hv,hn⟩) (ax _ rfl) ⟨c',oc,U,t,rfl,ae _ j,hd,hv⟩ ⟨_,oc,U,t,by rw[upd_ne (cy N),aQ7],by simpa using codeAmong_snoc (c:=.ref c') _ J hn,aQ7,hd,hv⟩ (Nat.le_trans D (Nat.le_of_lt L)) ?_
  ·exact λb o e n _ _=>kk _ b o (bP b n) e
  ·exact λb o e n _ _=>⟨o.slots,kk _ b o (bP b n) e⟩
  ·exact λb o e n _=>by rw[upd_ne (lc b o e),upd_ne (bP b n)];exact n
  ·intro b o e _
   by_cases z:b=P
   ·subst z;exact⟨_,ae _ Y⟩
   ·exact⟨o,kk _ b o z e⟩
  ·intro b xs e;have z:b≠P:=λz=>by rw[z,hP] at e;cases e
   rw[upd_ne (bc b _ e),upd_ne z];exact e
  ·intro b o u e;have z:b≠P:=λz=>by rw[z,hP] at e;cases e
   rw[upd_ne (bc b _ e),upd_ne z];exact e
  ·intro b qs e
   by_cases z:b=P
   ·subst z;rw[hP] at e;cases e;exact⟨_,by rw[upd_ne (cy N),aQ7]⟩
   ·exact⟨#[],by rw[upd_ne (bc b _ e),upd_ne z,e];simp⟩
  ·intro b u e
   by_cases z1:b=c'
   ·subst z1;rw[aQ7] at e;cases e;exact⟨ae _ j,⟨_,ae _ j⟩,λh1 h2 q k=>k _ q⟩
   ·rw[upd_ne z1] at e
    by_cases z2:b=P
    ·subst z2;rw[aQ7] at e;cases e;exact ae _ Y
    ·rw[upd_ne z2] at e;refine(I.hok b u e).stay (λO o' hb' e'=>?_) (λO e'=>?_) (λO xs e'=>?_)
     ·refine kk _ O o' ?_ e';rcases hb' with z|z
      ·rw[z];exact z2
      ·intro B;rw[B,hP] at z;cases z
     ·have B:O≠P:=λB=>by rw[B,hP] at e';cases e'
      rw[upd_ne (bc O _ e'),upd_ne B];exact e'
     ·have B:O≠P:=λB=>by rw[B,hP] at e';cases e'
      rw[upd_ne (bc O _ e'),upd_ne B];exact e'
  ·rw[upd_ne (Nat.ne_of_gt L),upd_ne (λz=>by rw[z,hP] at hfo;cases hfo)];exact hfo
 ·refine PySem.W.kla_makeFunctionHit hcl I.ok.glob (I.mod.glob.keeps I.bk) hcode (T.hd.keeps I.bk) hPh J hf BA λctv h' tk hk Z=>?_;have k2:∀(fo:Obj) b o,s.heap.get? b=some o->(h'.push fo).get? b=some o:=λfo b o e=>ae _ (hk b o e);have j:s.heap.get? c'=some oc:=(I.hok c' _ hc).1;exact h _ c' _ ctv H _ (I.kept (k2 _)) (.inl rfl) (ax _ rfl) ⟨c',oc,U,t,rfl,k2 _ _ _ j,d1,d2⟩ ⟨ps,oc,U,t,hP,hf,hc,d1,d2⟩ Z (I.hok.fresh Z)
end
section
variable{K:Fg}{F:Am}{S:Sto}{H H':Hp}{P:Addr}{lp:Pos}{qual:Str}{ps:Array ad}
theorem Rp.tb(r:Rp K F S H)(h:S P=some (.tb lp qual)):∃ps,H P=some (.tbl ps)/\TbV H lp qual ps:=by
 obtain⟨ps,e,h1,h2⟩:=r.obj P _ h;exact⟨ps,e,h1,h2.imp id λ⟨c,oc,z,_,j⟩=>⟨c,oc,z,j⟩⟩
theorem Grow.ext(g:Grow P lp qual ps H H')(r:Rp K F S H)(h:S P=some (.tb lp qual))(hP:H P=some (.tbl ps))(tr:TriplesOk ps.toList):Ext S H S H'/\Rp K F S H':=by
 rcases g with rfl|⟨c,oc,L,t,B,D,rfl,U,O,N⟩
 ·exact⟨Ext.refl _ _,r⟩
 ·have ne:∀a o,H a=some o->a≠c:=λa o e z=>by rw[z,B] at e;cases e
  have x:Ext S H S (upd (upd H P (.tbl (ps++#[d4 lp.line,d4 lp.col,.ref c]))) c (cdO c oc)):=by
   refine⟨λa o h1 h2=>?_,λa ha=>?_,λa ha=>.inl ha⟩
   ·have z:a≠P:=λz=>by rw[z,h] at h1;cases h1
    rw[upd_ne (ne a o h2),upd_ne z];exact h2
   ·by_cases j:a=c
    ·rw[j,aQ7];exact λz=>by cases z
    ·rw[upd_ne j]
     by_cases J:a=P
     ·rw[J,aQ7];exact λz=>by cases z
     ·rw[upd_ne J];exact ha
  refine⟨x,λa o ha=>?_,λa ha=>?_⟩
  ·by_cases z:a=P
   ·subst z;rw[h] at ha;cases ha;refine⟨_,by rw[upd_ne (cy D),aQ7],?_,.inr ⟨c,oc,?_,?_,aQ7,L,t,U,O⟩⟩
    ·simpa using TriplesOk_snoc _ _ _ _ tr
    ·simpa using codeAmong_snoc (c:=.ref c) _ tr N
    ·rintro(z|z)
     ·exact z (r.sn B)
     ·obtain⟨⟨u,e,_⟩,_⟩:=r.frm c z;rw[B] at e;cases e
   ·have q:=r.obj a o ha;refine q.keep x.kp ?_;have j:a≠c:=λj=>by rw[j] at q;exact q.live B
    rw[upd_ne j,upd_ne z]
  ·obtain⟨⟨u,e,ct⟩,h2⟩:=r.frm a ha;have z:a≠P:=λz=>by rw[z,h] at h2;cases h2
   exact⟨⟨u,by rw[upd_ne (ne a u e),upd_ne z];exact e,ct⟩,h2⟩
end
section
variable{P:aC}{w:aL}{K:ap}{mg:Str->Option ad}{base:aY}{k:Nat}
def bZi(K:ap)(mg:Str->Option ad)(x:Str)(c:Addr):Prop:=∀(f:Addr) (o:Obj) (fd:cR),mg x=some (.ref f)->K.lookup f=some o->o.data=.func fd->fd.code=.ref c
theorem eXm{x:Str}{st:Stmt}{N ps:List Str}{sp:SpD}{c:Addr}(T:Tx K mg x st)(C:bZi K mg x c)(S:FnScope N ps (aQ3 st))
  (b:∀{f:Addr}{fd:cR},Fun K x x st f fd->Binds K fd ps []) (len:∀ds S Q,sp ds S Q->ds.length=ps.length)
  (h:∀ (f:Addr) (A:aO) (outer:List Env) (s:ah) (H:Hp) (E:XK),Room k (A.deeper (gN x (aQ3 st) s.heap.objs.size f (.ref c))) ->
   ∃t,PSsD K (cxOf CX0 P w K mg base N x (aQ3 st) f (.ref c) A outer s H E).nox (aQz st) t/\∀ds S Q,sp ds S Q->t (bX5 Q) (aXm N ds) S):Df P w K mg base (k+1) x ps (spU K sp):=by
 obtain⟨f,fd,U,m⟩:=T.ex;refine⟨f,fd,?_,b U,U.kp,m⟩;obtain⟨oc,od,kV,doc,pm,an,O,ct,osl,rfl,lk,L⟩:=U.ex;obtain rfl:O=.ref c:=C f _ _ m lk rfl;refine eQd lk L S (λZ H Q E B=>by obtain⟨F,S,ds,QD,r,l,j,c⟩:=B;rw[l.length];exact len ds S QD j) (λA outer s H Z Q E' hr B=>?_)
 obtain⟨F,S,ds,QD,r,l,j,c⟩:=B;obtain⟨t,h1,h2⟩:=h f A outer s H E' hr;have fin:∀v d H' S',Ext S H S' H'->Rp K F S' H'->RepV K (mt S' F) H' d v->rtD QD d S'->Q v H':=λv d H' S' D z v1 Y=>by
  obtain⟨d',S2,J,fz,q⟩:=Y;exact c v d' H' S2 (D.trans (Ext.less J)) (z.less J) ((cZs z J fz).1 v v1) q
 exact⟨_,h1.o.nox,F,S,aXm N ds,bX5 QD,r,bQg l,h2 ds S QD j,fun Γ' S' σ' H' D z g1 q=>fin .non .non H' S' D z (by unfold RepV;rfl) q,fin,λ_ _ _ _ _ _ _ q=>q.elim,λ_ _ _ _ _ _ _ q=>q.elim⟩
end
section
variable{prog:aC}{w:aL}{A:aO}{R:Result->ah->Prop}{q a I S:Addr}{n:Nat}{kf:Nat->Int}{Pv:Nat->ad->Prop}{G:ah->Prop}
abbrev gB(kf:Nat->Int):Nat->Nat->Bool:=λi j=>decide (kf i>kf j)
structure Mx(prog:aC)(w:aL)(A:aO)(q a I S:Addr)(n:Nat)(kf:Nat->Int)(Pv:Nat->ad->Prop)(G:ah->Prop):Prop where
 hh:A.in1.handled=none
 aI:a≠I
 SI:S≠I
 tup:∀s,G s->∃its:List ad,s.heap.IsTuple a its.toArray/\its.length=n/\∀(i:Nat) v,its[i]?=some v->Pv i v
 keep:∀(s:ah) h' tk',G s->(∀b o,b≠I->b≠S->s.heap.get? b=some o->h'.get? b=some o)->G {s with heap:=h',toks:=tk'}
 turn:∀i v (s:ah) oI oS,Pv i v->G s->s.heap.get? I=some oI->s.heap.get? S=some oS->aF (az prog w) A.in1 (call (.ref q) [v]) (λx s'=>G s'/\(∃t,x=.int (kf i) t)/\s'.heap.get? I=some oI/\s'.heap.get? S=some oS) (λ_ _=>False) s
theorem Mx.loop(M:Mx prog w A q a I S n kf Pv G)(fin:∀v s,Pv (cM (gB kf) (n-1)) v->G s->R (.ok (.ret v)) s) :
  ∀(left j:Nat) (s:ah) (vb:ad) (tb:Tok) (c:Nat),j+1+left=n->G s->s.heap.IsTupleIter I a (j+1)->Pv (cM (gB kf) j) vb->s.heap.get? S=some (be "list" #[vb,.int (kf (cM (gB kf) j)) tb] c) ->
   eF (az prog w) A (.builtin "max.loop" ⟨[.ref I,.ref q,.ref S],[]⟩) R s:=by
 have word:(toString "max"++toString ".loop":String)="max.loop":=by decide
 intro left
 induction left with
 |zero =>
  intro j s vb tb c hj g it hb L;obtain⟨its,Z,hl,hp⟩:=M.tup s g;have W:=jh (prog:=prog) (w:=w) (A:=A.in1) M.hh I a M.aI its.toArray;have e:its.toArray.size=j+1:=by simp;omega
  rw[e] at W;refine cH F.entry_max_loop ?_;rw[bH F.plain_max_loop _];show aF (az prog w) A.in1 (seqItems? (.ref S)>>=_) _ _ s;refine aa (fM L rfl ?_);show aF (az prog w) A.in1 (ji (fj (.ref I)) _>>=_) _ _ s;refine aa (eU (W.done s _ _ ⟨it,Z⟩ λh1 z J=>?_));have D:=J S _ (by simpa using M.SI) L
  show aF (az prog w) A.in1 (updateSeq S (λ_=>#[])>>=_) _ _ _;refine aa ?_;refine eB D rfl (aa (ij (af (fin vb _ ?_ ?_))))
  ·have e:n-1=j:=by omega
   rw[e];exact hb
  ·exact M.keep s _ z g λb o hI hS e=>(a7 _ _ (cy hS)).trans (J b o (by simpa using hI) e)
 |succ left ih =>
  intro j s vb tb c hj g it hb L;obtain⟨its,Z,hl,hp⟩:=M.tup s g;have W:=jh (prog:=prog) (w:=w) (A:=A.in1) M.hh I a M.aI its.toArray;refine cH F.entry_max_loop ?_;rw[bH F.plain_max_loop _];show aF (az prog w) A.in1 (seqItems? (.ref S)>>=_) _ _ s;refine aa (fM L rfl ?_);show aF (az prog w) A.in1 (ji (fj (.ref I)) _>>=_) _ _ s;refine aa (eU (W.item (j+1) s _ _ (by simp;omega) ⟨it,Z⟩ λv h1 z hv O J=>?_))
  have D:=J S _ (by simpa using M.SI) L
  have g1:=M.keep s h1 z g λb o hI _ e=>J b o (by simpa using hI) e
  obtain⟨U,i1,i2,i3⟩:=O.1;have pv:Pv (j+1) v:=hp _ _ (by simpa using hv)
  show aF (az prog w) A.in1 (ji (fg [v] (call (.ref q) [v])) _>>=_) _ _ _;refine aa (eU (bM (cr (M.turn (j+1) v _ U _ pv g1 i1 D) (λx s2 he=>?_) λ_ _ hF=>hF.elim)));obtain⟨g2,⟨tx,rfl⟩,i4,B⟩:=he;have Y:s2.heap.IsTupleIter I a (j+1+1):=⟨U,i4,i2,i3⟩;show aF (az prog w) A.in1 (ji (fg [v,.int (kf (j+1)) tx] (richCompare .Gt (.int (kf (j+1)) tx) (.int _ tb)>>=_)) _>>=_) _ _ _;refine aa (eU (bM (aa (CmpOf.ints_gt (prog:=prog) (w:=w) (A:=A.in1) (P:=λi v=>∃t,v=.int (kf i) t) kf (λi v h=>h) (j+1) (cM (gB kf) j) _ _ _ _ _ ⟨tx,rfl⟩ ⟨tb,rfl⟩ ?_))));refine aa (bM (cW (aa (ij (af ?_)))));show aF (az prog w) A.in1 (if decide (kf (j+1)>kf (cM (gB kf) j))=true then _ else _) _ _ _
  cases e:decide (kf (j+1)>kf (cM (gB kf) j)) with
  |true =>
   rw[if_pos rfl];refine aa ?_;refine eB B rfl (aa (ij ?_));rw[word];have hs3:(s2.heap.update S (ba λ_=>#[v,.int (kf (j+1)) tx])).get? S=some (be "list" #[v,.int (kf (j+1)) tx] _):=dR B λ_=>#[v,.int (kf (j+1)) tx];have N:cM (gB kf) (j+1)=j+1:=by simp only[cM,gB,e,if_true]
   refine af ⟨cV F.plain_max_loop _,ih (j+1) _ v tx _ (by omega) (M.keep s2 _ s2.toks g2 λb o _ hS e=>(a7 _ _ (cy hS)).trans e) ⟨U,(a7 _ _ M.SI).trans i4,i2,i3⟩ (by rw[N];exact pv) (by rw[N];exact hs3)⟩
  |false =>
   rw[if_neg (by simp)]
   refine aa (ij ?_);rw[word];have N:cM (gB kf) (j+1)=cM (gB kf) j:=by simp only[cM,gB,e,cA,if_false]
   refine af ⟨cV F.plain_max_loop _,ih (j+1) s2 vb tb c (by omega) g2 Y (by rw[N];exact hb) (by rw[N];exact B)⟩
theorem cXa{E:ad->ah->Prop}{Q:ad->ah->Prop}{s:ah}(M:Mx prog w A q a s.heap.objs.size (s.heap.objs.size+1) n kf Pv G)(hn:0<n)(g:G s)(fin:∀v s,Pv (cM (gB kf) (n-1)) v->G s->Q v s) :
  aF (az prog w) A (call (.builtin "max") [.ref a] [(Str.ofString "key",.ref q)]) Q E s:=by
 have word:(toString "max"++toString ".loop":String)="max.loop":=by decide
 obtain⟨its,L,hl,hp⟩:=M.tup s g;refine kmk_tree F.kind_max F.plain_max F.entry_max (kmk_max_key _ _) ?_;have bp:gA "max" ["key", "default"] 0 ⟨[],[(Str.ofString "key",.ref q)]⟩=pure [some (.ref q),none]:=rfl;show aF (az prog w) A.in1 (gA "max" ["key", "default"] 0 ⟨[],[(Str.ofString "key",.ref q)]⟩>>=_) _ _ s;refine aa (wpAny_of_eq bp ?_);show aF (az prog w) A.in1 (pure (c9 a)>>=λitems=>pyIter items>>=_) _ _ s;refine aa (af ?_);refine aa (gY L ?_);refine aa (bd ?_);rw[word];have hal:a<s.heap.objs.size:=let ⟨_,ho,_⟩:=L;aD ho
 let h0:=s.heap.push {cls:=.type "tuple_iterator",data:=.fields #[.ref a,.int 0 0]}
 have hz:h0.objs.size=s.heap.objs.size+1:=d5 _ _;show aF (az prog w) A.in1 (again (Code.builtin "max.loop" ⟨[.ref s.heap.objs.size,.ref q,.ref h0.objs.size],[]⟩)) _ _ {s with heap:=h0.push (be "list" #[] 0)}
 have z:(h0.push (be "list" #[] 0)).get? (s.heap.objs.size+1)=some (be "list" #[] 0):=by rw[<- hz];exact ax _ rfl
 have Z:∀b o,s.heap.get? b=some o->(h0.push (be "list" #[] 0)).get? b=some o:=λb o e=>ae _ (ae _ e);have J:(h0.push (be "list" #[] 0)).IsTupleIter s.heap.objs.size a 0:=⟨_,ae _ (ax _ rfl),rfl,rfl⟩;rw[hz];have W:=jh (prog:=prog) (w:=w) (A:=A.in1) M.hh s.heap.objs.size a M.aI its.toArray;refine af ⟨cV F.plain_max_loop _,cH F.entry_max_loop ?_⟩;rw[bH F.plain_max_loop _];show aF (az prog w) A.in1 (seqItems? (.ref (s.heap.objs.size+1))>>=_) _ _ {s with heap:=h0.push (be "list" #[] 0)}
 refine aa (fM z rfl ?_);show aF (az prog w) A.in1 (ji (fj (.ref s.heap.objs.size)) _>>=_) _ _ {s with heap:=h0.push (be "list" #[] 0)}
 refine aa (eU (W.item 0 _ _ _ (by simp;omega) ⟨J,L.at λo e=>Z _ o e⟩ λv h1 B hv D Y=>?_))
 have O:=Y (s.heap.objs.size+1) _ (by simp) z
 have g1:=M.keep s h1 B g λb o hI _ e=>Y b o (by simpa using hI) (Z b o e)
 obtain⟨U,i1,i2,i3⟩:=D.1;have pv:Pv 0 v:=hp _ _ (by simpa using hv)
 show aF (az prog w) A.in1 (ji (fg [v] (call (.ref q) [v])) _>>=_) _ _ _;refine aa (eU (bM (cr (M.turn 0 v _ U _ pv g1 i1 O) (λx s2 he=>?_) λ_ _ hF=>hF.elim)));obtain⟨g2,⟨tx,rfl⟩,i4,j⟩:=he;show aF (az prog w) A.in1 (updateSeq (s.heap.objs.size+1) (λ_=>#[v,.int (kf 0) tx])>>=_) _ _ _;refine aa ?_;refine eB j rfl ?_;rw[word];have N:(s2.heap.update (s.heap.objs.size+1) (ba λ_=>#[v,.int (kf 0) tx])).get? (s.heap.objs.size+1)=some (be "list" #[v,.int (kf 0) tx] _):=dR j λ_=>#[v,.int (kf 0) tx];exact af ⟨cV F.plain_max_loop _,M.loop (R:=wants Q E) fin (n-1) 0 _ v tx _ (by omega) (M.keep s2 _ s2.toks g2 λb o _ hS e=>(a7 _ _ (cy hS)).trans e) ⟨U,(a7 _ _ M.SI).trans i4,i2,i3⟩ pv N⟩
end
def dQ3(X:Cx)(s:ah)(H:Hp)(env:Env)(x:Str):Cx:={X with A:=X.A.in1.deeper env,N:=x::X.N,s₀:=s,H₀:=H,env:=env,outer:=X.stack,stack:=env::X.stack,ex:=[],calm:=true,fn:=λ_=>false,pn:=[],xe:=λ_ _=>False}
structure LamOk(X:Cx)(x z:Str)(scope:Scope)(c:Addr):Prop where
 kind:scope.kind=.function
 co:scope.isCoroutine=false
 gen:scope.isGenerator=false
 par:scope.names.lookup x=some .local
 all:∀p∈scope.names,p.2≠.cell/\(p.2=.local->p.1=x)/\(p.2=.free->p.1=z)
 xN:x∉X.N
 fr:X.env.cells.lookup z=some c
 zc:X.env.kindOf z=some .cell
abbrev bQn(x:Str)(p:Pos):Arguments:={posonlyargs:=[],args:=[{arg:=x,annotation:=none,pos:=p}],vararg:=none,kwonlyargs:=[],kw_defaults:=[],kwarg:=none,defaults:=[]}
abbrev bJ0(scope:Scope)(L f c':Addr)(z:Str)(c:Addr)(qual:Str):Env:=newEnv scope L aP [(z,c)] (qual ++ ".<locals>.") (some f) (.ref c') none gI
section
variable{X:Cx}{pins:List (Addr×Obj)}{σ:St}{H:Hp}{s:ah}
theorem dXy{x z:Str}{scope:Scope}{c c' f:Addr}{qual:Str}{v:ad}{pv:V}{h1:aY}{tk:Tok}(O:LamOk X x z scope c)(hc:X.calm=true)(I:Inv X pins σ H s)(rv:RelV pv v)
  (hn:h1.Ns s.heap.objs.size (λy=>[(x,v)].reverse.lookup y)) (hs:dw s.heap.objs.size (s.heap.push {cls:=.type "frame",data:=.dict #[]}) h1) :
  Inv (dQ3 X s H (bJ0 scope s.heap.objs.size f c' z c qual) x) [] (some pv::σ) H {s with heap:=h1,toks:=tk}:=by
 have J:∀b o,s.heap.get? b=some o->h1.get? b=some o:=λb o e=>hs.extBut b o (Nat.ne_of_lt (aD e)) (ae _ e);have one:∀y d,[(z,c)].lookup y=some d->y=z/\d=c:=λy d e=>by
  rw[ci] at e
  split at e
  ·rename_i q;cases e;exact⟨fY q,rfl⟩
  ·cases e
 obtain⟨m,m1,Z⟩:=I.loc;have j:∀ y k,scope.names.lookup y=some k->k≠.cell/\(k=.local->y=x)/\(k=.free->y=z):=λy k e=>O.all (y,k) (du e);refine⟨⟨I.ok.mod,O.kind,rfl,rfl,Nat.le_refl _,λy Y d h h'=>?_,λy D=>?_,λy d h=>(nomatch h),λ_=>I.ok.hd hc,Around.frames_deeper (show X.A.in1.frames=some X.stack from I.ok.frames),I.ok.gd,.inr ⟨rfl,rfl⟩,λb h=>(nomatch h),I.bs,Nat.le_trans I.ok.bsz I.sz,λb o _ h=>(nomatch h),λb h=>(nomatch h),I.stack,I.stkFree⟩,
  rfl,I.bare,Un.kept J,⟨_,hn,λi y w h1 h2 h3=>?_⟩,λy d h=>?_,I.hok.fresh (Nat.le_refl _),λy d h=>?_,λp hp=>(nomatch hp),I.hok.kept J,?_⟩
 ·rw[(one y d h).1,(one Y d h').1]
 ·rcases D with D|D
  ·exact absurd rfl (j y _ D).1
  ·obtain rfl:=(j y _ D).2.2 rfl;exact⟨c,fX ..⟩
 ·cases i with
  |zero =>
   have e1:x=y:=aM h1;have e2:pv=w:=aM (aM h2);subst e1 e2;exact⟨v,rv,.inl ⟨O.par,fX ..⟩⟩
  |succ i =>
   have h1:X.N[i]?=some y:=h1;have h2:σ[i]?=some (some w):=h2;have L:scope.names.lookup y=some .free/\y=z:=by
    rcases h3 with q|q|q
    ·exact absurd (ao h1) (by rw[(j y _ q).2.1 rfl];exact O.xN)
    ·exact absurd rfl (j y _ q).1
    ·exact⟨q,(j y _ q).2.2 rfl⟩
   obtain⟨q,rfl⟩:=L;obtain⟨u,r,l⟩:=Z i y w h1 h2 (.inr (.inl O.zc));rcases l with⟨l,_⟩|⟨_,d,hd,B⟩
   ·rw[O.zc] at l;cases l
   ·rw[O.fr] at hd;cases hd;obtain⟨o,U,hd⟩:=B;exact⟨u,r,.inr ⟨.inr q,c,fX ..,o,J _ _ U,hd⟩⟩
 ·obtain⟨rfl,rfl⟩:=one y d h;obtain⟨w,o,U,hw⟩:=I.cell _ _ O.fr;exact⟨w,o,J _ _ U,hw⟩
 ·obtain⟨rfl,rfl⟩:=one y d h;exact I.freeC _ _ O.fr
 ·show σ.length+1=X.N.length+1;rw[I.len]
theorem dXz{x z:Str}{scope:Scope}{c c' f:Addr}{qual:Str}{v pm ctv:ad}{pv:V}{body:Expr}{p0:Pos}{t:TE}{Q:VK}(O:LamOk X x z scope c)(hc:X.calm=true)(hroom:X.A.in1.depth<gL)(I:Inv X pins σ H s)
  (ho:s.heap.get? f=some (i8 "<lambda>" qual (bQn x p0) body scope [(z,c)] pm c' ctv)) (hcd:s.heap.CodeRec (.ref c') qual) (rv:RelV pv v)
  (hbd:∀(c':Addr) (f:Addr) (pm ctv v:ad),bindArgs (jj "<lambda>" qual (bQn x p0) body scope [(z,c)] pm (.ref c') ctv) ⟨[v],[]⟩=pure [(x,v)])
  (hb:∀L,PE (dQ3 X s H (bJ0 scope L f c' z c qual) x) body t) (q:t (some pv::σ) H Q) :
  aF (az X.prog X.w) X.A.in1 (call (.ref f) [v]) (CE X.stack X.prog X.w H s Q) (λ_ _=>False) s:=by
 refine wpAny_call (PySem.W.kla_callFunE hroom ho rfl O.co O.gen rfl hcd ?_);have j:=hbd c' f pm ctv v;rw[j];refine af (wpAny_newFunctionEnv (λy D=>(O.all y D).1) (λy D=>by rw[aU.mp D];exact O.par) (λh1 Y U=>?_) O.kind)
 have J:=dXy (tk:=s.toks+1) (f:=f) (c':=c') (qual:=qual) O hc I rv Y U;refine⟨J.nolimit,PySem.W.kla_codeExpr ?_⟩;refine cr (hb _ [] _ _ _ Q J q) (λu s' ⟨y,H',B,r,N⟩=>?_) λ_ _ z=>cX z;exact⟨y,H',B.os,B.bare,B.base,B.hok,r,N⟩
end
section
variable{X:Cx}{pins:List (Addr×Obj)}{σ:St}{H:Hp}{s:ah}
theorem Inv.turned2{h':aY}{t':Nat}{i j:Addr}(I:Inv X pins σ H s)(k:∀b o,b≠i->b≠j->s.heap.get? b=some o->h'.get? b=some o)(hi:H i=none)(hj:H j=none)
  (ai:X.s₀.heap.objs.size<=i/\i≠X.env.locals/\(∀x c,X.env.cells.lookup x=some c->c≠i)/\∀p∈X.pn++pins,p.1≠i) (aj:X.s₀.heap.objs.size<=j/\j≠X.env.locals/\(∀x c,X.env.cells.lookup x=some c->c≠j)/\∀p∈X.pn++pins,p.1≠j):Inv X pins σ H {s with heap:=h',toks:=t'}:=by
 have J:∀b u,H b=some u->b≠i/\b≠j:=λb u e=>⟨λz=>(by rw[z,hi] at e;cases e),λz=>(by rw[z,hj] at e;cases e)⟩
 have go:∀b o,b∉[i,j]->s.heap.get? b=some o->h'.get? b=some o:=λb o B=>k b o (λz=>B (by simp[z])) (λz=>B (by simp[z]))
 refine I.call (d':=s.drawn) (g':=s.gens) (ch:=[i,j]) ⟨λb o e _ _ B=>go b o B e,λb o e _ _ B=>⟨o.slots,go b o B e⟩,λ_ _ _ n _=>n,λb o e B=>⟨o,go b o B e⟩,λ_ _ e=>e,λ_ _ _ e=>e,λ_ ps e=>⟨#[],by rw[e];simp⟩⟩ (λb u e=>?_) I.bare λb D=>?_
 ·refine(I.hok b u e).stay (λc v B q=>?_) (λ_ q=>q) λ_ _ q=>q
  have:c≠i/\c≠j:=by
   rcases B with z|z
   ·rw[z];exact J b u e
   ·exact J c _ z
  exact k c v this.1 this.2 q
 ·rcases aQ.mp D with rfl|D
  ·exact⟨.inr ai.1,ai.2⟩
  ·rw[aU.mp D];exact⟨.inr aj.1,aj.2⟩
theorem Inv.fresh4(I:Inv X pins σ H s){b:Addr}(h:s.heap.objs.size<=b):X.s₀.heap.objs.size<=b/\b≠X.env.locals/\(∀x c,X.env.cells.lookup x=some c->c≠b)/\∀p∈X.pn++pins,p.1≠b:=by
 refine⟨Nat.le_trans I.sz h,λz=>?_,λx c e z=>?_,λp j z=>?_⟩
 ·have:=I.lt
  exact absurd (Nat.lt_of_lt_of_le this h) (by rw[z];exact Nat.lt_irrefl _)
 ·obtain⟨v,o,B,_⟩:=I.cell x c e;exact absurd (Nat.lt_of_lt_of_le (aD B) h) (by rw[z];exact Nat.lt_irrefl _)
 ·exact absurd (Nat.lt_of_lt_of_le (aD (I.pin p j).1) h) (by rw[z];exact Nat.lt_irrefl _)
theorem Inv.nostack(I:Inv X pins σ H s){b:Addr}(h:s.heap.objs.size<=b):b∉frs X.stack:=λz=>by
 rcases aQ.mp (I.stkSub b z) with e|e
 ·exact(I.fresh4 h).2.1 e
 ·exact I.nofs h e
end
section
variable{X:Cx}{K:Fg}{pos:Pos}{k:Nat}
def fQc(K:Fg)(P:Addr)(lp:Pos)(qual:Str)(te tb:TE):TE:=fun σ H Q=>te σ H λx H1=>∃ps,H1 P=some (.tbl ps)/\TbV H1 lp qual ps/\∀H2,Grow P lp qual ps H1 H2 ->
 ∃(a:Addr) (us:List V) (kf:Nat->Int) (Gd:Hp->Prop),x=.ref a/\us≠[]/\Gd H2/\(∀H3,Gd H3->SqT K H3 a us)/\(∀H3 c oc ps,Gd H3->H2 P=some (.tbl ps)->gF lp ps.toList=some (.ref c)->H2 c=some (cdO c oc)->H3 c=some (cdO c oc)) /\
  (∀H3 (i:Nat) u,Gd H3->us[i]?=some u->tb (some u::σ) H3 λy H4=>y=.int (kf i)/\Gd H4)/\∀H3 u,Gd H3->us[cM (gB kf) (us.length-1)]?=some u->Q u H3
theorem dJ0{e body:Expr}{c cP P:Addr}{qual x z:Str}{scope:Scope}{p p0 lp kp:Pos}{te tb:TE}(hr:Room k X.A)(hg:Gl X "max")(hm:X.mg "max"=none)(he:PE X e te)(hcode:X.env.code=.ref cP)(T:TabF X.base X.mg cP P)(hq:X.env.qual ++ "<lambda>"=qual)
  (O:LamOk X x z scope c) (hcl:gQ scope X.env=pure [(z,c)])
  (hbd:∀(c' f:Addr) (pm ctv v:ad),bindArgs (jj "<lambda>" qual (bQn x p0) body scope [(z,c)] pm (.ref c') ctv) ⟨[v],[]⟩=pure [(x,v)])
  (hb:∀s H L f c',PE (dQ3 X s H (bJ0 scope L f c' z c qual) x) body tb) (hK:X.K=K:=by rfl) (hc:X.calm=true:=by rfl)
  (g1:bZ pos (av [e] X.env)=[(false,eval e X.env)]:=by rfl) (g2:(gP pos (eO [⟨some "key",.Lambda (bQn x p0) body scope lp,kp⟩] X.env)).filterMap (·.1)=[("key":Str)]:=by rfl) :
  PE X (.Call (.Name "max" p) [e] [⟨some "key",.Lambda (bQn x p0) body scope lp,kp⟩] pos) (fQc K P lp qual te tb):=by
 subst hK;intro pins s σ H Q I h;refine fq (ld_blt I hg hm (show bg "max"=some (.builtin "max") from rfl) ?_ (by decide) (by decide))
 have h3:(bZ pos (av [e] X.env)).any (·.1)=false:=by rw[g1];rfl
 have h4:bZ pos (av [e] X.env)=(false,eval e X.env)::bZ pos (av [] X.env):=by rw[g1];rfl
 refine callWith_kw ?_ h4 h3 rfl rfl;rw[g1,g2];refine fm (thn (he pins s σ H _ I h) λv s1 ⟨y,H1,I1,r1,ps,hP,tb,q1⟩=>hX ?_);refine kws_cons (dQ2 I1 hP tb hcode T hq hcl rfl λf c' pm ctv H2 s2 D gr ho hcr it hf hfn=>kws_nil ?_);obtain⟨a,us,kf,Gd,rfl,ne,g2,gt,gc,gtu,gf⟩:=q1 H2 gr;cases r1;have hh:X.A.in1.handled=none:=by simp[D.ok.hd hc]
 obtain⟨ps',oc,vs',t',i1,i2,i3,i4,i5⟩:=it;have zI:=D.fresh4 (Nat.le_refl _);have zS:=D.fresh4 (Nat.le_succ _);have fI:=D.hok.fresh (Nat.le_refl _);have fS:=D.hok.fresh (Nat.le_succ _);have lf:f<s2.heap.objs.size:=aD ho;have nss:∀b,s2.heap.objs.size<=b->b∉frs X.stack:=λb=>D.nostack;obtain⟨its0,rv0,pl0,_⟩:=D.tuple (gt H2 g2);have ha:a<s2.heap.objs.size:=let ⟨_,ho,_⟩:=pl0;aD ho
 refine cXa (n:=us.length) (kf:=kf) (Pv:=λi v=>∃u,us[i]?=some u/\RelV u v) (G:=λs3=>∃j,Inv X pins σ j s3/\Gd j/\s3.heap.get? f=some (i8 "<lambda>" qual (bQn x p0) body scope [(z,c)] pm c' ctv)/\j f=none/\j s2.heap.objs.size=none/\j (s2.heap.objs.size+1)=none)
  ⟨hh,Nat.ne_of_lt ha,Nat.succ_ne_self _,?_,?_,?_⟩ (cY.mpr ne) ⟨H2,D,g2,ho,hfn,fI,fS⟩ ?_
 ·rintro s3 ⟨j,B,g3,_⟩;obtain⟨its,N,pl,_⟩:=B.tuple (gt j g3);refine⟨its,pl,N.length.symm,λi v hv=>?_⟩;have hi:=(aE.mp hv).1;obtain⟨w,h1,h2⟩:=N.get (ag (show i<us.length by rw[N.length];exact hi))
  rw[hv] at h1;cases h1;exact⟨_,ag (show i<us.length by rw[N.length];exact hi),h2⟩
 ·rintro s3 h' tk' ⟨j,B,g3,U,f3,Z,Y⟩ hk;exact⟨j,B.turned2 hk Z Y zI zS,g3,hk f _ (Nat.ne_of_lt lf) (Nat.ne_of_lt (Nat.lt_succ_of_lt lf)) U,f3,Z,Y⟩
 ·rintro i v s3 oI oS ⟨u,hu,ru⟩ ⟨j,B,g3,U,f3,Z,Y⟩ eI eS;have hoc:s3.heap.get? c'=some oc:=(B.hok c' _ (gc j c' oc ps' g3 i1 i2 i3)).1;refine cr (dXz (Q:=λy J=>y=.int (kf i)/\Gd J) O hc (show X.A.depth<gL from hr.depth) B U ⟨c',oc,vs',t',rfl,hoc,i4,i5⟩ ru hbd (λL=>hb _ _ L f c') (gtu j i u g3 hu)) (λx s4 ce=>?_) λ_ _ z=>z
  obtain⟨y,J,os,bare,un,hok,r,rfl,g4⟩:=ce;have kp:∀b o,s2.heap.objs.size<=b\/b=f->s3.heap.get? b=some o->j b=none->s4.heap.get? b=some o/\J b=none:=λb o hb e n=>by
   refine⟨un.keep b o e n (λz=>?_) (by simp),un.free b o e n (by simp)⟩
   rcases hb with hb|rfl
   ·exact nss b hb z
   ·exact I1.nostack hf z
  have k1:=kp _ _ (.inr rfl) U f3;have k2:=kp _ _ (.inl (Nat.le_refl _)) eI Z;have k3:=kp _ _ (.inl (Nat.le_succ _)) eS Y;have I4:Inv X pins σ J s4:=B.call' (ch:=[]) os un hok bare (λb hb=>(nomatch hb))
  exact⟨⟨J,I4,g4,k1.1,k1.2,k2.2,k3.2⟩,let ⟨t,e⟩:=(show ∃t,x=gC (kf i) t from r);⟨t,e⟩,k2.1,k3.1⟩
 ·rintro v s3 ⟨u,hu,ru⟩ ⟨j,B,g3,_⟩;exact⟨u,j,B,ru,gf j u g3 hu⟩
def fQd(P:Addr)(lp:Pos)(qual:Str)(te tb:ED):ED:=fun Γ S Q=>te Γ S λd S1=>S1 P=some (.tb lp qual)/\∃(xs:List D) (kf:Nat->Int),d=.tup xs/\xs≠[]/\(∀(i:Nat) x,xs[i]?=some x->tb (some x::Γ) S1 λy S2=>y=.int (kf i)/\S2=S1)/\∀x,xs[cM (gB kf) (xs.length-1)]?=some x->Q x S1
theorem eXn{e body:Expr}{c cP P:Addr}{qual x z:Str}{scope:Scope}{p p0 lp kp:Pos}{te tb:ED}(hr:Room k X.A)(hg:Gl X "max")(hm:X.mg "max"=none)(T:TabF X.base X.mg cP P)(he:PD K X e te)
  (O:LamOk X x z scope c) (hb:∀s H L f c',PD K (dQ3 X s H (bJ0 scope L f c' z c qual) x) body tb) (hcode:X.env.code=.ref cP:=by rfl) (hq:X.env.qual ++ "<lambda>"=qual:=by rfl) (hcl:gQ scope X.env=pure [(z,c)]:=by rfl)
  (hbd:∀(c' f:Addr) (pm ctv v:ad),bindArgs (jj "<lambda>" qual (bQn x p0) body scope [(z,c)] pm (.ref c') ctv) ⟨[v],[]⟩=pure [(x,v)]:=by intros;rfl) (hK:X.K=K:=by rfl) (hc:X.calm=true:=by rfl)
  (g1:bZ pos (av [e] X.env)=[(false,eval e X.env)]:=by rfl) (g2:(gP pos (eO [⟨some "key",.Lambda (bQn x p0) body scope lp,kp⟩] X.env)).filterMap (·.1)=[("key":Str)]:=by rfl) :
  PD K X (.Call (.Name "max" p) [e] [⟨some "key",.Lambda (bQn x p0) body scope lp,kp⟩] pos) (fQd P lp qual te tb) :=
 .of (dJ0 hr hg hm he.o hcode T hq O hcl hbd (λs H L f c'=>(hb s H L f c').o) hK hc g1 g2) fun σ H Q z0=>z0.el λF S Γ QD r g q c =>
  ⟨F,S,Γ,_,r,g,q,λv d H1 J x1 r1 v1 z1=>by
   obtain⟨hS,xs,kf,rfl,ne,turn,q1⟩:=z1;obtain⟨ps,hP,tb⟩:=r1.tb hS;refine⟨ps,hP,tb,λH2 gr=>?_⟩;obtain⟨U,r2⟩:=gr.ext r1 hS hP tb.1;have v2:=v1.ext U;unfold RepV at v2;obtain⟨a,us,rfl,ta,l⟩:=v2;have g2:=(g.ext x1).ext U;have c2:=Cn.shift c (x1.trans U);refine⟨a,us,kf,λB=>Ext J H2 J B/\Rp K F J B,rfl,λz=>ne (bL (by rw[<- l.length,z];rfl)),⟨Ext.refl _ _,r2⟩,?_,?_,?_,?_⟩
   ·rintro B ⟨j,D⟩;exact(ta.keep j.kp).sq
   ·rintro B c oc ps' ⟨j,D⟩ h1 h2 h3;obtain⟨ps2,e1,_,h⟩:=r2.obj P _ hS;rw[h1] at e1;cases e1;rcases h with h|⟨c1,oc1,e2,nm,e3,_⟩
    ·rw[h2] at h;cases h
    ·rw[h2] at e2;cases e2;refine j.keep c _ ?_ h3;cases e:J c with
     |none=>rfl
     |some o=>exact absurd (.inl (by rw[e];exact λz=>by cases z)) nm
   ·rintro B i u ⟨j,D⟩ Z;obtain⟨xd,N,Y⟩:=l.get' Z;exact⟨F,J,some xd::Γ,_,D,⟨u,σ,rfl,Y.ext j,g2.ext j⟩,turn i xd N,λv d H4 S4 x4 r4 v4 ⟨ed,es⟩=>by
     subst ed es;unfold RepV at v4;exact⟨v4,j.trans x4,r4⟩⟩
   ·rintro B u ⟨j,D⟩ Z;obtain⟨xd,N,Y⟩:=l.get' Z;rw[l.length] at N;exact(Cn.shift c2 j).here D (Y.ext j) (q1 xd N)⟩
end
end L2
namespace Toy
variable{α:Type}
end Toy
namespace Toy
variable{α:Type}
end Toy
namespace Toy
variable{β:Type}[DecidableEq β]
theorem sorted_eq{lt:β->β->Prop}(irr:∀a,¬ lt a a)(asy:∀a b,lt a b->¬ lt b a):∀{l m:List β},l.Pairwise lt->m.Pairwise lt->(∀n,n∈l↔n∈m)->l=m
 |[],[],_,_,_=>rfl
 |[],b::m,_,_,h=>by have:=(h b).mpr aA;simp at this
 |a::l,[],_,_,h=>by have:=(h a).mp aA;simp at this
 |a::l,b::m,L,hm,h=>by
  obtain⟨la,D⟩:=bD.mp L;obtain⟨J,B⟩:=bD.mp hm;have e:a=b:=by
   rcases aQ.mp ((h a).mp aA) with z|z
   ·exact z
   ·rcases aQ.mp ((h b).mpr aA) with y|y
    ·exact y.symm
    ·exact absurd (J a z) (asy _ _ (la b y))
  subst e
  congr 1
  refine sorted_eq irr asy D B λn=>⟨λj=>?_,λj=>?_⟩
  ·rcases aQ.mp ((h n).mp (au _ j)) with z|z
   ·subst z;exact absurd (la n j) (irr n)
   ·exact z
  ·rcases aQ.mp ((h n).mpr (au _ j)) with z|z
   ·subst z;exact absurd (J n j) (irr n)
   ·exact z
end Toy
namespace Toy
variable{α β:Type}
end Toy
namespace L2
open PySem
abbrev Srt(t:List Str):Prop:=t.Pairwise λa b=>HT.ltS a b=true
abbrev SrtT(ts:List (List Str)):Prop:=ts.Pairwise λa b=>HT.lexS a b=true
theorem Srt.ext{l m:List Str}(hl:Srt l)(hm:Srt m)(h:∀n,n∈l↔n∈m):l=m :=
 Toy.sorted_eq (lt:=λa b=>HT.ltS a b=true) (λa=>by rw[HT.ltS_ir];simp) (λa b h=>by rw[HT.ltS_as h];simp) hl hm h
theorem Srt.nodup{t:List Str}(h:Srt t):t.Nodup:=h.imp λ{a b} h e=>by subst e;rw[HT.ltS_ir] at h;cases h
theorem SrtT.nodup{t:List (List Str)}(h:SrtT t):t.Nodup:=h.imp λ{a b} h e=>by subst e;rw[bXu] at h;cases h
theorem dQw{t:List Str}(nd:t.Nodup)(h:t.Pairwise λx y=>leS x y=true):Srt t:=by
 induction t with
 |nil=>exact .nil
 |cons a t z =>
  rw[bD] at h;rw[cG] at nd;refine bD.mpr ⟨λb j=>?_,z nd.2 h.2⟩
  have:=h.1 b j
  unfold leS at this;rw[bR] at this;exact HT.ltS_tot this λe=>nd.1 (by rw[<- e];exact j)
theorem cXb{t:List (List Str)}(nd:t.Nodup)(h:t.Pairwise λx y=>leT x y=true):SrtT t:=by
 induction t with
 |nil=>exact .nil
 |cons a t z =>
  rw[bD] at h;rw[cG] at nd;refine bD.mpr ⟨λb j=>?_,z nd.2 h.2⟩
  have:=h.1 b j
  unfold leT at this;rw[bR] at this;exact HT.lexS_tot this λe=>nd.1 (by rw[<- e];exact j)
theorem dJ1{l:List Str}(nd:l.Nodup):Srt (srS l):=dQw ((aZv l).nodup_iff.mpr nd) (bZd l)
theorem dJ2{l:List (List Str)}(nd:l.Nodup):SrtT (srT l):=cXb ((aX7 l).nodup_iff.mpr nd) (cZu l)
theorem dJ3{l:List Str}{x:Str}:x∈srS l↔x∈l:=(aZv l).mem_iff
theorem dJ4{l:List (List Str)}{x:List Str}:x∈srT l↔x∈l:=(aX7 l).mem_iff
def dd{α:Type}[DecidableEq α]:List α->List α
 |[]=>[]
 |x::xs=>if x∈xs then dd xs else x::dd xs
theorem mem_dd{α:Type}[DecidableEq α]{x:α}:∀{l:List α},x∈dd l↔x∈l
 |[]=>Iff.rfl
 |y::l=>by
  unfold dd
  split
  ·next h =>
   rw[mem_dd,aQ];exact⟨.inr,λz=>z.elim (λe=>by rw[e];exact h) id⟩
  ·rw[aQ,aQ,mem_dd]
theorem bQo{α:Type}[DecidableEq α]:∀l:List α,(dd l).Nodup
 |[]=>fR
 |y::l=>by
  unfold dd
  split
  ·exact bQo l
  ·next h=>exact cG.mpr ⟨λz=>h (mem_dd.mp z),bQo l⟩
def nms(ts:List (List Str)):List Str:=srS (dd ts.flatten)
theorem bQp(ts:List (List Str)):Srt (nms ts):=dJ1 (bQo _)
theorem mem_nms{ts:List (List Str)}{x:Str}:x∈nms ts↔∃t∈ts,x∈t:=by
 unfold nms;rw[dJ3,mem_dd,dF]
theorem eXo{ts:List (List Str)}{out:List Str}(h:Srt out)(m:∀x,x∈out↔∃t∈ts,x∈t):out=nms ts:=h.ext (bQp ts) λn=>(m n).trans mem_nms.symm
def mts{α:Type}[DecidableEq α](one row:List α):Bool:=row.any λd=>decide (d∈one)
def has{α:Type}[DecidableEq α](one row:List α):Bool:=row.all λd=>decide (d∈one)
theorem mts_iff{α:Type}[DecidableEq α]{one row:List α}:mts one row=true↔∃x∈row,x∈one:=by unfold mts;simp
theorem has_iff{α:Type}[DecidableEq α]{one row:List α}:has one row=true↔∀x∈row,x∈one:=by unfold has;simp
def wo{α:Type}[DecidableEq α](one row:List α):List α:=one.filter λd=>!decide (d∈row)
theorem mem_wo{α:Type}[DecidableEq α]{one row:List α}{x:α}:x∈wo one row↔x∈one/\x∉row:=by unfold wo;rw[cF];simp
def lnk(ts:List (List Str))(row:List Str):List (List Str):=srT ((ts.filter λt=>has t row).map λt=>wo t row)
end L2
set_option maxHeartbeats 4000000
namespace L2
open PySem
structure Enc(α:Type) where
 e:α->D
 inj:∀{x y},e x=e y->x=y
 pl:∀x,plain (e x)=true
 dep:Nat
 ok:∀n x y,dep<=n->okE n (e x) (e y)=true
 lt:α->α->Bool
 okl:∀n x y,dep<=n->okL n (e x) (e y)=true
 lte:∀n x y,dep<=n->ltN n (e x) (e y)=lt x y
def lexG{α:Type}[DecidableEq α](lt:α->α->Bool):List α->List α->Bool
 |[],[]=>false
 |[],_::_=>true
 |_::_,[]=>false
 |x::xs,y::ys=>if x=y then lexG lt xs ys else lt x y
def strE:Enc Str where
 e:=D.str
 inj:=λh=>by injection h
 pl:=λ_=>rfl
 dep:=0
 ok:=λn x y _=>by cases n <;> rfl
 lt:=HT.ltS
 okl:=λn x y _=>by cases n <;> rfl
 lte:=λn x y _=>by cases n <;> rfl
def tupE{α:Type}[DecidableEq α](E:Enc α):Enc (List α) where
 e:=λl=>.tup (l.map E.e)
 inj:=λ{x y} h=>by
  injection h with h
  exact bQl (λa b e=>E.inj e) h
 pl:=λl=>by
  show aQt (l.map E.e)=true
  induction l with
  |nil=>rfl
  |cons x l ih=>show(plain (E.e x)&&aQt (l.map E.e))=true;rw[E.pl,ih];rfl
 dep:=E.dep+1
 ok:=λn x y h=>by
  obtain⟨m,rfl⟩:∃m,n=m+1:=⟨n-1,by lia⟩
  show((x.map E.e).zip (y.map E.e)).all (λp=>okE m p.1 p.2)=true;rw[List.zip_map,fN,bI];exact λp _=>E.ok m p.1 p.2 (by lia)
 lt:=lexG E.lt
 okl:=λn x y h=>by
  obtain⟨m,rfl⟩:∃m,n=m+1:=⟨n-1,by lia⟩
  show okLs (okL m) m (x.map E.e) (y.map E.e)=true
  induction x generalizing y with
  |nil=>cases y <;> rfl
  |cons a x ih =>
   cases y with
   |nil=>rfl
   |cons b y =>
    show(okE m (E.e a) (E.e b)&&(if E.e a=E.e b then okLs (okL m) m (x.map E.e) (y.map E.e) else okL m (E.e a) (E.e b)))=true
    rw[E.ok m a b (by lia),ga]
    split
    ·exact ih y
    ·exact E.okl m a b (by lia)
 lte:=λn x y h=>by
  obtain⟨m,rfl⟩:∃m,n=m+1:=⟨n-1,by lia⟩
  show lexN (ltN m) (x.map E.e) (y.map E.e)=lexG E.lt x y
  induction x generalizing y with
  |nil=>cases y <;> rfl
  |cons a x ih =>
   cases y with
   |nil=>rfl
   |cons b y =>
    show(if E.e a=E.e b then lexN (ltN m) (x.map E.e) (y.map E.e) else ltN m (E.e a) (E.e b))=if a=b then lexG E.lt x y else E.lt a b
    by_cases hab:a=b
    ·subst hab;rw[if_pos rfl,if_pos rfl];exact ih y
    ·rw[if_neg λz=>hab (E.inj z),if_neg hab];exact E.lte m a b (by lia)
abbrev setE:Enc (List Str):=tupE strE
abbrev flE:Enc (List (List Str)):=tupE setE
section
variable{α:Type}[DecidableEq α]{E:Enc α}
theorem bJ1:∀l:List α,aQt (l.map E.e)=true
 |[]=>rfl
 |x::l=>by show(plain (E.e x)&&aQt (l.map E.e))=true;rw[E.pl,bJ1 l];rfl
theorem fQe{x:α}{l:List α}:E.e x∈l.map E.e↔x∈l:=by
 rw[bB];exact⟨λ⟨y,h,e⟩=>by rw[<- E.inj e];exact h,λh=>⟨x,h,rfl⟩⟩
theorem in_e{neg:Bool}{x:α}{l:List α}[dm:Decidable (x∈l)]{d:D}{S:Sto}{Q:DK}(hE:E.dep<=8)(hd:sqIs S d (l.map E.e))(q:Q (.bl (if neg then !decide (x∈l) else decide (x∈l))) S):inD neg (E.e x) d S Q:=by
 refine⟨l.map E.e,hd,bJ1 l,by rw[fN,bI];exact λy _=>E.ok 8 y x hE,?_⟩
 rw[decide_eq_decide.mpr (fQe (E:=E) (x:=x) (l:=l))];exact q
theorem in_t{neg:Bool}{x:α}{l:List α}[dm:Decidable (x∈l)]{d:D}{S:Sto}{Q:Bool->Sto->Prop}(hE:E.dep<=8)(hd:sqIs S d (l.map E.e))(q:Q (if neg then !decide (x∈l) else decide (x∈l)) S):inD neg (E.e x) d S (λd S1=>∃b,d=.bl b/\Q b S1):=in_e hE hd ⟨_,rfl,q⟩
end
def fzIs(d:D)(xs:List D):Prop:=d=.tup xs\/d=.lst xs
theorem fzIs.sq{S:Sto}{d:D}{xs:List D}(h:fzIs d xs):sqIs S d xs:=by rcases h with rfl|rfl <;> rfl
end L2
namespace Toy
open PySem L2
def bJ2:SpD:=λds S Q=>∃(α:Type) (_:DecidableEq α) (E:Enc α) (one row:List α) (d1 d2:D),ds=[d1,d2]/\E.dep<=4/\fzIs d1 (one.map E.e)/\fzIs d2 (row.map E.e)/\row.length<=9999/\Q (.bl (mts one row)) S
def bQ2:SpD:=λds S Q=>∃(α:Type) (_:DecidableEq α) (E:Enc α) (one row:List α) (d1 d2:D),ds=[d1,d2]/\E.dep<=4/\fzIs d1 (one.map E.e)/\fzIs d2 (row.map E.e)/\row.length<=9999/\Q (.bl (has one row)) S
def aZh:SpD:=λds S Q=>∃(α:Type) (_:DecidableEq α) (E:Enc α) (one row:List α) (d1 d2:D),ds=[d1,d2]/\E.dep<=4/\fzIs d1 (one.map E.e)/\fzIs d2 (row.map E.e)/\one.length<=9999/\Q (.tup ((wo one row).map E.e)) S
end Toy
namespace L2
open PySem
theorem Srt.filter{l:List Str}(h:Srt l)(p:Str->Bool):Srt (l.filter p):=List.Pairwise.filter p h
end L2
namespace Toy
open PySem L2
end Toy
namespace L2
open PySem
end L2
namespace Toy
open PySem L2
end Toy
namespace L2
open PySem
end L2
namespace Toy
open PySem L2
end Toy
namespace L2
open PySem
end L2
namespace Toy
open PySem L2
end Toy
namespace L2
open PySem
open Toy
theorem eXp{P:Prop}[Decidable P](h:P):D.bl (if false=true then !decide P else decide P)=D.bl true:=by rw[decide_eq_true h];rfl
end L2
namespace L2
open PySem
open Toy
theorem bJ3(ts:List (List Str))(i:Nat):cutD (ts.map tupS) none (some (i:Int))=(ts.take i).map tupS:=by
 show((ts.map tupS).drop 0).take (HT.sIx (ts.map tupS).length (ts.map tupS).length (some ((i:Nat):Int))-0)=_;rw[HT.sIx_nat,jg,Nat.sub_zero,List.map_take];rcases Nat.le_total i (ts.map tupS).length with h|h
 ·rw[Nat.min_eq_left h]
 ·rw[Nat.min_eq_right h,cT,bQ h]
end L2
set_option maxHeartbeats 1000000
namespace L2
open PySem
def chF:List (List Str)->List (List Str)->List (List Str)
 |acc,[]=>acc
 |acc,t::ts=>chF (if acc.any (λo=>mts t o)=true then acc else acc++[t]) ts
def chs(ts:List (List Str)):List (List Str):=chF [] ts
def hmh(ts:List (List Str))(n:Str):Nat:=(ts.filter λt=>decide (n∈t)).length
def mst(ts:List (List Str))(ns:List Str):Str:=ns.getD (cM (gB λi=>(hmh ts (ns.getD i ⟨#[]⟩):Int)) (ns.length-1)) ⟨#[]⟩
def nmW(ts:List (List Str)):Str:=mst ts (nms (chs ts))
def goW(m:Nat)(ts:List (List Str)):Bool:=decide ((chs ts).length<m)&&(chs ts).any λt=>!t.isEmpty
def wayS(m:Nat):Nat->List (List Str)->List (Nat×Str×Nat)×List (List Str)
 |0,ts=>([],ts)
 |f+1,ts=>if goW m ts=true then (((chs ts).length,nmW ts,ts.length)::(wayS m f (lnk ts [nmW ts])).1,(wayS m f (lnk ts [nmW ts])).2) else ([],ts)
def tkW(r:List (Nat×Str×Nat)×List (List Str)):List Str:=r.1.map λs=>s.2.1
def pag(cs:List (List Str))(tk:List Str):List (List Str):=srT (cs.map λt=>srS (t++tk))
def flW(m:Nat)(r:List (Nat×Str×Nat)×List (List Str)):Option (List (List Str)):=if (chs r.2).length<m then none else some (pag ((chs r.2).take m) (tkW r))
def stD(s:Nat×Str×Nat):D:=.tup [.int (s.1:Nat),.str s.2.1,.int (s.2.2:Nat)]
def laD(us:List (List Str)):D:=.tup [.int ((chs us).length:Nat),.non,.int (us.length:Nat)]
def trD(r:List (Nat×Str×Nat)×List (List Str)):D:=.tup (r.1.map stD++[laD r.2])
def opT:Option (List (List Str))->D
 |none=>.non
 |some l=>.tup (l.map tupS)
def wayD(m:Nat)(ts:List (List Str)):D:=.tup [opT (flW m (wayS m 6 ts)),trD (wayS m 6 ts)]
def Ap2(l:List (List Str)):Prop:=l.Pairwise λa b=>∀x∈a,x∉b
theorem bXa:∀(ts acc:List (List Str)),∃l,chF acc ts=acc++l/\l.Sublist ts
 |[],acc=>⟨[],(bY acc).symm,.slnil⟩
 |t::ts,acc=>by
  unfold chF
  split
  ·obtain⟨l,e,h⟩:=bXa ts acc;exact⟨l,e,h.cons t⟩
  ·obtain⟨l,e,h⟩:=bXa ts (acc++[t]);exact⟨t::l,by rw[e,aS];rfl,h.cons₂ t⟩
theorem aZp(ts:List (List Str)):(chs ts).Sublist ts:=by
 obtain⟨l,e,h⟩:=bXa ts [];unfold chs;rw[e];exact h
theorem cXc:∀(ts acc:List (List Str)),Ap2 acc->Ap2 (chF acc ts)
 |[],_,h=>h
 |t::ts,acc,h=>by
  unfold chF
  split
  ·exact cXc ts acc h
  ·next D =>
   refine cXc ts _ (aZ.mpr ⟨h,b8 _ _,λa J b z x B j=>D ?_⟩);rw[aU] at z;subst z;exact eX.mpr ⟨a,J,mts_iff.mpr ⟨x,B,j⟩⟩
theorem eXq(ts:List (List Str)):Ap2 (chs ts):=cXc ts [] .nil
theorem dJ5{l:List (List Str)}(h:Ap2 l)(hs:∀t∈l,t.Nodup):l.flatten.Nodup:=by
 induction l with
 |nil=>exact fR
 |cons t l B =>
  have h':=bD.mp h;rw[fO,ii];refine⟨hs t aA,B h'.2 λu z=>hs u (au _ z),λx J y D e=>?_⟩;obtain⟨u,z,j⟩:=dF.mp D;exact h'.1 u z x J (e▸j)
theorem bJ4{ts:List (List Str)}(he:∀t∈ts,Srt t):(chs ts).flatten.length<=(nms ts).length:=by
 have nd:=dJ5 (eXq ts) λt z=>(he t ((aZp ts).subset z)).nodup;refine nd.length_le_of_subset λx B=>?_;obtain⟨t,z,j⟩:=dF.mp B;exact mem_nms.mpr ⟨t,(aZp ts).subset z,j⟩
theorem bQq(bt:Nat->Nat->Bool):∀n,cM bt n<=n
 |0=>Nat.le_refl 0
 |n+1=>by
  have:=bQq bt n
  unfold cM
  split <;> omega
theorem dJ6{ts:List (List Str)}{ns:List Str}(h:ns≠[]):mst ts ns∈ns:=by
 have j:0<ns.length:=cY.mpr h
 have:=bQq (gB λi=>(hmh ts (ns.getD i ⟨#[]⟩):Int)) (ns.length-1)
 unfold mst;rw[ak,ag (by omega)]
 exact db _
theorem dJ7{m:Nat}{ts:List (List Str)}(h:goW m ts=true):nms (chs ts)≠[]:=by
 unfold goW at h;rw[a4] at h;obtain⟨t,j,hne⟩:=eX.mp h.2;cases t with
 |nil=>cases hne
 |cons x t =>
  intro e
  have:x∈nms (chs ts):=mem_nms.mpr ⟨_,j,aA⟩
  rw[e] at this;cases this
structure Wc(k:Nat)(ts:List (List Str)):Prop where
 srt:SrtT ts
 each:∀t∈ts,Srt t/\t.length<=k
 len:ts.length<=130
 nms:(nms ts).length<=60
theorem eXr{t:List Str}(h:Srt t)(r:List Str):Srt (wo t r):=h.filter _
theorem dJ8{ts:List (List Str)}{n:Str}(nd:ts.Nodup)(hs:∀t∈ts,Srt t):((ts.filter λt=>has t [n]).map λt=>wo t [n]).Nodup:=by
 unfold List.Nodup;rw[dq];refine iu ?_ (nd.filter _);intro a b L D z e;obtain⟨L,J⟩:=cF.mp L;obtain⟨D,B⟩:=cF.mp D;refine z ((hs a L).ext (hs b D) λy=>?_)
 by_cases j:y∈[n]
 ·exact⟨λ_=>has_iff.mp B y j,λ_=>has_iff.mp J y j⟩
 ·have:=mem_wo (one:=a) (row:=[n]) (x:=y)
  rw[e,mem_wo] at this;exact⟨λh=>(this.mpr ⟨h,j⟩).1,λh=>(this.mp ⟨h,j⟩).1⟩
theorem mem_lnk{ts:List (List Str)}{r u:List Str}:u∈lnk ts r↔∃t∈ts,has t r=true/\wo t r=u:=by
 unfold lnk;rw[dJ4,bB];exact⟨λ⟨t,h,e⟩=>⟨t,(cF.mp h).1,(cF.mp h).2,e⟩,λ⟨t,h1,h2,e⟩=>⟨t,cF.mpr ⟨h1,h2⟩,e⟩⟩
theorem has1{t:List Str}{n:Str}:has t [n]=true↔n∈t:=by rw[has_iff];simp
theorem eXs{t:List Str}{n:Str}(h:n∈t)(nd:t.Nodup):(wo t [n]).length+1=t.length:=by
 have e:wo t [n]=t.erase n:=by
  rw[nd.erase_eq_filter];unfold wo;refine ik λx _=>?_
  by_cases j:x=n
  ·subst j;simp
  ·simp[j]
 rw[e,List.length_erase_of_mem h]
 have:=List.length_pos_of_mem h
 omega
theorem Wc.link{k:Nat}{ts:List (List Str)}(h:Wc (k+1) ts)(n:Str):Wc k (lnk ts [n]) where
 srt:=dJ2 (dJ8 h.srt.nodup λt j=>(h.each t j).1)
 each:=λu B=>by
  obtain⟨t,j,D,rfl⟩:=mem_lnk.mp B;refine⟨eXr (h.each t j).1 _,?_⟩
  have:=eXs (has1.mp D) (h.each t j).1.nodup
  have:=(h.each t j).2
  omega
 len:=by
  unfold lnk;rw[(aX7 _).length_eq,am];exact Nat.le_trans (List.length_filter_le _ _) h.len
 nms:=Nat.le_trans ((bQp _).nodup.length_le_of_subset λx J=>by
  obtain⟨u,B,z⟩:=mem_nms.mp J;obtain⟨t,j,D,rfl⟩:=mem_lnk.mp B;exact mem_nms.mpr ⟨t,j,(mem_wo.mp z).1⟩) h.nms
theorem cXd{m:Nat}{ts:List (List Str)}(h:Wc 0 ts):goW m ts=false:=by
 unfold goW;rw[Bool.and_eq_false_iff];refine .inr (fD.mpr λt j=>?_)
 have:=(h.each t ((aZp ts).subset j)).2
 rw[fA.mp (show t.length=0 by omega)];simp
theorem bZj{m f:Nat}{ts:List (List Str)}(h:goW m ts=false):wayS m f ts=([],ts):=by
 cases f with
 |zero=>rfl
 |succ f=>show(if goW m ts=true then _ else _)=_;rw[h];rfl
theorem cXe{m f:Nat}{ts:List (List Str)}(h:goW m ts=true):wayS m (f+1) ts=(((chs ts).length,nmW ts,ts.length)::(wayS m f (lnk ts [nmW ts])).1,(wayS m f (lnk ts [nmW ts])).2):=by
 show(if goW m ts=true then _ else _)=_
 rw[h];rfl
theorem dJ9{α:Type}{i:Nat}{te:ED}{Γ0:Gm}{S:Sto}{G:Sto->Prop}{Q:List D->Sto->Prop}{enc:α->D}{f:α->D}{xs:List α}{acc:List D}(hG:G S)(h:∀x∈xs,∀Q:DK,Q (f x) S->te (Γ0.set i (some (enc x))) S Q)(hn:acc.length+xs.length<=sizeLine)
  (q:Q (acc++xs.map f) S):aZ1 (aZ7 i) dYes (aXj te) G Γ0 (xs.map enc) acc S Q:=by
 induction xs generalizing acc with
 |nil=>exact⟨hG,by simpa using q⟩
 |cons x xs z =>
  refine⟨hG,?_⟩;show aXj te (Γ0.set i (some (enc x))) S acc (λj J=>aZ1 (aZ7 i) dYes (aXj te) G Γ0 (xs.map enc) j J Q);rw[b7] at hn;refine h x aA _ ⟨by omega,z (λy B=>h y (au _ B)) (by simp;omega) (by simpa using q)⟩
theorem bZk{S:Sto}{b:Bool}{k:Bool->Prop}(h:k b):truD S (.bl b) k:=h
theorem cXf{b:Bool}{A B:Prop}(h:b=true->A)(h':b=false->B):if b=true then A else B:=by
 cases b with
 |true=>rw[if_pos rfl];exact h rfl
 |false=>rw[if_neg (by simp)];exact h' rfl
theorem dQ4{α:Type}{i:Nat}{tt:TD}{te:ED}{Γ0:Gm}{S:Sto}{G:Sto->Prop}{Q:List D->Sto->Prop}{enc:α->D}{p:α->Bool}{f:α->D}{xs:List α}{acc:List D}(hG:G S)(ht:∀x∈xs,∀Q:Bool->Sto->Prop,Q (p x) S->tt (Γ0.set i (some (enc x))) S Q)
  (h:∀x∈xs,p x=true->∀Q:DK,Q (f x) S->te (Γ0.set i (some (enc x))) S Q) (hn:acc.length+xs.length<=sizeLine) (q:Q (acc++(xs.filter p).map f) S):aZ1 (aZ7 i) tt (aXj te) G Γ0 (xs.map enc) acc S Q:=by
 induction xs generalizing acc with
 |nil=>exact⟨hG,by simpa using q⟩
 |cons x xs z =>
  refine⟨hG,?_⟩;show tt (Γ0.set i (some (enc x))) S _;rw[b7] at hn;refine ht x aA _ ?_;cases hp:p x with
  |true =>
   rw[if_pos rfl];refine h x aA hp _ ⟨by omega,z (λy j=>ht y (au _ j)) (λy j=>h y (au _ j)) (by simp;omega) ?_⟩
   rw[eZ,hp] at q;simpa using q
  |false =>
   rw[if_neg (by simp)]
   refine z (λy j=>ht y (au _ j)) (λy j=>h y (au _ j)) (by omega) ?_
   rw[eZ,hp] at q;simpa using q
theorem nilE(l:List D):okE 9 (.lst l) (.lst [])=true:=by
 show(l.zip []).all _=true;rw[eg];rfl
theorem nilB(l:List D):decide (D.lst l=D.lst [])=l.isEmpty:=by
 cases l with
 |nil=>rfl
 |cons a b=>exact decide_eq_false λh=>by injection h with h;cases h
end L2
namespace Toy
open PySem L2
abbrev s_law_chosen:Stmt:=top 19
theorem sc_law_chosen:FnScope ["sets", "chosen", "one"] ["sets"] (aQ3 s_law_chosen):=fsc
def aZq:SpD:=λds S Q=>∃(d:D) (ts:List (List Str)),ds=[d]/\fzIs d (ts.map tupS)/\ts.length<=1000/\(∀t∈ts,t.length<=9999)/\Q (.lst ((chs ts).map tupS)) S
section
variable{P:aC}{w:aL}{K:ap}{mg:Str->Option ad}{base:aY}{pt cc:Addr}
theorem bQr(T:Tx K mg "_law_chosen" s_law_chosen)(B:Bs mg):Df P w K mg base 1 "_law_chosen" ["sets"] (spU K aZq):=by
 refine aZk T sc_law_chosen (λF=>F.binds λ_ _ _ _ _ _=>us1 λ_=>rfl) ?_ λf cdv A outer s H E Z=>⟨_,(aQ2 (aQa (i:=1) sc_law_chosen.nd rfl (bf rfl) (aZa (b:=true) aQ1))
  (aQ2 (aX6 cI rfl (aZ5 (dv 0)) (aZe (i:=2) sc_law_chosen.nd rfl (fw rfl)) (aQ4 (aXi (dX3 Z (aQs (N':=["other", "one"]) (oc:=some "other") (b:=false) [0] [] rfl sc_law_chosen.nd (λ_ _ _=>aQd ..) (.own (.cap (i:=2) rfl (by decide +kernel) .nil)) (aQh rfl) (aZ5 (dv 1)) (cg_name (i:=0)) (λ_ _ _ _ _=>aQe (i:=0) (nd_ ["other", "one"]) rfl (fw rfl) (.inl eQq)) (λ_ _ _ _ _=>aX2 (by exact(dX4 Z (aQs (N':=["name", "other"]) (oc:=none) (b:=false) [0] [] rfl (nd_ ["other", "one"]) (λ_ _ _=>aQd ..) (.own (.cap (i:=0) rfl (by decide +kernel) .nil)) (aQh rfl) (aZ5 (dv 1)) (cg_name (i:=0)) (λ_ _ _ _ _=>aQe (i:=0) (nd_ ["name", "other"]) rfl (bf rfl) (.inr rfl)) (λ_ _ _ _ _=>aX2 (by exact(dX5 Z (dv 0) (dv 1)))) aQl (λ_ _ _ _ _ _=>aQj rfl (by exact PD.o (dv 0)))) (aZa (b:=false) aQ1)))) aQl (λ_ _ _ _ _ _=>aQj rfl (by exact PD.o (dv 0)))) (aZa (b:=false) aQ1)) (aQ4 (aZf (aZ8 (dv 1) (aQ0 (dv 2) aQ1)))) aQv)))
  (aQ4 (aQf (dv 1))))),?_⟩
 ·rintro ds S Q ⟨d,ts,rfl,_⟩;rfl
 ·rintro ds S Q ⟨d,ts,rfl,hd,hl,U,q⟩;refine⟨aQ8 (by decide),λcp J=>⟨ts.map tupS,by rcases hd with rfl|rfl <;> rfl,?_⟩⟩
  have gd:∀S':Sto,L2.guard d (ts.map tupS) S':=λS'=>by rcases hd with rfl|rfl <;> trivial
  refine for_ind (λi Γ S'=>∃(O:Option D) (acc:List (List Str)),Γ=[some d,some (.ref cp),O]/\S' cp=some (.lst (acc.map tupS))/\chF acc (ts.drop i)=chs ts/\acc.length<=i/\∀b o,S b=some o->S' b=some o) ⟨none,[],rfl,supd_same,rfl,Nat.le_refl _,λb o e=>by rw[aQ6 (by rintro rfl;rw[J] at e;cases e)];exact e⟩ ?_ ?_
  ·rintro i x Γ S' N L ⟨O,acc,rfl,z,j,ha,off⟩ hN;rw[aK,a8] at L;obtain⟨t,Y,rfl⟩:=L;have hi:=(aE.mp Y).1;rw[bN hi,(aE.mp Y).2] at j;unfold chF at j;have mt:∀o:List Str,(!(t.filter λn=>decide (n∈o)).isEmpty)=mts t o:=λo=>by
    rw[eA,mts_iff,bR,List.isEmpty_eq_false_iff_exists_mem];exact⟨λ⟨x,L⟩=>⟨x,of_decide_eq_true (cF.mp L).2,(cF.mp L).1⟩,λ⟨x,h1,h2⟩=>⟨x,cF.mpr ⟨h2,decide_eq_true h1⟩⟩⟩
   refine⟨gd _,acc.map tupS,z,dQ4 (p:=λo=>mts t o) (f:=tupS) z (λo ho Q q=>?_) (λo ho _ Q q=>q) (aQ8 (by show 0+acc.length<=_;omega)) ?_⟩
   ·refine⟨_,rfl,aZc (p:=λn=>decide (n∈o)) (f:=D.str) (λn hn Q q=>in_t (E:=strE) (by decide) rfl q) (λn hn _ Q q=>q) (aQ8 (by have:=U t (ao Y);show 0+t.length<=9999;omega)) ?_⟩
    refine⟨aQ8 (by decide),nilE _,_,rfl,?_⟩
    rw[if_pos rfl,nilB,bo,iN,mt o];exact q
   ·refine⟨aQ8 (by decide),nilE _,_,rfl,?_⟩
    rw[if_neg (by simp),nilB,bo,iN]
    have ea:(acc.filter λo=>mts t o).isEmpty=!acc.any λo=>mts t o:=by
     rw[eA,List.isEmpty_iff,List.filter_eq_nil_iff,bR,fD]
    rw[ea];cases e:acc.any λo=>mts t o with
    |true =>
     rw[e,if_pos rfl] at j;exact ite2 (λh=>nomatch h) λ_=>hN _ _ ⟨_,acc,rfl,z,j,by omega,off⟩
    |false =>
     rw[e,if_neg (by simp)] at j
     refine ite2 (λ_=>?_) λh=>absurd rfl h;refine⟨⟨_,z⟩,_,z,by rw[am,aW];omega,hN _ _ ⟨_,acc++[t],rfl,by rw[supd_same,bq];rfl,j,by rw[aB];show acc.length+1<=_;omega,λb o e=>?_⟩⟩
     have e':=off b o e;rw[aQ6 (by rintro rfl;rw[J] at e;cases e)];exact e'
  ·rintro Γ S' ⟨O,acc,rfl,z,j,ha,off⟩;rw[am,dE] at j;have j:acc=chs ts:=j;refine⟨gd _,?_⟩;rw[j] at z;exact eX3 z off J q
end
end Toy
namespace L2
open PySem PySem.Spec PyProof.Rows
def smp:Nat->D->Bool
 |_,.int _=>true
 |_,.str _=>true
 |n+1,.tup xs=>xs.all (smp n)
 |_,_=>false
section
variable{X:Cx}{pins:List (Addr×Obj)}{σ:St}{H:Hp}{s:ah}{M:Am}
theorem bZl{f:D->Bool}(h:∀d e x,f d=true->f e=true->RepV X.K M H d x->RepV X.K M H e x->d=e):∀{ds es:List D}{xs:List V},ds.all f=true->es.all f=true->RepL X.K M H ds xs->RepL X.K M H es xs->ds=es
 |[],[],_,_,_,_,_=>rfl
 |[],e::es,xs,_,_,p,q=>by
  unfold RepL at p q;obtain⟨v,j,rfl,_⟩:=q;cases p
 |d::ds,[],xs,_,_,p,q=>by
  unfold RepL at p q;obtain⟨v,j,rfl,_⟩:=p;cases q
 |d::ds,e::es,xs,a,b,p,q=>by
  unfold RepL at p q;obtain⟨v,j,rfl,L,p2⟩:=p;obtain⟨Y,z,U,J,B⟩:=q;injection U with O N
  subst O N;rw[ir,a4] at a b;rw[h d e v a.1 b.1 L J,bZl h a.2 b.2 p2 B]
theorem bJ5(I:Inv X pins σ H s):∀(n:Nat) (d e:D) (x:V),smp n d=true->smp n e=true->RepV X.K M H d x->RepV X.K M H e x->d=e
 |0,d,e,x,a,b,p,q=>by
  cases d <;> first|(cases a;done)|skip
  all_goals (cases e <;> first|(cases b;done)|skip)
  all_goals (unfold RepV at p q;subst p)
  ·injection q with q;rw[q]
  ·cases q
  ·cases q
  ·injection q with q;rw[q]
 |n+1,d,e,x,a,b,p,q=>by
  cases d <;> first|(cases a;done)|skip
  all_goals (cases e <;> first|(cases b;done)|skip)
  ·unfold RepV at p q;subst p;injection q with q;rw[q]
  ·unfold RepV at p q;subst p;cases q
  ·unfold RepV at p q;subst p;obtain⟨_,_,e',_⟩:=q;cases e'
  ·unfold RepV at p q;subst p;cases q
  ·unfold RepV at p q;subst p;injection q with q;rw[q]
  ·unfold RepV at p q;subst p;obtain⟨_,_,e',_⟩:=q;cases e'
  ·unfold RepV at p q;subst q;obtain⟨_,_,e',_⟩:=p;cases e'
  ·unfold RepV at p q;subst q;obtain⟨_,_,e',_⟩:=p;cases e'
  ·rename_i ds es;unfold RepV at p q;obtain⟨a1,xs,rfl,t,l⟩:=p;obtain⟨a2,ys,e',j,z⟩:=q;injection e' with e'
   subst e'
   have:xs=ys:=I.tuple_inj t.sq j.sq
   subst this;rw[bZl (λd e x=>bJ5 I n d e x) a b l z]
open PySem.W in
theorem cXg(I:Inv X pins σ H s){n:Nat}{A:aO}{c:Bool}{d e:D}{x y:V}{u v:ad}{Q:Bool->ah->Prop}{E:ad->ah->Prop}(hu:A.units+n<bU)(h:RepV X.K M H d x)(h':RepV X.K M H e y)(r:RelV x u)(r':RelV y v)(o:okL n d e=true)(hd:smp n d=true)(he:smp n e=true)
  (q:Q (ltN n d e) s):aF (az X.prog X.w) A (oneLt' c u v) Q E s:=by
 cases c with
 |false=>exact kat_one _ _ (eXj I n hu h h' r r' o _ _ _ _ (show iF Q (.bool (ltN n d e)) s from q))
 |true =>
  cases n with
  |zero =>
   cases d <;> first|(cases hd;done)|skip
   all_goals (cases e <;> first|(cases o;done)|skip)
   all_goals unfold RepV at h h';subst h;subst h';obtain⟨t,rfl⟩:=r;obtain⟨B,rfl⟩:=r'
   ·exact iW q
   ·exact iX q
  |succ n =>
   cases d <;> first|(cases hd;done)|skip
   all_goals (cases e <;> first|(cases o;done)|skip)
   ·unfold RepV at h h';subst h;subst h';obtain⟨t,rfl⟩:=r;obtain⟨B,rfl⟩:=r';exact iW q
   ·unfold RepV at h h';subst h;subst h';obtain⟨t,rfl⟩:=r;obtain⟨B,rfl⟩:=r';exact iX q
   ·rename_i ds es;unfold RepV at h h';obtain⟨a,xs,rfl,t,l⟩:=h;obtain⟨b,ys,rfl,B,l'⟩:=h';cases r;cases r';obtain⟨us,ru,pl,_⟩:=I.tuple t.sq;obtain⟨vs,rv,L,_⟩:=I.tuple B.sq;obtain⟨⟨cls,dd,data,sl⟩,O,Y,n1,j⟩:=id pl;obtain⟨⟨Z,U,data2,J⟩,N,z,n2,hd2⟩:=id L;simp only at Y j z hd2;subst Y j z hd2;rw[oneLt'_eq];simp only[if_true];refine aa (wpAny_cRoomFor (by lia) ?_)
    refine aa (fZ ⟨_,O,rfl⟩ c8 (iS c8 ⟨_,O,rfl⟩ eh (d6 _ _) (HT.tuple_lt_gen a b _ _ n1 n2 dd U sl J (lexN (ltN n) ds es)) ⟨O,N,?_,?_⟩))
    ·exact bXz (λp q r r' o=>(eq3 I n (show A.units+1+n<bU by lia) p q r r' o).eq) (λp q r r' o=>eXj I n (show A.units+1+n<bU by lia) p q r r' o) l l' ru rv o
    ·exact cW q
open PySem.W in
theorem katD(I:Inv X pins σ H s){n:Nat}{A:aO}{c:Bool}{Q:Bool->ah->Prop}(hu:A.units+n<bU):∀{ds es:List D}{xs ys:List V}{us vs:List ad}(i:Nat) {fin:Bool},RepL X.K M H ds xs->RepL X.K M H es ys->Vals xs us->Vals ys vs->okLs (okL n) n ds es=true->ds.all (smp n)=true->es.all (smp n)=true->fin=decide (us.length<vs.length)->Q (lexN (ltN n) ds es) s->KatLex X.prog X.w A c fin Q (us.zip vs) i s
 |[],[],_,_,_,_,i,fin,p,q,r,t,_,_,_,hf,h=>by
  unfold RepL at p q;subst p;subst q;cases r;cases t;subst hf;exact kat_nil h
 |[],e::es,_,_,_,_,i,fin,p,q,r,t,_,_,_,hf,h=>by
  unfold RepL at p q;subst p;obtain⟨v,vs,rfl,_,_⟩:=q;cases r;cases t;subst hf;rw[eH];exact kat_nil (by simpa [lexN] using h)
 |d::ds,[],_,_,_,_,i,fin,p,q,r,t,_,_,_,hf,h=>by
  unfold RepL at p q;subst q;obtain⟨v,vs,rfl,_,_⟩:=p;cases r;cases t;subst hf;rw[eg];exact kat_nil (by simpa [lexN] using h)
 |d::ds,e::es,_,_,_,_,i,fin,p,q,r,t,o,s1,s2,hf,h=>by
  unfold RepL at p q;obtain⟨x,xs,rfl,J,p2⟩:=p;obtain⟨y,ys,rfl,B,O⟩:=q;cases r with
  |cons j N =>
   cases t with
   |cons t1 L =>
    unfold okLs at o;rw[a4] at o;rw[ir,a4] at s1 s2;rw[cb];unfold lexN at h;refine kat_cons ((eq3 I n hu J B j t1 o.1).eq _ _ _ _ ?_);refine kat_go (λz=>kat_yes ?_) λz=>kat_no ?_
    ·have z:=of_decide_eq_true z;rw[if_pos z] at h o;exact katD I hu (i+1) p2 O N L o.2 s1.2 s2.2 (by subst hf;simp) h
    ·have z:=of_decide_eq_false z;rw[if_neg z] at h o;exact cXg I hu J B j t1 o.2 s1.1 s2.1 h
open PySem.W in
theorem dJa(I:Inv X pins σ H s){n:Nat}{A:aO}{κ:dJ}{d e:D}{x y:V}{u v:ad}{Q:Bool->ah->Prop}{E:ad->ah->Prop}(hu:A.units+(n+1)<bU)(h:RepV X.K M H d x)(h':RepV X.K M H e y)(r:RelV x u)(r':RelV y v)(o:okL (n+1) d e=true)(hd:smp (n+1) d=true)(he:smp (n+1) e=true)(ht:∃xs,d=.tup xs)(ht':∃xs,e=.tup xs)
  (hκ:(∃c,κ=tuples' c)\/κ=general'\/κ=jd) (q:Q (ltN (n+1) d e) s):aF (az X.prog X.w) A (keyLt' κ u v) Q E s:=by
 rcases hκ with⟨c,rfl⟩|rfl|rfl
 ·obtain⟨ds,rfl⟩:=ht;obtain⟨es,rfl⟩:=ht';unfold RepV at h h';obtain⟨a,xs,rfl,t,l⟩:=h;obtain⟨b,ys,rfl,B,N⟩:=h';cases r;cases r';obtain⟨us,L,⟨o1,O,hc,n1,z⟩,_⟩:=I.tuple t.sq;obtain⟨Y,J,⟨Z,j,U,n2,hd2⟩,_⟩:=I.tuple B.sq;refine kat_lt O z j hd2 ?_;exact katD I (show A.units+n<bU by lia) 0 l N L J o hd he (by simp) q
 ·show aF _ _ (oneLt' false _ _) _ _ _;exact cXg I hu h h' r r' o hd he q
 ·rw[gU];exact cXg I hu h h' r r' o hd he q
def TyL(h:aY)(v:ad):Prop:=(∃x t,v=.str x t)\/(∃i t,v=.int i t)\/∃b o T,v=.ref b/\h.get? b=some o/\o.cls=.type T
def TupL(h:aY)(v:ad):Prop:=∃b items,v=.ref b/\gH h b items/\∀x∈items.toList,TyL h x
theorem TupL.ty{h:aY}{v:ad}(t:TupL h v):TyL h v:=by
 obtain⟨b,items,rfl,⟨o,j,z,_⟩,_⟩:=t;exact .inr (.inr ⟨b,o, "tuple",rfl,j,z⟩)
open PySem.W in
theorem bJ6{prog:aC}{w:aL}{A:aO}{E:ad->ah->Prop}{s:ah}:∀{vs:List ad}{Q:List ad->ah->Prop},(∀v∈vs,TyL s.heap v)->(∀ts,Q ts s)->aF (az prog w) A (vs.mapM typeOf) Q E s
 |[],_,_,h=>by rw[jp];exact af (h [])
 |v::vs,Q,p,h=>by
  rw[je];refine aa ?_;have rest:∀t:ad,aF (az prog w) A (vs.mapM typeOf>>=λts=>pure (t::ts)) Q E s:=λt=>aa (bJ6 (λu j=>p u (au _ j)) λts=>af (h _));rcases p v aA with⟨x,t,rfl⟩|⟨i,t,rfl⟩|⟨b,o,T,rfl,z,B⟩
  ·exact af (rest _)
  ·exact af (rest _)
  ·exact Looks.here (show Looks (az prog w) s.heap (typeOf (.ref b)) o.cls from(Looks.ld z).andThen .now) (rest _)
open PySem.W in
theorem cXh{prog:aC}{w:aL}{A:aO}{E:ad->ah->Prop}{s:ah}:∀{vs:List ad}{Q:List (Option ad)->ah->Prop},(∀v∈vs,TupL s.heap v)->(∀fs:List (Option ad),(∀f∈fs,∀v,f=some v->TyL s.heap v)->Q fs s)->aF (az prog w) A (vs.mapM firstOfTuple') Q E s
 |[],_,_,h=>by rw[jp];exact af (h [] λf hf=>by cases hf)
 |v::vs,Q,p,h=>by
  obtain⟨b,items,rfl,⟨o,j,J,n,hd⟩,z⟩:=p v aA;rw[je];refine aa ?_;rw[kas_first_eq];refine aa (Looks.here (show Looks (az prog w) s.heap (typeOf (.ref b)) o.cls from(Looks.ld j).andThen .now) ?_)
  rw[J,if_neg (by first|decide|simp)]
  refine aa (listItems_at j hd (af ?_));refine aa (cXh (λu D=>p u (au _ D)) λfs B=>af (h _ λf hf v e=>?_));rcases aQ.mp hf with rfl|hf
  ·refine z v ?_
   have:=Array.mem_of_getElem? e
   simpa using this
  ·exact B f hf v e
open PySem.W in
theorem fQf{prog:aC}{w:aL}{A:aO}{E:ad->ah->Prop}{s:ah}{vs:List ad}{Q:dJ->ah->Prop}(p:∀v∈vs,TupL s.heap v)(h:∀κ,(∃c,κ=tuples' c)\/κ=general'\/κ=jd->Q κ s):aF (az prog w) A (keyKind' vs.toArray) Q E s:=by
 rw[kat_kind_eq,eJ,map_eq_pure_bind];refine aa (aa (cXh p λfs J=>af ?_));have one:∀(gs:List ad) (B:Option ad->ah->Prop),(∀v∈gs,TyL s.heap v)->(∀o,B o s)->aF (az prog w) A (oneTypeOnly' gs.toArray) B E s:=λgs B L D=>by
  rw[oneTypeOnly'_eq,eJ,map_eq_pure_bind];refine aa (aa (bJ6 L λts=>af ?_));cases ts.toArray[0]? with
  |none=>exact af (D _)
  |some t=>exact af (D _)
 by_cases j:(fs.toArray.all λx=>x.isSome)=true
 ·rw[if_pos j];refine aa (cJ ?_);have e:fs.toArray.filterMap id=(fs.filterMap id).toArray:=by simp
  rw[e];refine aa (one _ _ (λv z=>?_) λo=>af (h _ (.inl ⟨_,rfl⟩)));obtain⟨f,hf,e⟩:=fk.mp z;exact J f hf v e
 ·rw[if_neg j]
  by_cases h1:((fs.toArray[0]?.bind id).isSome)=true
  ·rw[if_pos h1];exact af (h _ (.inr (.inl rfl)))
  ·rw[if_neg h1];refine aa (one _ _ (λv z=>(p v z).ty) λo=>?_);cases o with
   |none=>exact af (h _ (.inr (.inl rfl)))
   |some t=>exact af (h _ (.inr (.inr rfl)))
end
structure SrtOk(ds:List D):Prop where
 tup:∀d∈ds,∃xs,d=.tup xs
 smp:∀d∈ds,smp 8 d=true
 ok:∀a∈ds,∀b∈ds,okL 8 a b=true
 as:∀a∈ds,∀b∈ds,ltN 8 a b=true->ltN 8 b a=false
 tr:∀a∈ds,∀b∈ds,∀c∈ds,ltN 8 b a=false->ltN 8 c b=false->ltN 8 c a=false
section
variable{X:Cx}{K:Fg}{pos:Pos}{k:Nat}
open Classical in
noncomputable def decD(K:Fg)(M:Am)(H:Hp)(ds:List D)(v:ad):D:=if e:∃d,d∈ds/\∃x,RepV K M H d x/\RelV x v then e.choose else .non
theorem cXi{pins:List (Addr×Obj)}{σ:St}{H:Hp}{s:ah}{M:Am}{ds:List D}(I:Inv X pins σ H s)(ok:SrtOk ds){d:D}{x:V}{v:ad}(hd:d∈ds)(h:RepV X.K M H d x)(r:RelV x v):decD X.K M H ds v=d:=by
 have e:∃d,d∈ds/\∃x,RepV X.K M H d x/\RelV x v:=⟨d,hd,x,h,r⟩;unfold decD;rw[dif_pos e];obtain⟨h1,y,h2,h3⟩:=e.choose_spec;generalize e.choose=B at h1 h2 ⊢;obtain⟨xs,rfl⟩:=ok.tup d hd;obtain⟨j,rfl⟩:=ok.tup B h1;have s1:=ok.smp _ hd;have s2:=ok.smp _ h1;have z:x=y:=by
  unfold RepV at h h2;obtain⟨a,_,rfl,_⟩:=h;obtain⟨b,_,rfl,_⟩:=h2;cases r;cases h3;rfl
 subst z;exact bJ5 I 8 _ _ _ s2 s1 h2 h
def eXt(K:Fg):List V->Hp->VK->Prop:=λxs H Q=>∃(x:V) (us:List V) (ds:List D) (M:Am),xs=[x]/\Src K H x us/\RepL K M H ds us/\SrtOk ds/\∀(p:Addr) (idx:List Nat),H p=none->idx.Perm (bu us.length)->(idx.map λi=>ds.getD i .non).Pairwise (λa b=>ltN 8 b a=false)->Q (.ref p) (upd H p (.lst (idx.map λi=>us.getD i V.non)))
theorem aX8{K:Fg}{M:Am}{H:Hp}:∀{ds:List D}{us:List V}{vs:List ad},RepL K M H ds us->Vals us vs->∀i,i<vs.length->∃x,RepV K M H (ds.getD i .non) x/\RelV x (vs.getD i bJ)/\ds.getD i .non∈ds
 |[],us,vs,l,r,i,hi=>by
  unfold RepL at l;subst l;cases r;exact absurd hi (Nat.not_lt_zero _)
 |d::ds,us,vs,l,r,i,hi=>by
  unfold RepL at l;obtain⟨x,xs,rfl,J,B⟩:=l;cases r with
  |cons z j =>
   cases i with
   |zero=>exact⟨x,J,z,aA⟩
   |succ i =>
    obtain⟨y,a,b,c⟩:=aX8 B j i (by simpa using hi)
    exact⟨y,a,b,au _ c⟩
theorem cXj{pins:List (Addr×Obj)}{σ:St}{H:Hp}{s:ah}{M:Am}{ds:List D}{ys:List V}{vals:List ad}{h1:aY}{d:Drawn}{tk:Nat}{Q:VK}(hu:X.A.units+16<bU)(I1:Inv X pins σ H {s with heap:=h1,drawn:=d,toks:=tk})(lr:RepL X.K M H ds ys)(pv:Vals ys vals)(ok:SrtOk ds)(hz:ys.length<=sizeLine)
  (q:∀(p:Addr) (idx:List Nat),H p=none->idx.Perm (bu ys.length)->(idx.map λi=>ds.getD i .non).Pairwise (λa b=>ltN 8 b a=false)->Q (.ref p) (upd H p (.lst (idx.map λi=>ys.getD i V.non)))) :
  aF (az X.prog X.w) X.A.in1.in1 (cK.«list.sort» ⟨[.ref h1.objs.size],[]⟩) (λfin s'=>fin=.done (.ret .none)/\∃v H',Inv X pins σ H' s'/\RelV v (.ref h1.objs.size)/\Q v H') X.xe {s with heap:=h1.push (be "list" vals.toArray 0),drawn:=d,toks:=tk}:=by
 have hl:ds.length=ys.length:=lr.length.symm;have O:=pv.length;have hfr:H h1.objs.size=none:=I1.hok.fresh (Nat.le_refl _);have ho:({s with heap:=h1.push (be "list" vals.toArray 0),drawn:=d,toks:=tk}:ah).heap.get? h1.objs.size=some (be "list" vals.toArray 0):=ax _ rfl
 have B:∀v∈vals,∃x,RepV X.K M H (decD X.K M H ds v) x/\RelV x v/\decD X.K M H ds v∈ds:=λv hv=>by
  obtain⟨i,hi,e⟩:=bE hv;obtain⟨x,a,b,c⟩:=aX8 lr pv i hi;have ev:vals.getD i bJ=v:=by rw[ak,ag hi,<- e];rfl
  rw[ev] at b;rw[cXi I1 ok c a b];exact⟨x,a,b,c⟩
 refine SF.sort_any (s:={s with heap:=h1.push (be "list" vals.toArray 0),drawn:=d,toks:=tk}) (λu v=>ltN 8 (decD X.K M H ds u) (decD X.K M H ds v)) (by rw[<- O];exact hz) ho (λh2 kp2 h2l Q' hq=>?_) λxs N Z=>⟨rfl,?_⟩
 ·have I2:Inv X pins σ H {s with heap:=h2,drawn:=d,toks:=tk}:=I1.toks (λb o e=>kp2 b o (Nat.ne_of_lt (aD e)) (ae _ e)) d tk
  refine fQf (s:={s with heap:=h2,drawn:=d,toks:=tk}) (λv hv=>?_) fun κ hκ=>hq κ ⟨λx y Q N J q=>?_,λx y N J e=>?_,λx y z N J hz Y e2=>?_⟩
  ·obtain⟨x,a,b,c⟩:=B v hv;obtain⟨es,ed⟩:=ok.tup _ c;have sm:=ok.smp _ c;rw[ed] at a sm;unfold RepV at a;obtain⟨p,ws,rfl,t,l⟩:=a;cases b;obtain⟨its,rv,pl,_⟩:=I2.tuple t.sq;refine⟨p,_,rfl,pl,λy J=>?_⟩;have J:y∈its:=by simpa using J
   obtain⟨i,hi,ei⟩:=bE J;obtain⟨z,L,z2,z3⟩:=aX8 l rv i hi;have ev:its.getD i bJ=y:=by rw[ak,ag hi,<- ei];rfl
   rw[ev] at z2;have sz:smp 7 (es.getD i .non)=true:=bI.mp sm _ z3;generalize es.getD i .non=g at L sz;cases g <;> first|(cases sz;done)|skip
   ·unfold RepV at L;subst L;obtain⟨t,rfl⟩:=z2;exact .inr (.inl ⟨_,t,rfl⟩)
   ·unfold RepV at L;subst L;obtain⟨t,rfl⟩:=z2;exact .inl ⟨_,t,rfl⟩
   ·unfold RepV at L;obtain⟨p',ws',rfl,t',l'⟩:=L;cases z2;obtain⟨its',_,⟨o',ho',hc',_⟩,_⟩:=I2.tuple t'.sq;exact .inr (.inr ⟨p',o', "tuple",rfl,ho',hc'⟩)
  ·obtain⟨x1,a1,b1,c1⟩:=B _ N;obtain⟨x2,a2,b2,c2⟩:=B _ J;exact dJa I2 (n:=7) (by show X.A.units+1+1+(7+1)<_;lia) a1 a2 b1 b2 (ok.ok _ c1 _ c2) (ok.smp _ c1) (ok.smp _ c2) (ok.tup _ c1) (ok.tup _ c2) hκ q
  ·exact ok.as _ (B _ N).choose_spec.2.2 _ (B _ J).choose_spec.2.2 e
  ·exact ok.tr _ (B _ N).choose_spec.2.2 _ (B _ J).choose_spec.2.2 _ (B _ hz).choose_spec.2.2 Y e2
 ·have pl:xs.toList.Perm (fP vals).toList:=b9.mp N;obtain⟨idx,p1,Y⟩:=KS.perm_map (f:=λi=>(vals.getD i bJ,vals.getD i bJ)) (m:=bu vals.length) pl (by
   rw[fQ]
   conv=>lhs;rw[<- KS.idx_map vals bJ]
   rw[List.zip_map'])
  have U:∀i∈idx,i<vals.length:=λi hi=>bO.mp (p1.mem_iff.mp hi);have eo:xs.map (·.2)=(idx.map λi=>vals.getD i bJ).toArray:=by
   apply iJ.mp;rw[Array.toList_map,Y,bW]
   rfl
  rw[eo];rw[Y,dq] at Z;have srt:(idx.map λi=>ds.getD i .non).Pairwise (λa b=>ltN 8 b a=false):=by
   rw[dq];refine Z.imp_of_mem λ{i j} hi hj hij=>?_;obtain⟨x1,a1,b1,c1⟩:=aX8 lr pv i (U i hi);obtain⟨x2,a2,b2,c2⟩:=aX8 lr pv j (U j hj);have d1:=cXi I1 ok c1 a1 b1;have d2:=cXi I1 ok c2 a2 b2;rw[<- d1,<- d2];exact hij
  have s2:=cj ((((h1.push (be "list" vals.toArray 0)).update h1.objs.size (ba λ_=>(#[]:Array ad))).push (be "tuple" vals.toArray 0)).push (be "list" #[] 0)) h1.objs.size (ba λ_=>(idx.map λi=>vals.getD i bJ).toArray);obtain⟨e2,ho1⟩:∃Y,((h1.push (be "list" vals.toArray 0)).update h1.objs.size (ba λ_=>(#[]:Array ad))).get? h1.objs.size=some (be "list" #[] Y):=⟨_,gp ho λ_=>#[]⟩;have sb:=cj (h1.push (be "list" vals.toArray 0)) h1.objs.size (ba λ_=>(#[]:Array ad));have il:idx.length=vals.length:=by have:=p1.length_eq;simpa using this
  have kk:∀b o,b≠h1.objs.size->(h1.push (be "list" vals.toArray 0)).get? b=some o->(fu (h1.push (be "list" vals.toArray 0)) h1.objs.size vals (idx.map λi=>vals.getD i bJ).toArray).get? b=some o:=λb o hb e=>(s2.2 b hb).trans (ae _ (ae _ ((sb.2 b hb).trans e)));refine⟨.ref h1.objs.size,_,I1.laid (a:=h1.objs.size) (o:=.lst (idx.map λi=>ys.getD i V.non)) (t':=tk) (λb o e=>kk b o (Nat.ne_of_lt (aD e)) (ae _ e)) (Nat.le_refl _) ⟨?_,_,_,bQe pv idx (λi hi=>by rw[O];exact U i hi),gp (ae _ (ae _ ho1)) λ_=>_⟩,rfl,q _ idx hfr (by rw[O];exact p1) srt⟩
  rw[am];lia
theorem cXk(hu:X.A.units+16<bU)(hK:X.K=K:=by rfl)(hc:X.calm=true:=by rfl):CallR X (.builtin "sorted") (eXt K):=by
 intro pins s σ H xs us Q I r h;obtain⟨x,ys,ds,M,rfl,J,D,ok,q⟩:=h;obtain⟨u,rfl,B⟩:=aX0 r;obtain⟨col,j⟩:=I.src hK J B;subst hK;refine aZu (I.ok.hd hc) col (λvals v=>by rw[<- v.length];exact j) λvals h1 d z pv kp=>?_
 exact cXj hu (I.toks kp d z) D pv ok j q
def srtN(b:Bool):RCD:=λds S Q=>∃d xs,ds=[d]/\srcIs S d xs/\SrtOk xs/\∀out,out.Perm xs->out.Pairwise (λa b=>ltN 8 b a=false)->newL b out S Q
theorem dJb{b:Bool}:aXv K (eXt K) (srtN b):=by
 intro F S H ds Y Q QD r l h c;obtain⟨d,xs,rfl,h1,ok,q⟩:=h;obtain⟨v,rfl,D⟩:=l.one;obtain⟨us,N,j⟩:=h1.src r D;refine⟨v,us,xs,_,rfl,N,j,ok,λp idx O B L=>?_⟩;have U:=j.length;have z:∀i∈idx,i<us.length:=λi hi=>bO.mp (B.mem_iff.mp hi);have J:=cX1 j idx z;refine c.new r O J (q _ ?_ L)
 have:=B.map λi=>xs.getD i .non
 rw[U,KS.idx_map] at this;exact this
theorem cXl{b:Bool}{e:Expr}{t:AD}{p:Pos}(hr:Room k X.A)(hg:Gl X "sorted")(hm:X.mg "sorted"=none)(ha:PAD K X [e] t)(hK:X.K=K:=by rfl)(hc:X.calm=true:=by rfl)(he:av [e] X.env=(false,eval e X.env)::av [] X.env:=by rfl)(hpl:(bZ pos (av [] X.env)).any (·.1)=false:=by rfl):PD K X (.Call (.Name "sorted" p) [e] [] pos) (dCB (srtN b) t):=aZb (cXk (lt10 hr) hK hc) dJb hg hm aJa ha (by decide) (by decide) he hpl
end
def getG{β:Type}(kvs:List (Key×β))(key:Key):Option β:=(kvs.find? λkv=>decide (kv.1=key)).map (·.2)
section
variable{X:Cx}{K:Fg}{k:Nat}{pos:Pos}{o i:Expr}{td ty:ED}
theorem bJ7{M:Am}{H:Hp}{key:Key}{d:D}{ks:List (Key×V)}{kvs:List (Key×D)}(l:bx (λ(p:Key×V) (q:Key×D)=>p.1=q.1/\RepV K M H q.2 p.2) ks kvs)(h:getG kvs key=some d):∃v,valV ks key=some v/\RepV K M H d v:=by
 induction l with
 |nil=>cases h
 |@cons a b as bs j _ J =>
  by_cases e:b.1=key
  ·have:getG (b::bs) key=some b.2:=by unfold getG;rw[a9,decide_eq_true e];rfl
   rw[this] at h;injection h with h
   subst h;exact⟨a.2,aJ3 (j.1.trans e),j.2⟩
  ·have:getG (b::bs) key=getG bs key:=by unfold getG;rw[a9,decide_eq_false e]
   rw[this] at h;obtain⟨v,L,B⟩:=J h;refine⟨v,?_,B⟩;rw[<- L];have N:a.1≠key:=λz=>e (j.1▸z);simp[valV,a9,N]
def dDGet(td ty:ED):ED:=fun Γ S Q=>td Γ S λo S1=>ty Γ S1 λy S2=>match o with
 |.ref a=>∃kvs key d,S2 a=some (.dk kvs)/\dkey y=some key/\getG kvs key=some d/\Q d S2
 |_=>False
theorem eXu(hr:Room k X.A)(ho:PD K X o td)(hi:PD K X i ty)(hs:NoSl i:=by intro _ _;rfl):PD K X (.Subscript o i pos) (dDGet td ty):=.of (dXe (lt10 hr) ho.o hi.o hs) fun σ H Q J=>J.el λF S Γ QD r g q c =>
 ⟨F,S,Γ,_,r,g,q,λx od H2 S2 B O v2 U=>⟨F,S2,Γ,_,O,g.ext B,U,λy yd H3 S3 z D L j=>by
  cases od with
  |ref a =>
   obtain⟨Z,key,d,hS,hk,hg,j⟩:=j;obtain⟨ks,hu,Y⟩:=D.obj a _ hS;obtain⟨v,hv,N⟩:=bJ7 Y hg;refine⟨a,v,rref (v2.ext z),.inl ⟨ks,key,.inl hu,aJ4 L hk,hv.symm⟩,c v d H3 S3 (B.trans z) D N j⟩
  |_=>exact j.elim⟩⟩
end
section
variable{X:Cx}{K:Fg}{k:Nat}{pos:Pos}
theorem dQ5{M:Am}{H:Hp}{key:Key}{ks:List (Key×V)}{kvs:List (Key×D)}(l:bx (λ(p:Key×V) (q:Key×D)=>p.1=q.1/\RepV K M H q.2 p.2) ks kvs)(h:getG kvs key=none):valV ks key=none:=by
 induction l with
 |nil=>rfl
 |@cons a b as bs j _ B =>
  by_cases e:b.1=key
  ·have:getG (b::bs) key=some b.2:=by unfold getG;rw[a9,decide_eq_true e];rfl
   rw[this] at h;cases h
  ·have J:getG (b::bs) key=getG bs key:=by unfold getG;rw[a9,decide_eq_false e]
   rw[J] at h;have L:a.1≠key:=λz=>e (j.1▸z);rw[<- B h];simp[valV,a9,L]
def eXv(td ty tx:ED):ED:=fun Γ S Q=>td Γ S λo S1=>∃a kvs0,o=.ref a/\S1 a=some (.dk kvs0)/\ty Γ S1 λy S2=>tx Γ S2 λz S3=>∃kvs key,S3 a=some (.dk kvs)/\dkey y=some key/\Q ((getG kvs key).getD z) S3
theorem dJc{o e f:Expr}{apos cpos:Pos}{td ty tx:ED}(hr:Room k X.A)(ho:PD K X o td)(he:PD K X e ty)(hf:PD K X f tx)(m:M2 X o "get" apos e f cpos:=by exact⟨rfl,rfl,rfl,rfl⟩):PD K X (.Call (.Attribute o "get" apos) [e,f] [] cpos) (eXv td ty tx) :=
 .of (cJn (lt10 hr) ho.o he.o hf.o m) fun σ H Q z0=>z0.el λF S Γ QD r g q c =>
 ⟨F,S,Γ,_,r,g,q,λx od H2 S2 D r2 v2 L=>by
  obtain⟨a,kvs0,rfl,Y,L⟩:=L;obtain⟨O,U,lu0⟩:=r2.obj a _ Y;refine⟨a,rref v2,.inl ⟨O,.inl U⟩,?_⟩;refine⟨F,S2,Γ,_,r2,g.ext D,L,λy yd H3 S3 x3 r3 v3 q3=>⟨F,S3,Γ,_,r3,(g.ext D).ext x3,q3,λz zd H4 Z B J v4 q4=>?_⟩⟩;obtain⟨N,key,hS,hk,j⟩:=q4;obtain⟨ks,hu,lu⟩:=J.obj a _ hS;have c4:Ext S H Z H4:=D.trans (x3.trans B);cases e:getG N key with
  |none =>
   rw[e] at j;exact⟨none,.inl ⟨ks,key,.inl hu,aJ4 (v3.ext B) hk,(dQ5 lu e).symm⟩,c z zd H4 Z c4 J v4 j⟩
  |some d =>
   rw[e] at j;obtain⟨v,hv,rv⟩:=bJ7 lu e;exact⟨some v,.inl ⟨ks,key,.inl hu,aJ4 (v3.ext B) hk,hv.symm⟩,c v d H4 Z c4 J rv j⟩⟩
end
end L2
namespace L2
open PySem
theorem dQ6(t:List Str)(ts:List (List Str))(n:Str):hmh (t::ts) n=(if n∈t then 1 else 0)+hmh ts n:=by
 unfold hmh;rw[eZ]
 split
 ·next h=>rw[if_pos (of_decide_eq_true h),b7];omega
 ·next h=>rw[if_neg (λz=>h (decide_eq_true z))];omega
theorem cXm{ts:List (List Str)}(he:∀t∈ts,t.Nodup)(n:Str):ts.flatten.count n=hmh ts n:=by
 induction ts with
 |nil=>rfl
 |cons t ts j =>
  rw[dQ6,fO,List.count_append,j λu z=>he u (au _ z)]
  congr 1
  split
  ·next h=>exact(he t aA).count.trans (if_pos h)
  ·next h=>exact gh h
theorem dQ7{β:Type}(kvs:List (Key×β))(key k:Key)(v:β):getG (putG kvs key v) k=if k=key then some v else getG kvs k:=by
 induction kvs with
 |nil =>
  unfold putG getG
  by_cases e:k=key
  ·subst e;simp
  ·rw[if_neg e];simp[List.find?,cy e]
 |cons p r Z =>
  by_cases B:p.1=key
  ·have N:putG (p::r) key v=(p.1,v)::r.map (λj=>if j.1=key then (j.1,v) else j):=by
    unfold putG;rw[if_pos (by rw[dZ,decide_eq_true B];rfl),aX,if_pos B]
   rw[N]
   by_cases e:k=key
   ·subst e;rw[if_pos rfl];unfold getG;rw[a9,decide_eq_true B];rfl
   ·rw[if_neg e];have np:¬ p.1=k:=λz=>e (z.symm.trans B);unfold getG;rw[a9,a9,decide_eq_false np];dsimp only;have gen:∀l:List (Key×β),((l.map λj=>if j.1=key then (j.1,v) else j).find? λj=>decide (j.1=k)).map (·.2)=(l.find? λj=>decide (j.1=k)).map (·.2):=λl=>by
     induction l with
     |nil=>rfl
     |cons q l J =>
      rw[aX,a9,a9]
      by_cases L:q.1=key
      ·rw[if_pos L];have U:¬ q.1=k:=λz=>e (z.symm.trans L);dsimp only;rw[decide_eq_false U];exact J
      ·rw[if_neg L]
       by_cases D:q.1=k
       ·rw[decide_eq_true D]
       ·rw[decide_eq_false D];exact J
    exact gen r
  ·have N:putG (p::r) key v=p::putG r key v:=by
    unfold putG;rw[dZ,decide_eq_false B,Bool.false_or]
    split
    ·rw[aX,if_neg B]
    ·rfl
   rw[N]
   by_cases D:p.1=k
   ·have Y:¬ k=key:=λz=>B (D.trans z);rw[if_neg Y];unfold getG;rw[a9,a9,decide_eq_true D]
   ·have O:∀l:List (Key×β),getG (p::l) k=getG l k:=λl=>by unfold getG;rw[a9,decide_eq_false D]
    rw[O,O,Z]
theorem dJd{β:Type}(kvs:List (Key×β))(key:Key)(v:β):(putG kvs key v).length<=kvs.length+1:=by
 unfold putG
 split
 ·rw[am];omega
 ·rw[aB];exact Nat.le_refl _
def CtD(kvs:List (Key×D))(l:List Str):Prop:=(∀n:Str,(getG kvs (.inr n)).getD (.int 0)=.int (l.count n:Nat))/\kvs.length<=l.length
theorem CtD.nil:CtD [] []:=⟨λ_=>rfl,Nat.le_refl _⟩
theorem CtD.step{kvs:List (Key×D)}{l:List Str}(h:CtD kvs l)(n:Str):CtD (putG kvs (.inr n) (.int ((l.count n:Nat)+1))) (l++[n]):=by
 refine⟨λx=>?_,?_⟩
 ·rw[dQ7,List.count_append]
  by_cases e:x=n
  ·subst e;rw[if_pos rfl,List.count_singleton_self];rfl
  ·rw[if_neg (λz=>e (by injection z)),h.1 x,gh (λz=>e (aU.mp z))];rfl
 ·have:=dJd kvs (.inr n) (D.int ((l.count n:Nat)+1))
  rw[aB]
  have:=h.2
  show _<=l.length+1;omega
theorem CtD.get{kvs:List (Key×D)}{l:List Str}(h:CtD kvs l){n:Str}(hn:n∈l):getG kvs (.inr n)=some (.int (l.count n:Nat)):=by
 have:=h.1 n
 have j:0<l.count n:=List.count_pos_iff.mpr hn;cases e:getG kvs (.inr n) with
 |none =>
  rw[e] at this;injection this with this
  omega
 |some d=>rw[e] at this;exact congrArg some this
def prI(p:Int×Str):D:=.tup [.int p.1,.str p.2]
def pl(p q:Int×Str):Bool:=if p.1=q.1 then HT.ltS p.2 q.2 else decide (p.1<q.1)
theorem bQ3(p q:Int×Str):ltN 8 (prI p) (prI q)=pl p q:=by
 show(if D.int p.1=D.int q.1 then (if D.str p.2=D.str q.2 then false else HT.ltS p.2 q.2) else decide (p.1<q.1))=_
 unfold pl
 by_cases e:p.1=q.1
 ·rw[if_pos (by rw[e]),if_pos e]
  by_cases j:p.2=q.2
  ·rw[if_pos (by rw[j]),j,HT.ltS_ir]
  ·rw[if_neg (λz=>j (by injection z))]
 ·rw[if_neg (λz=>e (by injection z)),if_neg e]
theorem fQg{p q:Int×Str}(h:pl p q=true):pl q p=false:=by
 unfold pl at h ⊢
 by_cases e:p.1=q.1
 ·rw[if_pos e] at h;rw[if_pos e.symm];exact HT.ltS_as h
 ·rw[if_neg e] at h;rw[if_neg (cy e)];exact decide_eq_false (by have:=of_decide_eq_true h;omega)
theorem fQh{p q r:Int×Str}(h1:pl q p=false)(h2:pl r q=false):pl r p=false:=by
 unfold pl at *
 by_cases B:q.1=p.1
 ·rw[if_pos B] at h1
  by_cases j:r.1=q.1
  ·rw[if_pos j] at h2;rw[if_pos (j.trans B)];cases h:HT.ltS r.2 p.2 with
   |false=>rfl
   |true =>
    by_cases z:p.2=q.2
    ·rw[z] at h;rw[h] at h2;cases h2
    ·have:=HT.ltS_tr h (HT.ltS_tot h1 (cy z))
     rw[this] at h2;cases h2
  ·rw[if_neg j] at h2;rw[if_neg (λz=>j (z.trans B.symm))]
   have:=of_decide_eq_false h2
   exact decide_eq_false (by omega)
 ·rw[if_neg B] at h1;have h1:=of_decide_eq_false h1
  by_cases j:r.1=q.1
  ·rw[if_neg (by omega)]
   exact decide_eq_false (by omega)
  ·rw[if_neg j] at h2;have h2:=of_decide_eq_false h2;rw[if_neg (by omega)]
   exact decide_eq_false (by omega)
theorem eXw(l:List (Int×Str)):SrtOk (l.map prI):=by
 refine⟨λd hd=>?_,λd hd=>?_,λa B b z=>?_,λa B b z=>?_,λa B b z d hd=>?_⟩
 ·obtain⟨p,_,rfl⟩:=bB.mp hd;exact⟨_,rfl⟩
 ·obtain⟨p,_,rfl⟩:=bB.mp hd;rfl
 ·obtain⟨p,_,rfl⟩:=bB.mp B;obtain⟨q,_,rfl⟩:=bB.mp z;show(okE 7 (D.int p.1) (D.int q.1)&&(if D.int p.1=D.int q.1 then (okE 7 (D.str p.2) (D.str q.2)&&(if D.str p.2=D.str q.2 then true else okL 7 (D.str p.2) (D.str q.2))) else okL 7 (D.int p.1) (D.int q.1)))=true
  have h1:∀i j:Int,okE 7 (D.int i) (D.int j)=true:=λ_ _=>rfl;have h2:∀i j:Int,okL 7 (D.int i) (D.int j)=true:=λ_ _=>rfl;have L:∀i j:Str,okE 7 (D.str i) (D.str j)=true:=λ_ _=>rfl;have J:∀i j:Str,okL 7 (D.str i) (D.str j)=true:=λ_ _=>rfl;rw[h1,h2,L,J]
  split
  ·split <;> rfl
  ·rfl
 ·obtain⟨p,_,rfl⟩:=bB.mp B;obtain⟨q,_,rfl⟩:=bB.mp z;rw[bQ3,bQ3];exact fQg
 ·obtain⟨p,_,rfl⟩:=bB.mp B;obtain⟨q,_,rfl⟩:=bB.mp z;obtain⟨r,_,rfl⟩:=bB.mp hd;rw[bQ3,bQ3,bQ3];exact fQh
theorem bJ8(kf:Nat->Int):∀n j,j<=n->kf j<=kf (cM (gB kf) n)/\(j<cM (gB kf) n->kf j<kf (cM (gB kf) n))
 |0,j,D=>by
  have:j=0:=by omega
  subst this;exact⟨Int.le_refl _,λh=>absurd h (Nat.lt_irrefl _)⟩
 |n+1,j,D=>by
  have B:=bJ8 kf n;have J:=bQq (gB kf) n;cases e:decide (kf (n+1)>kf (cM (gB kf) n)) with
  |true =>
   have z:cM (gB kf) (n+1)=n+1:=by simp only[cM,gB,e,if_true]
   rw[z];have e:=of_decide_eq_true e
   by_cases h:j=n+1
   ·subst h;exact⟨Int.le_refl _,λh=>absurd h (Nat.lt_irrefl _)⟩
   ·have:=(B j (by omega)).1
    exact⟨by omega,λ_=>by omega⟩
  |false =>
   have z:cM (gB kf) (n+1)=cM (gB kf) n:=by simp only[cM,gB,e,cA,if_false]
   rw[z];have e:=of_decide_eq_false e
   by_cases h:j=n+1
   ·subst h;exact⟨by omega,λh=>by omega⟩
   ·exact B j (by omega)
theorem dQ8{ts:List (List Str)}{ns:List Str}(hs:Srt ns){y:Str}(hy:y∈ns):hmh ts y<=hmh ts (mst ts ns)/\(hmh ts y=hmh ts (mst ts ns)->y=mst ts ns\/HT.ltS (mst ts ns) y=true):=by
 obtain⟨j,B,rfl⟩:=bE hy;have J:=bQq (gB λi=>(hmh ts (ns.getD i ⟨#[]⟩):Int)) (ns.length-1);have hm:=bJ8 (λi=>(hmh ts (ns.getD i ⟨#[]⟩):Int)) (ns.length-1) j (by omega)
 have L:ns.getD j ⟨#[]⟩=ns[j]:=by rw[ak,ag B];rfl
 unfold mst;generalize cM (gB λi=>(hmh ts (ns.getD i ⟨#[]⟩):Int)) (ns.length-1)=b at J hm;have z:b<ns.length:=by omega
 have D:ns.getD b ⟨#[]⟩=ns[b]:=by rw[ak,ag z];rfl
 rw[L,D] at hm;rw[D];refine⟨by omega,λe=>?_⟩
 rcases Nat.lt_trichotomy j b with h|h|h
 ·have:=hm.2 h;omega
 ·subst h;exact .inl rfl
 ·exact .inr (c6.mp hs b j z B h)
theorem eXx{ts:List (List Str)}{ns:List Str}(hs:Srt ns){x:Str}(hx:x∈ns)(h:∀y∈ns,pl (0-(hmh ts y:Int),y) (0-(hmh ts x:Int),x)=false):x=mst ts ns:=by
 have hm:=dJ6 (ts:=ts) (ns:=ns) (by rintro rfl;cases hx)
 have h1:=dQ8 (ts:=ts) hs hx;have h2:=h _ hm;unfold pl at h2;dsimp only at h2
 by_cases e:hmh ts x=hmh ts (mst ts ns)
 ·rw[if_pos (by omega)] at h2
  rcases h1.2 e with z|z
  ·exact z
  ·rw[z] at h2;cases h2
 ·rw[if_neg (by omega)] at h2
  have:=of_decide_eq_false h2
  omega
abbrev Kps(S0 S:Sto):Prop:=∀b o,S0 b=some o->S b=some o
theorem Kps.non{S0 S:Sto}(h:Kps S0 S){p:Addr}(hp:S p=none):S0 p=none:=by
 cases e:S0 p with
 |none=>rfl
 |some o=>rw[h _ _ e] at hp;cases hp
theorem Kps.set{S0 S:Sto}(h:Kps S0 S){p:Addr}(hp:S0 p=none)(x:DO):Kps S0 (supd S p x):=λb o e=>by
 rw[aQ6 (by rintro rfl;rw[hp] at e;cases e)];exact h b o e
theorem Kps.new{S0 S:Sto}(h:Kps S0 S){p:Addr}(hp:S p=none)(x:DO):Kps S0 (supd S p x):=h.set (h.non hp) x
theorem aZg{S:Sto}{p a:Addr}{x o:DO}(hp:S p=none)(ha:S a=some o):supd S p x a=some o:=by
 rw[aQ6 (by rintro rfl;rw[hp] at ha;cases ha)];exact ha
theorem tru_c{Γ:Gm}{S:Sto}{b:Bool}{Q:Bool->Sto->Prop}(h:Q b S):dTru (dC (D.bl b)) Γ S Q:=h
def StpD(d:D):Prop:=∃(a:Int) (b:D) (c:Int),d=.tup [.int a,b,.int c]/\(b=.non\/∃s,b=.str s)
theorem StpD.ok{d e:D}(h:StpD d)(h':StpD e):okE 7 d e=true:=by
 obtain⟨a,b,c,rfl,z⟩:=h;obtain⟨L,J,B,rfl,j⟩:=h';rcases z with rfl|⟨s,rfl⟩ <;> rcases j with rfl|⟨s',rfl⟩ <;> rfl
def WayD(d:D):Prop:=∃(o:Option (List (List Str))) (ys:List D),d=.tup [opT o,.tup ys]/\∀y∈ys,StpD y
theorem eXy(o o':Option (List (List Str))):okE 8 (opT o) (opT o')=true:=by
 cases o with
 |none=>cases o' <;> rfl
 |some l =>
  cases o' with
  |none=>rfl
  |some j=>exact flE.ok 8 l j (by decide)
theorem WayD.ok{d e:D}(h:WayD d)(h':WayD e):okE 9 d e=true:=by
 obtain⟨o,ys,rfl,J⟩:=h;obtain⟨o',j,rfl,z⟩:=h';show(okE 8 (opT o) (opT o')&&(okE 8 (.tup ys) (.tup j)&&true))=true;rw[eXy,ga,Bool.and_true];show(ys.zip j).all (λp=>okE 7 p.1 p.2)=true;rw[bI];rintro⟨a,b⟩ B;exact(J a (fi B).1).ok (z b (fi B).2)
theorem cXn(m:Nat)(ts:List (List Str)):WayD (wayD m ts):=by
 refine⟨_,_,rfl,λd hd=>?_⟩;rcases aN.mp hd with h|h
 ·obtain⟨s,_,rfl⟩:=bB.mp h;exact⟨_,_,_,rfl,.inr ⟨_,rfl⟩⟩
 ·rw[aU.mp h];exact⟨_,_,_,rfl,.inl rfl⟩
open PySem.Spec PyProof.Rows
variable{X:Cx}{K:Fg}{pos:Pos}
def dBrk:SD:=λE Γ S=>E.bk Γ S
theorem eXz:PSD K X (.Break pos) dBrk:=.of cXt λz σ H j=>j.el λF S Γ E r g q c=>c.bk Γ S σ H (Ext.refl _ _) r g q
end L2
namespace Toy
open PySem L2
abbrev s_law_way:Stmt:=top 20
theorem sc_law_way:FnScope ["sets", "many", "taken", "trace", "chosen", "counts", "one", "name", "some"] ["sets", "many"] (aQ3 s_law_way):=fsc
def aXp:SpD:=λds S Q=>∃(ts:List (List Str)) (m:Nat),ds=[.tup (ts.map tupS),.int m]/\Wc 6 ts/\m<=60/\Q (wayD m ts) S
section
variable{P:aC}{w:aL}{K:ap}{mg:Str->Option ad}{base:aY}{pt cc:Addr}
theorem bJr(T:Tx K mg "_law_way" s_law_way)(B:Bs mg)(d_law_chosen:Df P w K mg base 1 "_law_chosen" ["sets"] (spU K aZq)):Df P w K mg base 2 "_law_way" ["sets", "many"] (spU K aXp):=by
 refine aZk T sc_law_way (λF=>F.binds λ_ _ _ _ _ _=>us2 λ_ _=>rfl) ?_ λf cdv A outer s H E hr=>⟨_,(aQ2 (aQa (i:=2) sc_law_way.nd rfl (fw rfl) (aZa (b:=true) aQ1))
  (aQ2 (aQa (i:=3) sc_law_way.nd rfl (bf rfl) (aZa (b:=true) aQ1))
  (aQ2 (bXr cI (aZx e_bl) (aQ2 (aQa (i:=4) sc_law_way.nd rfl (bf rfl) (aQ9 d_law_chosen hr rfl (aQ0 (dv 0) aQ1)))
  (aQ2 (aQa (i:=5) sc_law_way.nd rfl (fw rfl) eXc)
  (aQ2 (aX6 cI rfl (aZ5 (dv 0)) (aZe (i:=6) sc_law_way.nd rfl (bf rfl)) (aQ4 (aX6 cI rfl (aZ5 (dv 6)) (aZe (i:=7) sc_law_way.nd rfl (fw rfl)) (aQ4 (dXl hr (dv 5) (dv 7) (aZ0 (k:=false) (dJc hr (dv 5) (dv 7) aQ5) aQ5))))))
  (aQ2 (aQa (i:=8) sc_law_way.nd rfl (bf rfl) (aZa (b:=true) aQ1))
  (aQ2 (aX6 cI rfl (aZ5 (dv 4)) (aZe (i:=6) sc_law_way.nd rfl (bf rfl)) (aQ4 (aZf (cJu (dv 8) (aQ0 (aQs (N':=["name", "counts"]) (oc:=none) (b:=true) [0] [] rfl sc_law_way.nd (λ_ _ _=>aQd ..) (.own (.cap (i:=5) rfl (by decide +kernel) .nil)) (aQh rfl) (aZ5 (dv 6)) (cg_name (i:=0)) (λ_ _ _ _ _=>aQe (i:=0) (nd_ ["name", "counts"]) rfl (bf rfl) (.inr rfl)) (λ_ _ _ _ _=>aQr) aQl (λ_ _ _ _ _ _=>aQj rfl (by exact PD.o (aXu (aQ0 (eZb aQ5 (eXu hr (dv 1) (dv 0))) (aQ0 (dv 0) aQ1)))))) aQ1)))))
  (aQ2 (aQa (i:=8) sc_law_way.nd rfl (bf rfl) (cXl (b:=false) hr rfl B.sorted (aQ0 (dv 8) aQ1)))
  (aQ2 (aXi (PWD.pt (cZ9 (eZg hr (aZj rfl B.len (aQ0 (dv 4) aQ1)) (dv 1)) (cZ8 (dX3 hr (dv 8) (aZa (b:=false) aQ1))))) (aQ2 (aZf (aZ8 (dv 3) (aQ0 (aXu (aQ0 (aZj rfl B.len (aQ0 (dv 4) aQ1)) (aQ0 cJe (aQ0 (aZj rfl B.len (aQ0 (dv 0) aQ1)) aQ1)))) aQ1)))
  (aQ4 eXz)) aQv)
  (aQ2 (aQa (i:=7) sc_law_way.nd rfl (fw rfl) (e_ix (e_ix (dv 8) aQ5) aQ5))
  (aQ2 (aZf (aZ8 (dv 3) (aQ0 (aXu (aQ0 (aZj rfl B.len (aQ0 (dv 4) aQ1)) (aQ0 (dv 7) (aQ0 (aZj rfl B.len (aQ0 (dv 0) aQ1)) aQ1)))) aQ1)))
  (aQ2 (aZf (aZ8 (dv 2) (aQ0 (dv 7) aQ1)))
  (aQ4 (aQa (i:=0) sc_law_way.nd rfl (bf rfl) (aQx (b:=false) hr rfl B.sorted (aQ0 (aQs (N':=["one", "name"]) (oc:=none) (b:=false) [0] [] rfl sc_law_way.nd (λ_ _ _=>aQd ..) (.own (.cap (i:=7) rfl (by decide +kernel) .nil)) (aQh rfl) (aZ5 (dv 0)) (cg_name (i:=0)) (λ_ _ _ _ _=>aQe (i:=0) (nd_ ["one", "name"]) rfl (bf rfl) (.inr rfl)) (λ_ _ _ _ _=>aX2 (by exact(dX5 hr (dv 1) (dv 0)))) aQl (λ_ _ _ _ _ _=>aQj rfl (by exact PD.o (aQo rfl B.tuple (aQ0 (aQs (N':=["other", "name"]) (oc:=none) (b:=false) [0] [] rfl (nd_ ["one", "name"]) (λ_ _ _=>aQd ..) (.own (.cap (i:=1) rfl (by decide +kernel) .nil)) (aQh rfl) (aZ5 (dv 0)) (cg_name (i:=0)) (λ_ _ _ _ _=>aQe (i:=0) (nd_ ["other", "name"]) rfl (bf rfl) (.inr rfl)) (λ_ _ _ _ _=>aX2 (by exact(dX4 hr (dv 0) (dv 1)))) aQl (λ_ _ _ _ _ _=>aQj rfl (by exact PD.o (dv 0)))) aQ1))))) aQ1)))))))))))))))
  (aQ2 (aXi (cZ6 hr (aZj rfl B.len (aQ0 (dv 4) aQ1)) (dv 1)) (aQ4 (aQf (aXu (aQ0 cJe (aQ0 (aQo rfl B.tuple (aQ0 (dv 3) aQ1)) aQ1))))) aQv)
  (aQ4 (aQf (aXu (aQ0 (aQo rfl B.tuple (aQ0 (aQx (b:=false) hr rfl B.sorted (aQ0 (aQs (N':=["one", "taken"]) (oc:=none) (b:=false) [0] [] rfl sc_law_way.nd (λ_ _ _=>aQd ..) (.own (.cap (i:=2) rfl (by decide +kernel) .nil)) (aQh rfl) (aZ5 (e_sl (b:=false) (dv 4) bQd (aXh (dv 1)))) (cg_name (i:=0)) (λ_ _ _ _ _=>aQe (i:=0) (nd_ ["one", "taken"]) rfl (bf rfl) (.inr rfl)) (λ_ _ _ _ _=>aQr) aQl (λ_ _ _ _ _ _=>aQj rfl (by exact PD.o (aQo rfl B.tuple (aQ0 (aQx (b:=false) hr rfl B.sorted (aQ0 (aZ0 (k:=false) (dQs (b:=false) rfl B.list (aQ0 (dv 0) aQ1)) (dv 1)) aQ1)) aQ1))))) aQ1)) aQ1)) (aQ0 (aQo rfl B.tuple (aQ0 (dv 3) aQ1)) aQ1))))))))),?_⟩
 ·rintro ds S Q ⟨ts,m,rfl,_⟩;rfl
 ·rintro ds S Q ⟨ts,m,rfl,hW,hm,q⟩;refine⟨aQ8 (by decide),λtp htp=>⟨aQ8 (by decide),λlp hlp'=>?_⟩⟩
  have hlp:S lp=none:=(Kps.new (λ_ _ e=>e) htp _).non hlp';have htl:tp≠lp:=by rintro rfl;rw[supd_same] at hlp';cases hlp'
  have lim:∀{k:Nat}{us:List (List Str)},Wc k us->k<=6->∀t∈us,t.length<=9999:=λh hk t L=>by have:=(h.each t L).2;omega
  have k0:Kps S (supd (supd S tp (.lst [])) lp (.lst [])):=(Kps.new (λ_ _ e=>e) htp _).set hlp _;refine⟨λf Γ S'=>∃ (us:List (List Str)) (d0:D) (O:List (Nat × Str × Nat)) (x4 x5 x6 x7 x8:Option D),Γ=[some d0,some (.int m),some (.ref tp),some (.ref lp),x4,x5,x6,x7,x8]/\fzIs d0 (us.map tupS)/\S' tp=some (.lst ((O.map λs=>s.2.1).map D.str))/\S' lp=some (.lst (O.map stD))/\Wc f us/\f + O.length<=6/\wayS m 6 ts=(O++(wayS m f us).1,(wayS m f us).2)/\Kps S S',
   ⟨6,ts,_,[],none,none,none,none,none,rfl,.inl rfl,by rw[aQ6 htl,supd_same];rfl,supd_same,hW,Nat.le_refl _,rfl,k0⟩,?_⟩
  rintro f Γ S' ⟨us,d0,O,x4,x5,x6,x7,x8,rfl,hd,hT,hL,U,hf,hw,off⟩;have cl:(chs us).length<=130:=Nat.le_trans (aZp us).length_le U.len;have gd:∀S':Sto,L2.guard d0 (us.map tupS) S':=λS'=>by rcases hd with rfl|rfl <;> trivial
  have sq:∀S':Sto,sqIs S' d0 (us.map tupS):=λS'=>hd.sq;refine tru_c ?_;refine ite2 (λ_=>?_) λh=>absurd rfl h;refine⟨d0,us,rfl,hd,by have:=U.len;omega,lim U (by omega),?_⟩
  intro cp hcp;have hct:tp≠cp:=by rintro rfl;rw[hT] at hcp;cases hcp
  have hcl:lp≠cp:=by rintro rfl;rw[hL] at hcp;cases hcp
  have hSc:=off.non hcp;refine⟨us.map tupS,sq _,?_⟩;have fl:∀i:Nat,((us.take i).flatten).length<=6*130:=λi=>by
   have bound:∀l:List (List Str),(∀t∈l,t.length<=6)->l.flatten.length<=6*l.length:=by
    intro l
    induction l with
    |nil=>intro _;exact Nat.le_refl _
    |cons t l ih =>
     intro h;have h1:=h t aA;have h2:=ih λt L=>h t (au _ L);rw[fO,aB,b7];omega
   have:=bound (us.take i) λt L=>by have:=(U.each t (cE L)).2;omega
   rw[aV] at this
   have:=U.len
   omega
  refine for_ind (λi Γ S2=>∃(x6 x7:Option D) (J:List (Key×D)),Γ=[some d0,some (.int m),some (.ref tp),some (.ref lp),some (.lst ((chs us).map tupS)),some (.ref cp),x6,x7,x8]/\S2 cp=some (.dk J)/\CtD J ((us.take i).flatten)/\∀b,b≠cp->S2 b=S' b) ⟨x6,x7,[],rfl,supd_same,CtD.nil,λb hb=>aQ6 hb⟩ ?_ ?_
  ·rintro i x Γ S2 N hx ⟨x6,x7,J,rfl,hC,hc,k2⟩ hN;rw[aK,a8] at hx;obtain⟨t,L,rfl⟩:=hx;refine⟨gd _,t.map D.str,rfl,?_⟩;have ft:(us.take (i+1)).flatten=(us.take i).flatten++t:=by rw[cw,L,bV];simp
   refine for_ind (λj Γ S3=>∃(x7:Option D) (J:List (Key×D)),Γ=[some d0,some (.int m),some (.ref tp),some (.ref lp),some (.lst ((chs us).map tupS)),some (.ref cp),some (tupS t),x7,x8]/\S3 cp=some (.dk J)/\CtD J ((us.take i).flatten++t.take j)/\∀b,b≠cp->S3 b=S' b) ⟨x7,J,rfl,hC,by rw[jf,bY];exact hc,k2⟩ ?_ ?_
   ·rintro j y Γ S3 N3 hy ⟨x7,J,rfl,hC,hc,k3⟩ hN3;rw[aK,a8] at hy;obtain⟨n,hn,rfl⟩:=hy;refine⟨trivial,?_⟩;refine⟨cp,J,rfl,hC,J,.inr n,hC,rfl,?_⟩;have en:(us.take i).flatten++t.take (j+1)=(us.take i).flatten++t.take j++[n]:=by rw[cw,hn,aS];rfl
    have st:=hc.step n;have gt:=hc.1 n;generalize (getG J (g8 n)).getD (D.int 0)=v at gt;subst gt;refine⟨J,.inr n,hC,rfl,?_,hN3 _ _ ⟨_,_,rfl,supd_same,en▸st,λb hb=>(aQ6 hb).trans (k3 b hb)⟩⟩;have h1:=hc.2;have h2:=fl i;have h3:=U.each t (ao L);rw[aB,aV] at h1;rw[aW];omega
   ·rintro Γ S3 ⟨x7,J,rfl,hC,hc,k3⟩;rw[am,cT] at hc;exact⟨trivial,hN _ _ ⟨_,_,J,rfl,hC,ft▸hc,k3⟩⟩
  rintro Γ S2 ⟨x6',x7',J,rfl,hC,hc,k2⟩;rw[am,cT] at hc;refine⟨gd _,?_⟩;have off2:Kps S S2:=λb o e=>(k2 b (by rintro rfl;rw[hSc] at e;cases e)).trans (off b o e)
  have hT2:=(k2 tp hct).trans hT;have hL2:=(k2 lp hcl).trans hL;have cnt:∀n,us.flatten.count n=hmh us n:=λn=>cXm (λt L=>(U.each t L).1.nodup) n;have fc:∀i:Nat,(((chs us).take i).flatten).length<=240:=λi=>by
   have e:=congrArg (λl:List (List Str)=>l.flatten.length) (a6 i (chs us));simp only[bV,aB] at e
   have:=bJ4 λt L=>(U.each t L).1
   have:=U.nms
   omega
  refine⟨aQ8 (by decide),λsp hsp=>⟨(chs us).map tupS,rfl,?_⟩⟩
  have hSs:=off2.non hsp;have hst:sp≠tp:=by rintro rfl;rw[hT2] at hsp;cases hsp
  have hsl:sp≠lp:=by rintro rfl;rw[hL2] at hsp;cases hsp
  have hsc:sp≠cp:=by rintro rfl;rw[hC] at hsp;cases hsp
  refine for_ind (λi Γ Z=>∃x6:Option D,Γ=[some d0,some (.int m),some (.ref tp),some (.ref lp),some (.lst ((chs us).map tupS)),some (.ref cp),x6,x7',some (.ref sp)]/\Z sp=some (.lst ((((chs us).take i).flatten.map λn=>((0-(hmh us n:Int)),n)).map prI))/\Z cp=some (.dk J)/\Z tp=some (.lst ((O.map λs=>s.2.1).map D.str))/\Z lp=some (.lst (O.map stD))/\Kps S Z)
   ⟨x6',rfl,supd_same,aZg hsp hC,aZg hsp hT2,aZg hsp hL2,off2.new hsp _⟩ ?_ ?_
  ·rintro i x Γ Z N hx ⟨x6,rfl,hs,hC4,hT4,hL4,Y⟩ hN;rw[aK,a8] at hx;obtain⟨t,L,rfl⟩:=hx;have htu:t∈us:=(aZp us).subset (ao L);have ft:((chs us).take (i+1)).flatten=((chs us).take i).flatten++t:=by rw[cw,L,bV];simp
   refine⟨trivial,⟨_,hs⟩,t.map D.str,rfl,?_⟩;refine aQy (f:=λn=>prI ((0-(hmh us n:Int)),n)) (λn hn Q q=>?_) (aQ8 (by have:=lim U (by omega) t htu;show 0+t.length<=9999;omega)) ?_
   ·refine⟨J,.inr n,_,hC4,rfl,hc.get (dF.mpr ⟨t,htu,hn⟩),aQ8 (by show 2<=9999;decide),?_⟩
    rw[cnt n];exact q
   ·intro ep hep;have hse:sp≠ep:=by rintro rfl;rw[hs] at hep;cases hep
    refine⟨_,_,aZg hep hs,supd_same,?_,hN _ _ ⟨_,rfl,?_,?_,?_,?_,?_⟩⟩
    ·have h1:=fc i;have h2:=U.each t htu;rw[bo,am,am,am,aW];omega
    ·rw[supd_same,ft,bo,bq,bq,bW (l:=t)];rfl
    ·rw[aQ6 (cy hsc)];exact aZg hep hC4
    ·rw[aQ6 (cy hst)];exact aZg hep hT4
    ·rw[aQ6 (cy hsl)];exact aZg hep hL4
    ·exact(Y.new hep _).set hSs _
  rintro Γ Z ⟨x6,rfl,hs,hC4,hT4,hL4,Y⟩;rw[am,cT] at hs;refine⟨trivial,.ref sp,_,rfl,.inl hs,eXw _,λout po pw=>?_⟩;obtain⟨zs,pz,rfl⟩:=KS.perm_map po rfl;have pw:zs.Pairwise λa b=>pl b a=false:=(dq.mp pw).imp λ{a b} h=>by rw[<- bQ3];exact h
  have mz:∀z,z∈zs↔∃x∈nms (chs us),z=((0-(hmh us x:Int)),x):=λz=>by
   rw[pz.mem_iff,bB];constructor
   ·rintro⟨x,hx,rfl⟩;obtain⟨t,L,hxt⟩:=dF.mp hx;exact⟨x,mem_nms.mpr ⟨t,L,hxt⟩,rfl⟩
   ·rintro⟨x,hx,rfl⟩;obtain⟨t,L,hxt⟩:=mem_nms.mp hx;exact⟨x,dF.mpr ⟨t,L,hxt⟩,rfl⟩
  have ez:zs.isEmpty=!(chs us).any λt=>!t.isEmpty:=by
   rw[eA,List.isEmpty_iff,bR,fD];constructor
   ·rintro rfl t L h;cases t with
    |nil=>cases h
    |cons x t=>have:=(mz _).mpr ⟨x,mem_nms.mpr ⟨_,L,aA⟩,rfl⟩;cases this
   ·intro h;refine List.eq_nil_iff_forall_not_mem.mpr λz hz=>?_;obtain⟨x,hx,_⟩:=(mz z).mp hz;obtain⟨t,L,hxt⟩:=mem_nms.mp hx;refine h t L ?_;cases t with
    |nil=>cases hxt
    |cons a t=>rfl
  have tst:∀Q:Bool->Sto->Prop,Q (!goW m us) Z->dOr (aXf (dOp geD (dCB lenD (bZ8 (dVar 4) dNil)) (dVar 1))) (aXf (dOp (eqD false) (dVar 8) (dLst false dNil))) [some d0,some (.int m),some (.ref tp),some (.ref lp),some (.lst ((chs us).map tupS)),some (.ref cp),x6,x7',some (.lst (zs.map prI))] Z Q:=λQ hq=>by
   unfold goW at hq;refine⟨_,rfl,_,rfl,?_⟩;rw[am];have e1:decide (((chs us).length:Int)>=(m:Int))=!decide ((chs us).length<m):=by
    rw[<- decide_not];exact decide_eq_decide.mpr (by omega)
   rw[e1];cases e:decide ((chs us).length<m) with
   |false =>
    rw[e] at hq;exact ite2 (λ_=>hq) λh=>absurd rfl h
   |true =>
    rw[e,ga] at hq;refine ite2 (λh=>nomatch h) λ_=>?_
    refine⟨aQ8 (by decide),nilE _,_,rfl,?_⟩
    rw[if_neg (by simp),nilB,iN,ez];exact hq
  refine tst _ (cXf (λg=>?_) λg=>?_)
  ·have g:goW m us=false:=by rwa [bR] at g
   have e:wayS m 6 ts=(O,us):=by rw[hw,bZj g,bY]
   rcases hd with rfl|rfl
   all_goals
    refine⟨⟨_,hL4⟩,_,rfl,_,rfl,aQ8 (by show 3<=9999;decide),_,hL4,by rw[am,aW];omega,?_⟩
    have hq:Q (.tup [opT (if (chs us).length<m then none else some (pag ((chs us).take m) (O.map λs=>s.2.1))),.tup (O.map stD++[laD us])]) S:=by
     have:=q
     unfold wayD flW trD tkW at this;rw[e] at this;exact this
    rw[am,am];have hL5:supd Z lp (.lst (O.map stD++[laD us])) lp=some (.lst (O.map stD++[laD us])):=supd_same;have hT5:supd Z lp (.lst (O.map stD++[laD us])) tp=some (.lst ((O.map λs=>s.2.1).map D.str)):=by rw[aQ6 htl];exact hT4
    have off5:Kps S (supd Z lp (.lst (O.map stD++[laD us]))):=Y.set hlp _;refine⟨_,rfl,_,rfl,ite2 (λc1=>?_) λc1=>?_⟩
    ·have c2:(chs us).length<m:=by have:=of_decide_eq_true c1;rw[am] at this;omega
     rw[if_pos c2] at hq;exact⟨_,hL5,aQ8 (by show 2<=9999;decide),aZo (S':=S) off5 hq⟩
    ·have c2:¬ (chs us).length<m:=λz=>c1 (decide_eq_true (by rw[am];omega))
     rw[if_neg c2] at hq;have hm4:∀t∈(chs us).take m,t.length<=6:=λt L=>by have:=(U.each t ((aZp us).subset (cE L))).2;omega
     refine⟨m,rfl,(chs us).map tupS,rfl,((chs us).take m).map tupS,(bJ3 (chs us) m),?_⟩;refine aQy (f:=λt=>tupS (srS (t++O.map λs:Nat×Str×Nat=>s.2.1))) (λt L Q q=>?_) (aQ8 (by show 0+((chs us).take m).length<=9999;rw[aV];omega)) ?_
     ·refine⟨t.map D.str,rfl,_,_,rfl,hT5,aQ8 (by have:=hm4 t L;rw[am,am,am];omega),.inl ⟨t++O.map λs:Nat×Str×Nat=>s.2.1,by rw[bq];rfl,_,rfl,q⟩⟩
     ·refine .inr (.inr ⟨((chs us).take m).map λt=>srS (t++O.map λs:Nat×Str×Nat=>s.2.1),by rw[bo,bW];rfl,_,rfl,?_⟩)
      exact⟨_,hL5,aQ8 (by show 2<=9999;decide),aZo (S':=S) off5 hq⟩
  ·have g:goW m us=true:=by rwa [Bool.not_eq_false'] at g
   have zne:zs≠[]:=by
    intro e;unfold goW at g;rw[a4] at g;rw[e,g.2] at ez;cases ez
   obtain⟨z,zs',rfl⟩:∃z zs',zs=z::zs':=by
    cases zs with
    |nil=>exact absurd rfl zne
    |cons z zs'=>exact⟨z,zs',rfl⟩
   obtain⟨x,hx,rfl⟩:=(mz z).mp aA;have ex:x=nmW us:=eXx (bQp _) hx λy hy=>by
    rcases aQ.mp ((mz _).mpr ⟨y,hy,rfl⟩) with e|e
    ·rw[e];unfold pl;rw[if_pos rfl,HT.ltS_ir]
    ·exact(bD.mp pw).1 _ e
   subst ex;cases f with
   |zero=>rw[cXd U] at g;cases g
   |succ f =>
   have hl:=U.link (nmW us);refine⟨_,prI (0-(hmh us (nmW us):Int),nmW us),rfl,aQu (j:=0) rfl,_,.str (nmW us),rfl,aQu (j:=1) rfl,?_⟩;rcases hd with rfl|rfl
   all_goals
    refine⟨⟨_,hL4⟩,_,rfl,_,rfl,aQ8 (by show 3<=9999;decide),_,hL4,by rw[am,aW];omega,?_⟩
    rw[am,am];have hL5:supd Z lp (.lst (O.map stD++[.tup [.int ((chs us).length:Nat),.str (nmW us),.int (us.length:Nat)]])) lp=some (.lst (O.map stD++[.tup [.int ((chs us).length:Nat),.str (nmW us),.int (us.length:Nat)]])):=supd_same;have hT5:supd Z lp (.lst (O.map stD++[.tup [.int ((chs us).length:Nat),.str (nmW us),.int (us.length:Nat)]])) tp=some (.lst ((O.map λs=>s.2.1).map D.str)):=by rw[aQ6 htl];exact hT4
    refine⟨⟨_,hT5⟩,_,hT5,by rw[am,am,aW];omega,us.map tupS,rfl,?_⟩
    refine aZc (p:=λt=>decide (nmW us∈t)) (f:=λt=>tupS (wo t [nmW us])) (λt L Q q=>in_t (E:=strE) (by decide) rfl q) (λt L _ Q q=>?_) (aQ8 (by have:=U.len;show 0+us.length<=9999;omega)) ?_
    ·refine⟨_,rfl,aZc (p:=λn=>!decide (n=nmW us)) (f:=D.str) (λn hn Q q=>?_) (λn hn _ Q q=>q) (aQ8 (by have:=lim U (by omega) t L;show 0+t.length<=9999;omega)) ?_⟩
     ·refine⟨rfl,_,rfl,?_⟩;rw[if_pos rfl,show decide (D.str n=D.str (nmW us))=decide (n=nmW us) from decide_eq_decide.mpr ⟨λe=>by injection e,λe=>by rw[e]⟩];exact q
     ·have ew:t.filter (λn=>!decide (n=nmW us))=wo t [nmW us]:=ik λx _=>by
       congr 1
       exact decide_eq_decide.mpr aU.symm
      rw[bo,ew];exact⟨_,rfl,q⟩
    ·have ef:us.filter (λt=>decide (nmW us∈t))=us.filter λt=>has t [nmW us]:=ik λx _=>by
      rw[eA,decide_eq_true_iff,has1]
     refine .inr (.inr ⟨(us.filter λt=>has t [nmW us]).map λt=>wo t [nmW us],by rw[bo,ef];show _=_;rw[bW];rfl,?_⟩)
     refine⟨f,Nat.lt_succ_self f,lnk us [nmW us],_,O++[((chs us).length,nmW us,us.length)],_,_,_,_,_,rfl,.inr rfl,?_,?_,hl,by rw[aB];show f+(O.length+1)<=6;omega,?_,((Y.set hlp _).set htp _)⟩
     ·rw[supd_same,bq,bq];rfl
     ·rw[aQ6 (cy htl),supd_same,bq];rfl
     ·rw[hw,cXe g,aS];rfl
end
abbrev s_law_kinds:Stmt:=top 21
theorem sc_law_kinds:FnScope ["found", "step"] ["found"] (aQ3 s_law_kinds):=fsc
def aZy:SpD:=λds S Q=>∃(ts:List (List Str)) (m:Nat),ds=[wayD m ts]/\Wc 6 ts/\Q (.bl true) S
section
variable{P:aC}{w:aL}{K:ap}{mg:Str->Option ad}{base:aY}{pt cc:Addr}
theorem bZm(T:Tx K mg "_law_kinds" s_law_kinds)(B:Bs mg):Df P w K mg base 1 "_law_kinds" ["found"] (spU K aZy):=by
 refine aZk T sc_law_kinds (λF=>F.binds λ_ _ _ _ _ _=>us1 λ_=>rfl) ?_ λf Z A outer s H E U=>⟨_,(aQ2 (aXi (PWD.pt (cZ9 (bZa (aZx (cZd rfl B.isinstance (aQ0 (dv 0) (aQ0 (e_ty rfl B.tuple aXz) aQ1))))) (cZ9 (dX4 U (aZj rfl B.len (aQ0 (dv 0) aQ1)) aQ5) (cZ8 (bZa (aZx (cZd rfl B.isinstance (aQ0 (e_ix (dv 0) aQ5) (aQ0 (e_ty rfl B.tuple aXz) aQ1))))))))) (aQ4 (aQf e_bl)) aQv)
  (aQ2 (aX6 cI rfl (aZ5 (e_ix (dv 0) aQ5)) (aZe (i:=1) sc_law_kinds.nd rfl (bf rfl)) (aQ4 (aXi (PWD.pt (cZ9 (bZa (aZx (cZd rfl B.isinstance (aQ0 (dv 1) (aQ0 (e_ty rfl B.tuple aXz) aQ1))))) (cZ9 (aZx (cZd rfl B.isinstance (aQ0 (e_ix (dv 1) aQ5) (aQ0 (e_ty rfl B.bool cQj) aQ1)))) (cZ8 (aZx (cZd rfl B.isinstance (aQ0 (e_ix (dv 1) aQ5) (aQ0 (e_ty rfl B.bool cQj) aQ1)))))))) (aQ4 (aQf e_bl)) aQv)))
  (aQ4 (aQf e_bl)))),?_⟩
 ·rintro ds S Q ⟨J,m,rfl,_⟩;rfl
 ·rintro ds S Q ⟨J,m,rfl,hW,q⟩;have h2:∃x y,wayD m J=.tup [x,.tup y]/\(∀d∈y,∃(a:Int) (b:D) (c:Int),d=.tup [.int a,b,.int c]):=by
   refine⟨_,_,rfl,λd hd=>?_⟩;rcases aN.mp hd with h|h
   ·obtain⟨s,_,rfl⟩:=bB.mp h;exact⟨_,_,_,rfl⟩
   ·rw[aU.mp h];exact⟨_,_,_,rfl⟩
  obtain⟨x,y,e,L⟩:=h2;rw[e];refine⟨_,_,rfl,rfl,bZk ?_⟩;refine ite2 (λh=>nomatch h) λ_=>?_
  refine⟨_,rfl,rfl,_,rfl,?_⟩;refine ite2 (λh=>nomatch h) λ_=>?_
  refine⟨_,_,rfl,aQu (j:=1) rfl,_,_,rfl,rfl,bZk ?_⟩;refine ite2 (λh=>nomatch h) λ_=>?_
  refine⟨_,_,rfl,aQu (j:=1) rfl,y,rfl,?_⟩;refine for_ind (λi Γ S'=>∃z:Option D,Γ=[some (.tup [x,.tup y]),z]/\S'=S) ⟨none,rfl,rfl⟩ ?_ ?_
  ·rintro i d Γ S' N O ⟨z,rfl,rfl⟩ Y;obtain⟨a,b,c,rfl⟩:=L d (ao O);have nx:=Y _ S' ⟨some (.tup [.int a,b,.int c]),rfl,rfl⟩;refine⟨trivial,_,_,rfl,rfl,bZk ?_⟩;refine ite2 (λh=>nomatch h) λ_=>?_
   refine⟨_,_,rfl,aQu (j:=0) rfl,_,_,rfl,rfl,bZk ?_⟩;refine ite2 (λh=>nomatch h) λ_=>?_
   refine⟨_,_,rfl,aQu (j:=2) rfl,_,_,rfl,rfl,bZk ?_⟩;exact ite2 (λh=>nomatch h) λ_=>nx
  ·rintro Γ S' ⟨z,rfl,rfl⟩;exact⟨trivial,aQi q⟩
end
abbrev s_meets:Stmt:=top 2
theorem sc_meets:FnScope ["one", "row"] ["one", "row"] (aQ3 s_meets):=fsc
section
variable{P:aC}{w:aL}{K:ap}{mg:Str->Option ad}{base:aY}{pt cc:Addr}
theorem dQ9(T:Tx K mg "meets" s_meets)(B:Bs mg):Df P w K mg base 1 "meets" ["one", "row"] (spU K bJ2):=by
 refine aZk T sc_meets (λF=>F.binds λ_ _ _ _ _ _=>us2 λ_ _=>rfl) ?_ λf N A outer s H E J=>⟨_,(aQ4 (aQf (eZn rfl B.any (aQ0 (aQs (N':=["name", "one"]) (oc:=none) (b:=false) [0] [] rfl sc_meets.nd (λ_ _ _=>aQd ..) (.own (.cap (i:=0) rfl (by decide +kernel) .nil)) (aQh rfl) (aZ5 (dv 1)) (cg_name (i:=0)) (λ_ _ _ _ _=>aQe (i:=0) (nd_ ["name", "one"]) rfl (bf rfl) (.inr rfl)) (λ_ _ _ _ _=>aQr) aQl (λ_ _ _ _ _ _=>aQj rfl (by exact PD.o (e_in J (dv 0) (dv 1))))) aQ1)))),?_⟩
 ·rintro ds S Q ⟨α,dα,E,one,row,j,L,rfl,_⟩;rfl
 ·rintro ds S Q ⟨α,dα,E,one,row,j,L,rfl,U,h1,h2,O,q⟩;have go:∀Q':List D->Sto->Prop,Q' (row.map λd=>D.bl (decide (d∈one))) S->aZ1 (aZ7 0) dYes (aXj (dOp (inD false) (dVar 0) (dVar 1))) (λ_=>True) [none,some j] (row.map E.e) [] S Q':=λQ' z =>
   aQy (f:=λd=>D.bl (decide (d∈one))) (λd hd Q q=>in_e (neg:=false) (E:=E) (by omega) h1.sq q) (aQ8 (by show 0+row.length<=_;omega)) z
  have e:(row.map λd=>decide (d∈one)).any id=mts one row:=by unfold mts;rw[iY];rfl
  rw[<- e] at q;rcases h2 with rfl|rfl
  ·exact⟨row.map E.e,rfl,go _ ⟨row.map λd=>decide (d∈one),by show _=_;rw[bW];rfl,aQi q⟩⟩
  ·exact⟨row.map E.e,rfl,go _ ⟨row.map λd=>decide (d∈one),by show _=_;rw[bW];rfl,aQi q⟩⟩
end
abbrev s_chosen_of:Stmt:=top 9
theorem sc_chosen_of:FnScope ["sets", "chosen", "one"] ["sets"] (aQ3 s_chosen_of):=fsc
def aXq:SpD:=λds S Q=>∃(ts:List (List Str)),ds=[.tup (ts.map tupS)]/\ts.length<=1000/\(∀t∈ts,t.length<=9999)/\Q (.tup ((chs ts).map tupS)) S
section
variable{P:aC}{w:aL}{K:ap}{mg:Str->Option ad}{base:aY}{pt cc:Addr}
theorem bZn(T:Tx K mg "chosen_of" s_chosen_of)(B:Bs mg)(d_meets:Df P w K mg base 1 "meets" ["one", "row"] (spU K bJ2)):Df P w K mg base 2 "chosen_of" ["sets"] (spU K aXq):=by
 refine aZk T sc_chosen_of (λF=>F.binds λ_ _ _ _ _ _=>us1 λ_=>rfl) ?_ λf cdv A outer s H E hr=>⟨_,(aQ2 (aQa (i:=1) sc_chosen_of.nd rfl (bf rfl) (aZa (b:=true) aQ1))
  (aQ2 (aX6 cI rfl (aZ5 (dv 0)) (aZe (i:=2) sc_chosen_of.nd rfl (fw rfl)) (aQ4 (aXi (bZa (aZx (eZn rfl B.any (aQ0 (aQs (N':=["other", "one"]) (oc:=none) (b:=false) [0] [] rfl sc_chosen_of.nd (λ_ _ _=>aQd ..) (.own (.cap (i:=2) rfl (by decide +kernel) .nil)) (aQh rfl) (aZ5 (dv 1)) (cg_name (i:=0)) (λ_ _ _ _ _=>aQe (i:=0) (nd_ ["other", "one"]) rfl (bf rfl) (.inr rfl)) (λ_ _ _ _ _=>aQr) aQl (λ_ _ _ _ _ _=>aQj rfl (by exact PD.o (aQ9 d_meets hr rfl (aQ0 (dv 1) (aQ0 (dv 0) aQ1)))))) aQ1)))) (aQ4 (aZf (aZ8 (dv 1) (aQ0 (dv 2) aQ1)))) aQv)))
  (aQ4 (aQf (aQo rfl B.tuple (aQ0 (dv 1) aQ1)))))),?_⟩
 ·rintro ds S Q ⟨ts,rfl,_⟩;rfl
 ·rintro ds S Q ⟨ts,rfl,hl,he,q⟩;refine⟨aQ8 (by decide),λcp J=>⟨_,rfl,?_⟩⟩
  refine for_ind (λi Γ S'=>∃(O:Option D) (acc:List (List Str)),Γ=[some (.tup (ts.map tupS)),some (.ref cp),O]/\S' cp=some (.lst (acc.map tupS))/\chF acc (ts.drop i)=chs ts/\acc.length<=i/\(∀t∈acc,t∈ts)/\∀b o,S b=some o->S' b=some o) ⟨none,[],rfl,supd_same,rfl,Nat.le_refl _,λt h=>(nomatch h),λb o e=>by rw[aQ6 (by rintro rfl;rw[J] at e;cases e)];exact e⟩ ?_ ?_
  ·rintro i x Γ S' N U ⟨O,acc,rfl,z,j,ha,hm,off⟩ Y;rw[aK,a8] at U;obtain⟨t,L,rfl⟩:=U;have hi:=(aE.mp L).1;rw[bN hi,(aE.mp L).2] at j;unfold chF at j;have hte:=he t (ao L);refine⟨trivial,acc.map tupS,z,dJ9 (f:=λo=>D.bl (mts t o)) z (λo ho Q q=>⟨Str,inferInstance,strE,t,o,tupS t,tupS o,rfl,by decide,.inl rfl,.inl rfl,he o (hm o ho),q⟩) (aQ8 (by show 0+acc.length<=_;omega)) ⟨acc.map λo=>mts t o,?_,bZk ?_⟩⟩
   ·rw[bo];show lsIs S' (.lst _) _;rw[bW];rfl
   ·have ea:(acc.map λo=>mts t o).any id=acc.any λo=>mts t o:=by rw[iY];rfl
    dsimp only;rw[ea];cases e:acc.any λo=>mts t o with
    |true =>
     rw[e,if_pos rfl] at j;exact ite2 (λh=>nomatch h) λ_=>Y _ _ ⟨_,acc,rfl,z,j,by omega,hm,off⟩
    |false =>
     rw[e,if_neg (by simp)] at j
     refine ite2 (λ_=>?_) λh=>absurd rfl h;refine⟨⟨_,z⟩,_,z,by rw[am,aW];omega,Y _ _ ⟨_,acc++[t],rfl,by rw[supd_same,bq];rfl,j,by rw[aB];show acc.length+1<=_;omega,λu Z=>?_,λb o e=>?_⟩⟩
     ·rcases aN.mp Z with h|h
      ·exact hm u h
      ·rw[aU.mp h];exact ao L
     ·have e':=off b o e;rw[aQ6 (by rintro rfl;rw[J] at e;cases e)];exact e'
  ·rintro Γ S' ⟨O,acc,rfl,z,j,ha,hm,off⟩;rw[am,dE] at j;refine⟨trivial,acc.map tupS,z,?_⟩;have j:acc=chs ts:=j;rw[j];exact aZo off q
end
abbrev s_how_many_have:Stmt:=top 11
theorem sc_how_many_have:FnScope ["sets", "name"] ["sets", "name"] (aQ3 s_how_many_have):=fsc
def aZi:SpD:=λds S Q=>∃(ts:List (List Str)) (n:Str),ds=[.tup (ts.map tupS),.str n]/\ts.length<=1000/\Q (.int (hmh ts n:Nat)) S
section
variable{P:aC}{w:aL}{K:ap}{mg:Str->Option ad}{base:aY}{pt cc:Addr}
theorem aXw(T:Tx K mg "how_many_have" s_how_many_have)(B:Bs mg):Df P w K mg base 1 "how_many_have" ["sets", "name"] (spU K aZi):=by
 refine aZk T sc_how_many_have (λF=>F.binds λ_ _ _ _ _ _=>us2 λ_ _=>rfl) ?_ λf J A outer s H E D=>⟨_,(aQ4 (aQf (aZj rfl B.len (aQ0 (aQs (N':=["one", "name"]) (oc:=none) (b:=false) [0] [] rfl sc_how_many_have.nd (λ_ _ _=>aQd ..) (.own (.cap (i:=1) rfl (by decide +kernel) .nil)) (aQh rfl) (aZ5 (dv 0)) (cg_name (i:=0)) (λ_ _ _ _ _=>aQe (i:=0) (nd_ ["one", "name"]) rfl (bf rfl) (.inr rfl)) (λ_ _ _ _ _=>aX2 (by exact(dX5 D (dv 1) (dv 0)))) aQl (λ_ _ _ _ _ _=>aQj rfl (by exact PD.o (dv 0)))) aQ1)))),?_⟩
 ·rintro ds S Q ⟨j,n,rfl,_⟩;rfl
 ·rintro ds S Q ⟨j,n,rfl,L,q⟩;refine⟨_,rfl,aZc (p:=λt=>decide (n∈t)) (f:=tupS) (λt z Q q=>in_t (E:=strE) (by decide) rfl q) (λt z _ Q q=>q) (aQ8 (by show 0+j.length<=_;omega)) ⟨_,rfl,?_⟩⟩
  rw[bo,am];exact aQi q
end
end Toy
namespace L2
open PySem PySem.Spec PyProof.Rows
theorem cXo{P:aC}{w:aL}{K:ap}{mg mb:Str->Option ad}{k:Nat}{fa a c pt:Addr}{fd:cR}{x:Str}{sp:Sp}{s₁:ah}{vs:List ad}{ns:List Int}
  (KX:K.In s₁.heap) (hns:s₁.heap.Ns aP mg) (hb:s₁.heap.Ns gI mb) (hbb:∀x:Str,x ≠ "__name__"->mb x=bg x) (hlim:s₁.heap.NoLimit) (hg:s₁.gens=#[])
  (ha:s₁.heap.get? a=some {cls:=.type "list",data:=.seq vs.toArray}) (hi:gw vs ns) (hl:ns.length<=sizeLine) (hr:Room k callerA)
  (T:TabF s₁.heap mg c pt) (hpt:s₁.heap.get? pt=some (fT #[])) (noP:K.lookup pt=none)
  (F:∀base:aY,K.In base->base.Ns aP mg->TabF base mg c pt->FnOk P w K mg base CX0 k fa fd [x] sp) (hbind:∀(s:ah) (u:ad),BindsTo s fd ⟨[u],[]⟩ [(x,u)])
  (hsp:∀H:Hp,H pt=some (.tbl #[])->SqL K H a (ns.map V.int)->sp [.ref a] H (λv _=>v=.bl true) λ_ _ _=>False) :
  eF (az P w) callerA (.call (.ref fa) ⟨[.ref a],[]⟩) (λr s'=>r=.ok (.ret (.bool true))/\OldK s₁.heap s'.heap/\s'.os=s₁.os/\hJ s'.gens) s₁:=by
 have rv:=aJ8 hi;have N:=hi.length;have O:a≠pt:=λz=>by rw[z,hpt] at ha;cases ha
 have core:∀H:Hp,H pt=some (.tbl #[])->(∀b,b≠pt->H b=none\/∃o xs,H b=some (.frz o (.lst xs)))->SqL K H a (ns.map V.int)->HOk P w H s₁.heap->(∀b,H b≠none->b=a\/b=pt)->(H a≠none->K.lookup a=none) ->
   eF (az P w) callerA (.call (.ref fa) ⟨[.ref a],[]⟩) (λr s'=>r=.ok (.ret (.bool true))/\OldK s₁.heap s'.heap/\s'.os=s₁.os/\hJ s'.gens) s₁:=by
  intro H hP hO hS hok hA hK;have j:∀{b:Addr}{o:Obj},s₁.heap.get? b=some o->H b=none->(hidT s₁.heap H).get? b=some o:=λe n=>cXs e n;have free:∀{b:Addr}{o:Obj},s₁.heap.get? b=some o->(∀xs n,o.data≠.seq xs n)->o≠fT #[]->H b=none:=λ{b o} e n1 n2=>by
   cases q:H b with
   |none=>rfl
   |some u =>
    rcases hA b (by rw[q];simp) with L|L
    ·subst L;rw[ha] at e;cases e;exact absurd rfl (n1 _ _)
    ·subst L;rw[hpt] at e;cases e;exact absurd rfl n2
  have noA:∀{b:Addr}{o:Obj}{es:Array DictEntry}{Y:Nat},s₁.heap.get? b=some o->o.data=.dict es Y->H b=none:=λ{b o es Y} e d =>
   free e (λxs n z=>by rw[d] at z;cases z) λz=>by rw[z] at d;cases d
  have B:∀ {b:Addr} {m:Str->Option ad},s₁.heap.Ns b m->(hidT s₁.heap H).Ns b m:=λ{b m} ⟨o,es,Y,e,d,r⟩=>⟨o,es,Y,j e (noA e d),d,r⟩;have U:K.In (hidT s₁.heap H):=λb o e=>j (KX b o e) (by
   cases q:H b with
   |none=>rfl
   |some u =>
    rcases hA b (by rw[q];simp) with L|L
    ·subst L;rw[hK (by rw[q];simp)] at e;cases e
    ·subst L;rw[noP] at e;cases e)
  have hM:Mod K mg (hidT s₁.heap H):=⟨U,B hns,⟨mb,B hb,hbb⟩,let ⟨mc,h1,h2⟩:=hlim;⟨mc,B h1,h2⟩⟩
  have hT:TabF (hidT s₁.heap H) mg c pt:=by
   refine⟨?_,?_⟩
   ·obtain⟨o,us,file,tf,flags,tg,inF,text,tt,e,cl,d,r⟩:=T.hd;exact⟨o,us,file,tf,flags,tg,inF,text,tt,j e (free e (λxs n z=>by rw[d] at z;cases z) λz=>by rw[z] at cl;cases cl),cl,d,r⟩
   ·obtain⟨bm,Z,b1,b2,b3,b4,b5,b6⟩:=T.bm;exact⟨bm,Z,b1,b2,j b3 (free b3 (λxs n z=>by rw[b6] at z;cases z) λz=>by rw[z] at b6;cases b6),b4,b5,b6⟩
  have e0:Env0 P w K mg (hidT s₁.heap H) callerA [] s₁ H:=⟨rfl,rfl,hM,λb o e=>dQy e,Nat.le_of_eq (bJx _ _),trivial,λb hb=>absurd (show b∈([]:List Addr) from hb) (by simp),hok,.of_eq hg⟩
  refine codeAny_mono ((F _ U (B hns) hT).run callerA [] s₁ H ⟨[.ref a],[]⟩ [.ref a] [.ref a] _ _ hr e0 (hbind s₁ (.ref a)) (.cons rfl .nil) (hsp H hP hS)) λr s' h=>?_;cases r with
  |error e=>exact cX h
  |ok fl =>
   cases fl with
   |next=>exact cX h
   |brk=>exact cX h
   |cont=>exact cX h
   |ret u =>
    obtain⟨v,H',os,bare,un,J,r',q⟩:=h;have q':v=.bl true:=q;subst q';obtain rfl:u=gG true:=r';have keep:∀b o,b≠pt->s₁.heap.get? b=some o->s'.heap.get? b=some o:=λb o nb e=>by
     cases q:H b with
     |none=>exact un.keep b o e q (by intro z;exact absurd (show b∈([]:List Addr) from z) (by simp)) (by simp)
     |some u =>
      rcases hO b nb with z|⟨Z,xs,z⟩
      ·rw[q] at z;cases z
      ·have z2:=un.frzs b Z _ z;obtain⟨e1,_⟩:=hok b _ z;obtain⟨e2,_⟩:=J b _ z2;rw[e] at e1;cases e1;exact e2
    obtain⟨more,em⟩:=un.tbls pt #[] hP;have gm:s'.heap.get? pt=some (fT (#[]++more)):=J pt _ em;refine⟨rfl,⟨λb o e=>?_,λb o e=>?_⟩,os,bare⟩
    ·by_cases z:b=pt
     ·subst z;rw[hpt] at e;cases e;exact .inr (.inl ⟨(T.hd.tab hpt).isCodeTable,rfl,#[],more,rfl,gm⟩)
     ·exact .inl (keep b o z e)
    ·by_cases z:b=pt
     ·subst z;exact⟨_,gm⟩
     ·exact⟨o,keep b o z e⟩
 cases hk:K.lookup a with
 |some o =>
  have e:=KX a o hk;rw[ha] at e;cases e;refine core (λb=>if b=pt then some (.tbl #[]) else none) (if_pos rfl) (λb hb=>.inl (if_neg hb)) (.inr ⟨_,vs.toArray,_,hk,rfl,rfl,rfl,by rw[aq,N];exact hl,by simpa using rv⟩) (λb u z=>?_) (λb z=>?_) λz=>absurd (if_neg O) z
  ·by_cases hb:b=pt
   ·have z':=(if_pos hb).symm.trans z;cases z';subst hb;exact hpt
   ·have z':=(if_neg hb).symm.trans z;cases z'
  ·by_cases hb:b=pt
   ·exact .inr hb
   ·exact absurd (if_neg hb) z
 |none =>
  refine core (λb=>if b=pt then some (.tbl #[]) else if b=a then some (.frz {cls:=.type "list",data:=.seq vs.toArray} (.lst (ns.map V.int))) else none) (if_pos rfl) (λb D=>?_) (.inl (.inr ⟨{cls:=.type "list",data:=.seq vs.toArray},(if_neg O).trans (if_pos rfl)⟩)) (λb u z=>?_) (λb z=>?_) λ_=>hk
  ·by_cases hb:b=a
   ·exact .inr ⟨_,_,(if_neg D).trans (if_pos hb)⟩
   ·exact .inl ((if_neg D).trans (if_neg hb))
  ·by_cases D:b=pt
   ·have z':=(if_pos D).symm.trans z;cases z';subst D;exact hpt
   ·have z:=(if_neg D).symm.trans z
    by_cases hb:b=a
    ·have z':=(if_pos hb).symm.trans z;cases z';subst hb;exact⟨ha,by rw[am];exact hl,vs,_,rv,ha⟩
    ·have z':=(if_neg hb).symm.trans z;cases z'
  ·by_cases D:b=pt
   ·exact .inr D
   ·by_cases hb:b=a
    ·exact .inl hb
    ·exact absurd ((if_neg D).trans (if_neg hb)) z
def bJ9(pt:Addr)(lp:Pos)(qual:Str)(n:Nat):SpD:=λds S Q=>∃ns:List Int,ds=[.lst (ns.map D.int)]/\ns.length<=n/\S pt=some (.tb lp qual)/\(∀a,a≠pt->S a=none)/\∀S',Q (.bl true) S'
theorem dJe{K:Fg}{n:Nat}{H:Hp}{a pt:Addr}{lp:Pos}{qual:Str}{ns:List Int}(hl:ns.length<=n)(hP:H pt=some (.tbl #[]))(hS:SqL K H a (ns.map V.int)):spU K (bJ9 pt lp qual n) [.ref a] H (λv _=>v=.bl true) λ_ _ _=>False:=by
 have B:a≠pt\/SqL K (λ_=>none) a (ns.map V.int):=by
  rcases hS with r|z
  ·refine .inl λz=>?_;rcases r with r|⟨o,r⟩ <;> rw[z,hP] at r <;> cases r
  ·exact .inr (.inr z)
 refine⟨λ_=>False,λb=>if b=pt then some (.tb lp qual) else none,[.lst (ns.map D.int)],λd _=>d=.bl true,⟨λb o e=>?_,λ_ (h:False)=>h.elim⟩,RepL.cons ?_ RepL.nil,⟨ns,rfl,hl,if_pos rfl,λb j=>if_neg j,λ_=>rfl⟩,λv d H' S' _ _ h e=>by subst e;exact rbl h⟩
 ·by_cases j:b=pt
  ·rw[if_pos j] at e;cases e;subst j;exact⟨#[],hP,trivial,.inl rfl⟩
  ·rw[if_neg j] at e;cases e
 ·unfold RepV;refine⟨a,_,rfl,?_,eX4⟩;rcases B with B|z
  ·rcases hS with r|z
   ·exact .inl ⟨λz=>z.elim (λw=>w (if_neg B)) id,r⟩
   ·exact .inr (.inr z)
  ·exact .inr z
def cXp(K:ap)(x:Str)(c:Addr):Prop:=∃f oc od fd sl,bh K aP x=some (some (.ref f))/\K.lookup f=some ⟨oc,od,.func fd,sl⟩/\fd.code=.ref c
theorem codeIn_mk{K:ap}{x:Str}{c f:Addr}{oc:ad}{od:Option Addr}{fd:cR}{sl:Array (Option ad)}(a:bh K aP x=some (some (.ref f)))(l:K.lookup f=some ⟨oc,od,.func fd,sl⟩)(e:fd.code=.ref c):cXp K x c:=⟨f,oc,od,fd,sl,a,l,e⟩
theorem cXq{K:ap}{h:aY}{mg:Str->Option ad}{x:Str}{c:Addr}(X:K.In h)(G:h.Ns aP mg)(ht:cXp K x c):bZi K mg x c:=by
 obtain⟨B,oc,z,j,sl,a,l,e⟩:=ht;intro f o fd m lk hd;have e1:=jo X G a;rw[m] at e1;cases e1;rw[l] at lk;cases lk;cases hd;exact e
def eJ0(st:Stmt):Pos:=match aQz st with
 |[.Return (some (.Call _ _ (⟨_,.Lambda _ _ _ p,_⟩::_) _)) _]=>p
 |_=>⟨0,0,0,0⟩
abbrev lamQual(x:Str):Str:=x ++ ".<locals>." ++ "<lambda>"
theorem walkT{l:PySem.W.OpenLaw}{q:aC}{loose:List Str}{XP:(Str->Option ad)->aY->Prop}{YP:aL->aY->Prop}{d:DefRec}{K:Params->ap}{lp:Pos}{qual x:Str}{pt:Addr}(hn:l.most=some 63)(hdf:d.params.defaults=[])
  (hY:∀(w:aL) (h:aY),YP w h->(K w.params).In h/\h.get? pt=some (fT #[]))
  (R:∃ c:Addr,(∀ p,cXp (K p) x c)/\(∀ p,PySem.W.codeHdIn (K p) c pt=true)/\(∀ p,(K p).lookup pt=none) /\
   ∀(w:aL) (mg:Str->Option ad) (fa:Addr) (h:aY),(K w.params).In h->h.Ns aP mg->mg d.name=some (.ref fa)->bZi (K w.params) mg x c ->
   ∃fd:cR,(∀(s:ah) (u:ad),BindsTo s fd ⟨[u],[]⟩ [("script",u)])/\∀base:aY,(K w.params).In base->base.Ns aP mg->TabF base mg c pt->FnOk l.prog w (K w.params) mg base CX0 50 fa fd ["script"] (spU (K w.params) (bJ9 pt lp qual 63))) :
  PySem.W.WalkO q loose XP YP l.row.toRowW d [] (λf vs=>PySem.call f vs):=by
 obtain⟨c,L,hh,B,F⟩:=R;refine Att.attach_call hn hdf λw s₀ J mg mb fa o pm cd doc a vs ns G Y ho hd U D j hints hlen O=>?_;obtain⟨z,N⟩:=hY w _ Y;obtain⟨fd,Z,hF⟩:=F w mg fa _ z G.T.g D (cXq z G.T.g (L _));exact cXo z G.T.g G.T.b G.T.builtins G.T.nolimit O j hints (Nat.le_trans hlen (by decide)) ⟨rfl,by decide,by decide⟩ ⟨PySem.W.codeHd_of_K z (hh _),G.T.bmain⟩ N (B _) hF Z λH hP hS=>dJe hlen hP hS
end L2
namespace Toy
open PySem L2
abbrev s_most_had:Stmt:=top 10
theorem bXb:FnScope ["sets", "names"] ["sets", "names"] (aQ3 s_most_had):=fsc
abbrev lposM:Pos:=eJ0 s_most_had
def aJp(pt:Addr):SpD:=λds S Q=>∃(ts:List (List Str)) (ns:List Str),ds=[.tup (ts.map tupS),tupS ns]/\S pt=some (.tb lposM (lamQual "most_had"))/\ts.length<=1000/\ns≠[]/\Q (.str (mst ts ns)) S
section
variable{P:aC}{w:aL}{K:ap}{mg:Str->Option ad}{base:aY}{pt cc:Addr}
theorem bXc(T:Tx K mg "most_had" s_most_had)(B:Bs mg)(CD:bZi K mg "most_had" cc)(TF:TabF base mg cc pt)(d_how_many_have:Df P w K mg base 1 "how_many_have" ["sets", "name"] (spU K aZi)):Df P w K mg base 4 "most_had" ["sets", "names"] (spU K (aJp pt)):=by
 refine eXm T CD bXb (λF=>F.binds λ_ _ _ _ _ _=>us2 λ_ _=>rfl) ?_ λf A outer s H E N=>⟨_,(aQ4 (aQf (eXn (z:="sets") N rfl B.max TF (dv 1) ⟨rfl,rfl,rfl,rfl,by decide,(show("name":Str)∉[("sets":Str), "names"] from by decide),rfl,rfl⟩ (λ_ _ _ _ _=>aQ9 d_how_many_have (N.in1.deeper _) rfl (aQ0 (dv 1) (aQ0 (dv 0) aQ1)))))),?_⟩
 ·rintro ds S Q ⟨J,ns,rfl,_⟩;rfl
 ·rintro ds S Q ⟨J,ns,rfl,Y,U,O,q⟩;refine⟨Y,ns.map D.str,λi=>(hmh J (ns.getD i ⟨#[]⟩):Int),rfl,λz=>O (List.map_eq_nil_iff.mp z),λi x L=>?_,λx L=>?_⟩
  ·rw[aK,a8] at L;obtain⟨n,j,rfl⟩:=L;refine⟨J,n,rfl,U,?_,rfl⟩;show D.int (hmh J n:Nat)=D.int (hmh J (ns.getD i ⟨#[]⟩):Nat);rw[ak,j];rfl
  ·rw[am,aK,a8] at L;obtain⟨n,j,rfl⟩:=L;have e:mst J ns=n:=by
    unfold mst;rw[ak,j];rfl
   rw[e] at q;exact aQi q
end
abbrev s_names_of:Stmt:=top 5
theorem sc_names_of:FnScope ["sets"] ["sets"] (aQ3 s_names_of):=fsc
def aXr:SpD:=λds S Q=>∃(ts:List (List Str)),ds=[.tup (ts.map tupS)]/\ts.length<=9999/\ts.flatten.length<=240/\Q (tupS (nms ts)) S
section
variable{P:aC}{w:aL}{K:ap}{mg:Str->Option ad}{base:aY}{pt cc:Addr}
theorem bXd(T:Tx K mg "names_of" s_names_of)(B:Bs mg):Df P w K mg base 1 "names_of" ["sets"] (spU K aXr):=by
 refine aZk T sc_names_of (λF=>F.binds λ_ _ _ _ _ _=>us1 λ_=>rfl) ?_ λf cdv A outer s H E Z=>⟨_,(aQ4 (aQf (aQo rfl B.tuple (aQ0 (dXv (N':=["one", "name"]) (oc:=none) (b:=false) [0,1] [1] Z rfl B.sorted rfl sc_names_of.nd (λ_ _ _=>bJm _ _ _ _ _ _ _ _ _ _ _ _) (.own (.own .nil)) (aQh rfl) (aZ5 (dv 0)) (cg_name (i:=0)) (λ_ _ _ _ _=>aQe (i:=0) (nd_ ["one", "name"]) rfl (bf rfl) (.inr rfl)) (λ_ _ _ _ _=>aQr) (cX7 (cg_name (i:=1)) eXk) (λ_ _ _ _ _ _=>cJ6 (m:=λacc=>emitOfS _ acc _) rfl rfl rfl (λ_=>bJn _ _ _ _ _ _ _ _ _ _ _ _) (by exact PID.o (aZ5 (dv 0))) (aQe (i:=1) (nd_ ["one", "name"]) rfl (bf rfl) (.inr rfl)) (aQr) (cJv (kn:=bJo _ _ _) rfl (lt10 Z) rfl rfl rfl (by exact PD.o (dv 1))) (λ_=>rfl) (λ_=>rfl) (λ_=>rfl) (λ_=>rfl) (λ_=>rfl))) aQ1)))),?_⟩
 ·rintro ds S Q ⟨ts,rfl,_⟩;rfl
 ·rintro ds S Q ⟨ts,rfl,hl,hs,q⟩;have sub:∀i:Nat,((ts.take i).flatten).length<=240:=λi=>by have e:=congrArg (λl:List (List Str)=>l.flatten.length) (a6 i ts);simp only[bV,aB] at e;omega
  refine⟨ts.map tupS,rfl,bQh (λi acc S'=>S'=S/\acc=((ts.take i).flatten).map D.str) ⟨rfl,rfl⟩ ?_ ?_⟩
  ·rintro i x acc S' N J ⟨rfl,rfl⟩ hN;rw[aK,a8] at J;obtain⟨t,Y,rfl⟩:=J;refine⟨trivial,t.map D.str,rfl,bQh (λj acc O=>O=S'/\acc=((ts.take i).flatten++t.take j).map D.str) ⟨rfl,by rw[jf,bY]⟩ ?_ ?_⟩
   ·rintro j y acc O N2 U ⟨rfl,rfl⟩ L;rw[aK,a8] at U;obtain⟨n,hn,rfl⟩:=U;refine⟨trivial,n,rfl,?_,L _ _ ⟨rfl,?_⟩⟩
    ·have b1:=sub (i+1);rw[cw,Y,bV,aB] at b1;have b2:(t.take j).length<=(Option.some t).toList.flatten.length:=by
      show _<=[t].flatten.length;rw[aV];simp;omega
     rw[am,aB];omega
    ·rw[cw,hn];simp
   ·rintro acc O ⟨rfl,rfl⟩;rw[am,cT];refine⟨trivial,hN _ _ ⟨rfl,?_⟩⟩;rw[cw,Y,bV];simp
  ·rintro acc S' ⟨rfl,rfl⟩;rw[am,cT];refine⟨trivial,ts.flatten,rfl,λout nd mem=>?_⟩;have z:∀x,x∈out↔∃t∈ts,x∈t:=λx=>(mem x).trans dF;refine⟨?_,λpw=>?_⟩
   ·have:out.length<=ts.flatten.length:=nd.length_le_of_subset λx J=>(mem x).mp J
    omega
   ·rw[eXo pw z];exact⟨_,rfl,aQi q⟩
end
abbrev s_has_all:Stmt:=top 1
theorem sc_has_all:FnScope ["one", "row"] ["one", "row"] (aQ3 s_has_all):=fsc
section
variable{P:aC}{w:aL}{K:ap}{mg:Str->Option ad}{base:aY}{pt cc:Addr}
theorem bJs(T:Tx K mg "has_all" s_has_all)(B:Bs mg):Df P w K mg base 1 "has_all" ["one", "row"] (spU K bQ2):=by
 refine aZk T sc_has_all (λF=>F.binds λ_ _ _ _ _ _=>us2 λ_ _=>rfl) ?_ λf N A outer s H E J=>⟨_,(aQ4 (aQf (eJv rfl B.all (aQ0 (aQs (N':=["name", "one"]) (oc:=none) (b:=false) [0] [] rfl sc_has_all.nd (λ_ _ _=>aQd ..) (.own (.cap (i:=0) rfl (by decide +kernel) .nil)) (aQh rfl) (aZ5 (dv 1)) (cg_name (i:=0)) (λ_ _ _ _ _=>aQe (i:=0) (nd_ ["name", "one"]) rfl (bf rfl) (.inr rfl)) (λ_ _ _ _ _=>aQr) aQl (λ_ _ _ _ _ _=>aQj rfl (by exact PD.o (e_in J (dv 0) (dv 1))))) aQ1)))),?_⟩
 ·rintro ds S Q ⟨α,dα,E,one,row,j,L,rfl,_⟩;rfl
 ·rintro ds S Q ⟨α,dα,E,one,row,j,L,rfl,U,h1,h2,O,q⟩;have go:∀Q':List D->Sto->Prop,Q' (row.map λd=>D.bl (decide (d∈one))) S->aZ1 (aZ7 0) dYes (aXj (dOp (inD false) (dVar 0) (dVar 1))) (λ_=>True) [none,some j] (row.map E.e) [] S Q':=λQ' z =>
   aQy (f:=λd=>D.bl (decide (d∈one))) (λd hd Q q=>in_e (neg:=false) (E:=E) (by omega) h1.sq q) (aQ8 (by show 0+row.length<=_;omega)) z
  have e:(row.map λd=>decide (d∈one)).all id=has one row:=by unfold has;rw[fN];rfl
  rw[<- e] at q;rcases h2 with rfl|rfl
  ·exact⟨row.map E.e,rfl,go _ ⟨row.map λd=>decide (d∈one),by show _=_;rw[bW];rfl,aQi q⟩⟩
  ·exact⟨row.map E.e,rfl,go _ ⟨row.map λd=>decide (d∈one),by show _=_;rw[bW];rfl,aQi q⟩⟩
end
abbrev s_without_names:Stmt:=top 3
theorem sc_without_names:FnScope ["one", "row"] ["one", "row"] (aQ3 s_without_names):=fsc
section
variable{P:aC}{w:aL}{K:ap}{mg:Str->Option ad}{base:aY}{pt cc:Addr}
theorem aXx(T:Tx K mg "without_names" s_without_names)(B:Bs mg):Df P w K mg base 1 "without_names" ["one", "row"] (spU K aZh):=by
 refine aZk T sc_without_names (λF=>F.binds λ_ _ _ _ _ _=>us2 λ_ _=>rfl) ?_ λf O A outer s H E L=>⟨_,(aQ4 (aQf (aQo rfl B.tuple (aQ0 (aQs (N':=["name", "row"]) (oc:=none) (b:=false) [0] [] rfl sc_without_names.nd (λ_ _ _=>aQd ..) (.own (.cap (i:=1) rfl (by decide +kernel) .nil)) (aQh rfl) (aZ5 (dv 0)) (cg_name (i:=0)) (λ_ _ _ _ _=>aQe (i:=0) (nd_ ["name", "row"]) rfl (bf rfl) (.inr rfl)) (λ_ _ _ _ _=>aX2 (by exact(dQq L (dv 0) (dv 1)))) aQl (λ_ _ _ _ _ _=>aQj rfl (by exact PD.o (dv 0)))) aQ1)))),?_⟩
 ·rintro ds S Q ⟨α,dα,E,one,row,N,j,rfl,_⟩;rfl
 ·rintro ds S Q ⟨α,dα,E,one,row,N,j,rfl,Y,h1,h2,U,q⟩;have go:∀Q':List D->Sto->Prop,Q' ((wo one row).map E.e) S->aZ1 (aZ7 0) (aXf (dOp (inD true) (dVar 0) (dVar 1))) (aXj (dVar 0)) (λ_=>True) [none,some j] (one.map E.e) [] S Q':=λQ' z =>
   aZc (p:=λn=>!decide (n∈row)) (f:=E.e) (λx J Q q=>in_t (neg:=true) (E:=E) (by omega) h2.sq q) (λx J _ Q q=>q) (aQ8 (by show 0+one.length<=_;omega)) z
  rcases h1 with rfl|rfl
  ·exact⟨one.map E.e,rfl,go _ ⟨_,rfl,aQi q⟩⟩
  ·exact⟨one.map E.e,rfl,go _ ⟨_,rfl,aQi q⟩⟩
end
abbrev s_link_of:Stmt:=top 6
theorem sc_link_of:FnScope ["sets", "row"] ["sets", "row"] (aQ3 s_link_of):=fsc
def aJq:SpD:=λds S Q=>∃(ts:List (List Str)) (row:List Str),ds=[.tup (ts.map tupS),tupS row]/\ts.length<=1000/\row.length<=9999/\(∀t∈ts,t.length<=9999)/\Q (.tup ((lnk ts row).map tupS)) S
section
variable{P:aC}{w:aL}{K:ap}{mg:Str->Option ad}{base:aY}{pt cc:Addr}
theorem bJt(T:Tx K mg "link_of" s_link_of)(B:Bs mg)(d_has_all:Df P w K mg base 1 "has_all" ["one", "row"] (spU K bQ2))(d_without_names:Df P w K mg base 1 "without_names" ["one", "row"] (spU K aZh)):Df P w K mg base 2 "link_of" ["sets", "row"] (spU K aJq):=by
 refine aZk T sc_link_of (λF=>F.binds λ_ _ _ _ _ _=>us2 λ_ _=>rfl) ?_ λf J A outer s H E j=>⟨_,(aQ4 (aQf (aQo rfl B.tuple (aQ0 (aQx (b:=false) j rfl B.sorted (aQ0 (aQs (N':=["one", "row"]) (oc:=none) (b:=false) [0] [] rfl sc_link_of.nd (λ_ _ _=>aQd ..) (.own (.cap (i:=1) rfl (by decide +kernel) .nil)) (aQh rfl) (aZ5 (dv 0)) (cg_name (i:=0)) (λ_ _ _ _ _=>aQe (i:=0) (nd_ ["one", "row"]) rfl (bf rfl) (.inr rfl)) (λ_ _ _ _ _=>aX2 (by exact(aZx (aQ9 d_has_all j rfl (aQ0 (dv 0) (aQ0 (dv 1) aQ1)))))) aQl (λ_ _ _ _ _ _=>aQj rfl (by exact PD.o (aQ9 d_without_names j rfl (aQ0 (dv 0) (aQ0 (dv 1) aQ1)))))) aQ1)) aQ1)))),?_⟩
 ·rintro ds S Q ⟨z,row,rfl,_⟩;rfl
 ·rintro ds S Q ⟨z,row,rfl,L,j,he,q⟩;refine⟨_,rfl,aZc (p:=λt=>has t row) (f:=λt=>tupS (wo t row)) (λt D Q q=>⟨Str,inferInstance,strE,t,row,tupS t,tupS row,rfl,by decide,.inl rfl,.inl rfl,j,q⟩) (λt D _ Q q=>⟨Str,inferInstance,strE,t,row,tupS t,tupS row,rfl,by decide,.inl rfl,.inl rfl,he t D,q⟩) (aQ8 (by show 0+z.length<=_;omega)) ?_⟩
  exact .inr (.inr ⟨(z.filter λt=>has t row).map λt=>wo t row,by rw[bo,bW];rfl,_,rfl,aQi q⟩)
end
abbrev s_put_again:Stmt:=top 12
theorem sc_put_again:FnScope ["chosen", "taken"] ["chosen", "taken"] (aQ3 s_put_again):=fsc
def aXs:SpD:=λds S Q=>∃(cs:List (List Str)) (tk:List Str),ds=[.tup (cs.map tupS),tupS tk]/\cs.length<=1000/\(∀t∈cs,t.length<=1000)/\tk.length<=1000/\Q (.tup ((pag cs tk).map tupS)) S
section
variable{P:aC}{w:aL}{K:ap}{mg:Str->Option ad}{base:aY}{pt cc:Addr}
theorem bZo(T:Tx K mg "put_again" s_put_again)(B:Bs mg):Df P w K mg base 1 "put_again" ["chosen", "taken"] (spU K aXs):=by
 refine aZk T sc_put_again (λF=>F.binds λ_ _ _ _ _ _=>us2 λ_ _=>rfl) ?_ λf D A outer s H E z=>⟨_,(aQ4 (aQf (aQo rfl B.tuple (aQ0 (aQx (b:=false) z rfl B.sorted (aQ0 (aQs (N':=["one", "taken"]) (oc:=none) (b:=false) [0] [] rfl sc_put_again.nd (λ_ _ _=>aQd ..) (.own (.cap (i:=1) rfl (by decide +kernel) .nil)) (aQh rfl) (aZ5 (dv 0)) (cg_name (i:=0)) (λ_ _ _ _ _=>aQe (i:=0) (nd_ ["one", "taken"]) rfl (bf rfl) (.inr rfl)) (λ_ _ _ _ _=>aQr) aQl (λ_ _ _ _ _ _=>aQj rfl (by exact PD.o (aQo rfl B.tuple (aQ0 (aQx (b:=false) z rfl B.sorted (aQ0 (aZ0 (k:=false) (dv 0) (dv 1)) aQ1)) aQ1))))) aQ1)) aQ1)))),?_⟩
 ·rintro ds S Q ⟨cs,j,rfl,_⟩;rfl
 ·rintro ds S Q ⟨cs,j,rfl,L,he,J,q⟩;refine⟨_,rfl,aQy (f:=λt=>tupS (srS (t++j))) (λt h Q q=>⟨aQ8 (by rw[am,am];have:=he t h;omega),.inl ⟨t++j,by rw[bq];rfl,_,rfl,q⟩⟩) (aQ8 (by show 0+cs.length<=_;omega)) ?_⟩
  refine .inr (.inr ⟨cs.map λt=>srS (t++j),by rw[bo,bW];rfl,_,rfl,aQi q⟩)
end
end Toy
namespace L2
open PySem PySem.Spec PyProof.Rows
section
variable{prog:aC}{w:aL}{A:aO}{R:Result->ah->Prop}{s0:ah}{a I:Addr}{its:List ad}{bs:List Bool}
theorem cXr(hh:A.in1.handled=none)(haI:a≠I)(hI:s0.heap.objs.size<=I)(hl:bs.length=its.length)
  (tr:∀(i:Nat) v h,its[i]?=some v->Kp s0.heap h->∃b items,v=.ref b/\gH h b items/\(items.size:Int)<2^63/\bs[i]?=some (!items.isEmpty))
  (fin:∀h tk,Kp s0.heap h->R (.ok (.ret (.bool (bs.any id)))) {s0 with heap:=h,toks:=tk}) :
  ∀(left i:Nat) (h:aY) (tk:Nat),i+left=its.length->Kp s0.heap h->h.IsTupleIter I a i->h.IsTuple a its.toArray->(bs.take i).any id=false ->
   eF (az prog w) A (.builtin "any.loop" ⟨[.ref I],[]⟩) R {s0 with heap:=h,toks:=tk}:=by
 have U:∀b o,s0.heap.get? b=some o->b∉[I]:=λb o e z=>absurd (aD e) (by rw[aU.mp z];exact Nat.not_lt.mpr hI)
 have W:=jh (prog:=prog) (w:=w) (A:=A.in1) hh I a haI its.toArray;have e1:its.toArray.size=its.length:=by simp
 rw[e1] at W;intro left
 induction left with
 |zero =>
  intro i h tk hi kp D B L;have e:i=its.length:=by omega
  subst e;rw[bQ (by omega)] at L
  refine cH F.entry_any_loop ?_;rw[bH F.plain_any_loop _];show aF (az prog w) A.in1 (fj (.ref I)>>=_) _ _ {s0 with heap:=h,toks:=tk}
  refine aa (W.done _ _ _ ⟨D,B⟩ λh1 j N=>aa (cJ (af ?_)))
  have:=fin h1 j λb o e=>N b o (U b o e) (kp b o e)
  rw[L] at this;exact this
 |succ left Z =>
  intro i h tk hi kp D B L;have O:i<its.length:=by omega
  refine cH F.entry_any_loop ?_;rw[bH F.plain_any_loop _];show aF (az prog w) A.in1 (fj (.ref I)>>=_) _ _ {s0 with heap:=h,toks:=tk}
  refine aa (W.item i _ _ _ O ⟨D,B⟩ λv h1 j hv st N=>?_);have J:Kp s0.heap h1:=λb o e=>N b o (U b o e) (kp b o e);obtain⟨b,items,rfl,tb,hz,Y⟩:=tr i v h1 (by simpa using hv) J
  refine aa (bM (truthy_tuple tb hz (aa (ij ?_))));cases e:!items.isEmpty with
  |false =>
   rw[if_neg (by simp)]
   refine af ⟨cV F.plain_any_loop _,Z (i+1) h1 _ (by omega) J st.1 st.2 ?_⟩
   rw[cw,Y,List.any_append,L,e];rfl
  |true =>
   rw[if_pos rfl];refine aa (cJ (af ?_))
   have:=fin h1 (j+1+1) J
   rw[show bs.any id=true from eX.mpr ⟨true,ao (by rw[Y,e]),rfl⟩] at this
   exact this
end
section
variable{X:Cx}{K:Fg}
theorem bJu(hK:X.K=K:=by rfl)(hc:X.calm=true:=by rfl):CallR X (.builtin "any") (λxs H Q=>∃a us,∃bs:List Bool,xs=[.ref a]/\SqT K H a us/\bs.length=us.length/\(∀(i:Nat) u,us[i]?=some u->∃b ys,u=.ref b/\SqT K H b ys/\bs[i]?=some (!ys.isEmpty))/\Q (.bl (bs.any id)) H):=by
 subst hK;intro pins s σ H xs us Q I r h;obtain⟨a,vs,bs,rfl,U,Z,O,q⟩:=h;obtain⟨u,rfl,rx⟩:=aX0 r;cases rx;obtain⟨its,z,pl,_⟩:=I.tuple U;obtain⟨o,Y,_⟩:=id pl;have B:a<s.heap.objs.size:=aD Y;refine call_function_tree F.kind_any F.plain_any F.entry_any (F.args_any1 _) ?_;unfold cK.«any»;refine aa (m:=oneArg "any" _) (af ?_);refine aa (gY (show s.heap.IsTuple a its.toArray from pl) ?_)
 have D:Kp s.heap (s.heap.push {cls:=.type "tuple_iterator",data:=.fields #[.ref a,.int 0 0]}):=λb o e=>ae _ e;refine af ⟨cV F.plain_any_loop _,cXr (s0:=s) (by have:=I.ok.hd hc;simp[this]) (Nat.ne_of_lt B) (Nat.le_refl _) (by rw[Z,z.length]) (λi v h J kp=>?_) (λh tk kp=>⟨.bl _,H,I.kept kp,rfl,q⟩) its.length 0 _ _ (Nat.zero_add _) D ⟨_,ax _ rfl,rfl,rfl⟩ ((show s.heap.IsTuple a its.toArray from pl).at λo e=>D _ o e) rfl⟩
 have hi:i<vs.length:=by rw[z.length];exact(aE.mp J).1
 obtain⟨u,h1,h2⟩:=z.get (ag hi);rw[J] at h1;cases h1;obtain⟨b,ys,e,L,eb⟩:=O i _ (ag hi);rw[e] at h2;cases h2;obtain⟨ws,j,N,hw⟩:=(I.kept (t':=s.toks) kp).tuple L;have hn:=aJ5;refine⟨b,ws.toArray,rfl,N,by simp only[aq];have:=j.length;omega,?_⟩
 rw[eb,aX9 j]
def dJf:RCD:=λds S Q=>∃xs:List (List D),ds=[.tup (xs.map D.tup)]/\Q (.bl (xs.any λx=>!x.isEmpty)) S
variable{e:Expr}{t:AD}{p pos:Pos}
theorem dJg:aXv K (λxs H Q=>∃a us,∃bs:List Bool,xs=[.ref a]/\SqT K H a us/\bs.length=us.length/\(∀(i:Nat) u,us[i]?=some u->∃b ys,u=.ref b/\SqT K H b ys/\bs[i]?=some (!ys.isEmpty))/\Q (.bl (bs.any id)) H) dJf:=by
 intro F S H ds L Q QD r l h c;obtain⟨xs,rfl,q⟩:=h;obtain⟨v,rfl,j⟩:=l.one;unfold RepV at j;obtain⟨a,us,rfl,ta,l⟩:=j;have el:us.length=xs.length:=by rw[l.length,am]
 refine⟨a,us,xs.map λx=>!x.isEmpty,rfl,ta.sq,by rw[am,el],λi u J=>?_,?_⟩
 ·obtain⟨d,hd,z⟩:=l.get' J;rw[aK,a8] at hd;obtain⟨x,D,rfl⟩:=hd;unfold RepV at z;obtain⟨b,ys,rfl,tb,B⟩:=z;refine⟨b,ys,rfl,tb.sq,?_⟩;rw[aK,D]
  have:=B.length
  cases x <;> cases ys <;> first|rfl|simp at this
 ·rw[iY];exact c.bl r q
theorem eJ1(hg:Gl X "any")(hm:X.mg "any"=none)(ha:PAD K X [e] t)(hK:X.K=K:=by rfl)(hc:X.calm=true:=by rfl)(he:av [e] X.env=(false,eval e X.env)::av [] X.env:=by rfl)(hpl:(bZ pos (av [] X.env)).any (·.1)=false:=by rfl):PD K X (.Call (.Name "any" p) [e] [] pos) (dCB dJf t):=aZb (bJu hK hc) dJg hg hm dQe ha (by decide) (by decide) he hpl
end
end L2
namespace Toy
open PySem L2
abbrev s_flower_by_way:Stmt:=top 8
theorem sc_flower_by_way:FnScope ["sets", "many", "left", "taken", "trace", "chosen", "name"] ["sets", "many"] (aQ3 s_flower_by_way):=fsc
def dQx(pt:Addr):SpD:=λds S Q=>∃(ts:List (List Str)) (m:Nat),ds=[.tup (ts.map tupS),.int m]/\S pt=some (.tb lposM (lamQual "most_had"))/\Wc 6 ts/\m<=60/\Q (wayD m ts) S
section
variable{P:aC}{w:aL}{K:ap}{mg:Str->Option ad}{base:aY}{pt cc:Addr}
theorem aXy(T:Tx K mg "flower_by_way" s_flower_by_way)(B:Bs mg)(d_chosen_of:Df P w K mg base 4 "chosen_of" ["sets"] (spU K aXq))(d_most_had:Df P w K mg base 4 "most_had" ["sets", "names"] (spU K (aJp pt)))(d_names_of:Df P w K mg base 4 "names_of" ["sets"] (spU K aXr))(d_link_of:Df P w K mg base 4 "link_of" ["sets", "row"] (spU K aJq))(d_put_again:Df P w K mg base 4 "put_again" ["chosen", "taken"] (spU K aXs)):Df P w K mg base 5 "flower_by_way" ["sets", "many"] (spU K (dQx pt)):=by
 refine aZk T sc_flower_by_way (λF=>F.binds λ_ _ _ _ _ _=>us2 λ_ _=>rfl) ?_ λf cdv A outer s H E O=>⟨_,(aQ2 (aQa (i:=2) sc_flower_by_way.nd rfl (bf rfl) (dv 0))
  (aQ2 (aQa (i:=3) sc_flower_by_way.nd rfl (bf rfl) (aXu aQ1))
  (aQ2 (aQa (i:=4) sc_flower_by_way.nd rfl (bf rfl) (aZa (b:=true) aQ1))
  (aQ2 (aQa (i:=5) sc_flower_by_way.nd rfl (bf rfl) (aQ9 d_chosen_of O rfl (aQ0 (dv 2) aQ1)))
  (aQ2 (bXr cI (PWD.pt (dQr (cZ6 O (aZj rfl B.len (aQ0 (dv 5) aQ1)) (dv 1)) (cZ7 (aZx (eJ1 rfl B.any (aQ0 (dv 5) aQ1)))))) (aQ2 (aQa (i:=6) sc_flower_by_way.nd rfl (bf rfl) (aQ9 d_most_had O rfl (aQ0 (dv 2) (aQ0 (aQ9 d_names_of O rfl (aQ0 (dv 5) aQ1)) aQ1))))
  (aQ2 (aZf (aZ8 (dv 4) (aQ0 (aXu (aQ0 (aZj rfl B.len (aQ0 (dv 5) aQ1)) (aQ0 (dv 6) (aQ0 (aZj rfl B.len (aQ0 (dv 2) aQ1)) aQ1)))) aQ1)))
  (aQ2 (aQa (i:=3) sc_flower_by_way.nd rfl (bf rfl) (aZ0 (k:=false) (dv 3) (aXu (aQ0 (dv 6) aQ1))))
  (aQ2 (aQa (i:=2) sc_flower_by_way.nd rfl (bf rfl) (aQ9 d_link_of O rfl (aQ0 (dv 2) (aQ0 (aXu (aQ0 (dv 6) aQ1)) aQ1))))
  (aQ4 (aQa (i:=5) sc_flower_by_way.nd rfl (bf rfl) (aQ9 d_chosen_of O rfl (aQ0 (dv 2) aQ1)))))))))
  (aQ2 (aZf (aZ8 (dv 4) (aQ0 (aXu (aQ0 (aZj rfl B.len (aQ0 (dv 5) aQ1)) (aQ0 cJe (aQ0 (aZj rfl B.len (aQ0 (dv 2) aQ1)) aQ1)))) aQ1)))
  (aQ2 (aXi (cZ6 O (aZj rfl B.len (aQ0 (dv 5) aQ1)) (dv 1)) (aQ4 (aQf (aXu (aQ0 cJe (aQ0 (aQo rfl B.tuple (aQ0 (dv 4) aQ1)) aQ1))))) aQv)
  (aQ4 (aQf (aXu (aQ0 (aQ9 d_put_again O rfl (aQ0 (e_sl (b:=false) (dv 5) bQd (aXh (dv 1))) (aQ0 (dv 3) aQ1))) (aQ0 (aQo rfl B.tuple (aQ0 (dv 4) aQ1)) aQ1)))))))))))),?_⟩
 ·rintro ds S Q ⟨U,m,rfl,_⟩;rfl
 ·rintro ds S Q ⟨U,m,rfl,hP,hW,hm,q⟩;refine⟨aQ8 (by decide),aQ8 (by decide),λlp N=>?_⟩
  have hpl:pt≠lp:=by rintro rfl;rw[N] at hP;cases hP
  have lim:∀{k:Nat}{us:List (List Str)},Wc k us->k<=6->∀t∈us,t.length<=9999:=λh hk t Y=>by have:=(h.each t Y).2;omega
  refine⟨U,rfl,by have:=hW.len;omega,lim hW (Nat.le_refl _),?_⟩
  refine⟨λf Γ S'=>∃ (us:List (List Str)) (j:List (Nat × Str × Nat)) (x6:Option D),Γ=[some (.tup (U.map tupS)),some (.int m),some (.tup (us.map tupS)),some (tupS (j.map λs=>s.2.1)),some (.ref lp),some (.tup ((chs us).map tupS)),x6]/\S' lp=some (.lst (j.map stD))/\Wc f us/\f + j.length<=6/\wayS m 6 U=(j++(wayS m f us).1,(wayS m f us).2)/\∀ b o,S b=some o->S' b=some o,
   ⟨6,U,[],none,rfl,supd_same,hW,Nat.le_refl _,rfl,λb o e=>by rw[aQ6 (by rintro rfl;rw[N] at e;cases e)];exact e⟩,?_⟩
  rintro f Γ S' ⟨us,j,x6,rfl,hS,L,hf,hw,off⟩;have cl:(chs us).length<=130:=Nat.le_trans (aZp us).length_le L.len;have tst:∀Q:Bool->Sto->Prop,Q (goW m us) S'->dAnd (aXf (dOp ltD (dCB lenD (bZ8 (dVar 5) dNil)) (dVar 1))) (dTru (dCB dJf (bZ8 (dVar 5) dNil))) [some (.tup (U.map tupS)),some (.int m),some (.tup (us.map tupS)),some (tupS (j.map λs=>s.2.1)),some (.ref lp),some (.tup ((chs us).map tupS)),x6] S' Q:=λQ J=>by
   refine⟨_,rfl,_,rfl,?_⟩;rw[am];have e1:decide (((chs us).length:Int)<(m:Int))=decide ((chs us).length<m):=decide_eq_decide.mpr (by omega)
   rw[e1];unfold goW at J;cases e:decide ((chs us).length<m) with
   |false =>
    rw[e] at J;exact ite2 (λh=>nomatch h) λ_=>J
   |true =>
    rw[e,ga] at J;refine ite2 (λ_=>⟨(chs us).map λt=>t.map D.str,by rw[bW];rfl,bZk ?_⟩) λh=>absurd rfl h
    have e2:((chs us).map λt=>t.map D.str).any (λx=>!x.isEmpty)=(chs us).any λt=>!t.isEmpty:=by
     rw[iY]
     congr 1
     funext t;cases t <;> rfl
    rw[e2];exact J
  refine tst _ (cXf (λg=>?_) λg=>?_)
  ·have gn:=dJ7 g;cases f with
   |zero=>rw[cXd L] at g;cases g
   |succ f =>
   have hl:=L.link (nmW us);have hn:=L.nms;refine⟨chs us,rfl,by omega,Nat.le_trans (bJ4 λt Y=>(L.each t Y).1) (by omega),us,nms (chs us),rfl,off _ _ hP,by have:=L.len;omega,gn,?_⟩
   refine⟨⟨_,hS⟩,_,rfl,_,rfl,aQ8 (by show 3<=9999;decide),_,hS,by rw[am,aW];omega,?_⟩
   refine⟨aQ8 (by show 1<=9999;decide),aQ8 (by rw[am,am];show j.length+1<=9999;omega),?_⟩
   refine⟨aQ8 (by show 1<=9999;decide),us,[nmW us],rfl,by have:=L.len;omega,by show 1<=9999;decide,lim L (by omega),?_⟩
   refine⟨lnk us [nmW us],rfl,by have:=hl.len;omega,lim hl (by omega),?_⟩
   refine⟨f,Nat.lt_succ_self f,lnk us [nmW us],j++[((chs us).length,nmW us,us.length)],some (.str (nmW us)),?_,?_,hl,by rw[aB];show f+(j.length+1)<=6;omega,?_,λb o e=>?_⟩
   ·rw[bq];unfold tupS;rw[bq];rfl
   ·rw[supd_same,bq,am,am];rfl
   ·rw[hw,cXe g,aS];rfl
   ·have e':=off b o e;rw[aQ6 (by rintro rfl;rw[N] at e;cases e)];exact e'
  ·have e:wayS m 6 U=(j,us):=by rw[hw,bZj g,bY]
   refine⟨⟨_,hS⟩,_,rfl,_,rfl,aQ8 (by show 3<=9999;decide),_,hS,by rw[am,aW];omega,?_⟩
   have J:Q (.tup [opT (if (chs us).length<m then none else some (pag ((chs us).take m) (j.map λs=>s.2.1))),.tup (j.map stD++[laD us])]) S:=by
    have:=q
    unfold wayD flW trD tkW at this;rw[e] at this;exact this
   rw[am,am];have Z:supd S' lp (.lst (j.map stD++[laD us])) lp=some (.lst (j.map stD++[laD us])):=supd_same;have back:∀a o,S a=some o->supd S' lp (.lst (j.map stD++[laD us])) a=some o:=λa o e=>by rw[aQ6 (by rintro rfl;rw[N] at e;cases e)];exact off a o e
   refine⟨_,rfl,_,rfl,ite2 (λc1=>?_) λc1=>?_⟩
   ·have c2:(chs us).length<m:=by have:=of_decide_eq_true c1;rw[am] at this;omega
    rw[if_pos c2] at J;refine⟨_,Z,aQ8 (by show 2<=9999;decide),?_⟩
    exact aZo (S':=S) back J
   ·have c2:¬ (chs us).length<m:=λz=>c1 (decide_eq_true (by rw[am];omega))
    rw[if_neg c2] at J;have hm4:∀t∈(chs us).take m,t.length<=1000:=λt Y=>by have:=(L.each t ((aZp us).subset (cE Y))).2;omega
    refine⟨m,rfl,(chs us).take m,j.map λs:Nat×Str×Nat=>s.2.1,congrArg (λz:List D=>[D.tup z,tupS (j.map λs:Nat×Str×Nat=>s.2.1)]) (bJ3 (chs us) m),by rw[aV];omega,hm4,by rw[am];omega,_,Z,aQ8 (by show 2<=9999;decide),aZo (S':=S) back J⟩
end
abbrev s_law_right:Stmt:=top 22
theorem sc_law_right:FnScope ["sets", "many", "due", "found"] ["sets", "many"] (aQ3 s_law_right):=fsc
def aZz(pt:Addr):SpD:=λds S Q=>∃(ts:List (List Str)) (m:Nat),ds=[.tup (ts.map tupS),.int m]/\S pt=some (.tb lposM (lamQual "most_had"))/\Wc 6 ts/\m<=60/\Q (.bl true) S
section
variable{P:aC}{w:aL}{K:ap}{mg:Str->Option ad}{base:aY}{pt cc:Addr}
theorem bZp(T:Tx K mg "_law_right" s_law_right)(B:Bs mg)(d_law_way:Df P w K mg base 5 "_law_way" ["sets", "many"] (spU K aXp))(d_law_kinds:Df P w K mg base 5 "_law_kinds" ["found"] (spU K aZy))(d_flower_by_way:Df P w K mg base 5 "flower_by_way" ["sets", "many"] (spU K (dQx pt))):Df P w K mg base 6 "_law_right" ["sets", "many"] (spU K (aZz pt)):=by
 refine aZk T sc_law_right (λF=>F.binds λ_ _ _ _ _ _=>us2 λ_ _=>rfl) ?_ λf O A outer s H E z=>⟨_,(aQ2 (aQa (i:=2) sc_law_right.nd rfl (bf rfl) (aQ9 d_law_way z rfl (aQ0 (dv 0) (aQ0 (dv 1) aQ1))))
  (aQ2 (aQa (i:=3) sc_law_right.nd rfl (bf rfl) (aQ9 d_flower_by_way z rfl (aQ0 (dv 0) (aQ0 (dv 1) aQ1))))
  (aQ4 (aQf (eZh (aQ9 d_law_kinds z rfl (aQ0 (dv 3) aQ1)) (eZh (e_eq z (dv 3) (dv 2)) (eJs (e_eq z (aQ9 d_flower_by_way z rfl (aQ0 (dv 0) (aQ0 (dv 1) aQ1))) (dv 2))))))))),?_⟩
 ·rintro ds S Q ⟨j,m,rfl,_⟩;rfl
 ·rintro ds S Q ⟨j,m,rfl,N,J,hm,q⟩;refine⟨j,m,rfl,J,hm,j,m,rfl,N,J,hm,?_⟩;have L:=(cXn m j).ok (cXn m j);refine⟨j,m,rfl,J,true,rfl,?_⟩;refine ite2 (λ_=>?_) λh=>absurd rfl h;refine⟨L,true,eXp rfl,?_⟩;refine ite2 (λ_=>?_) λh=>absurd rfl h;refine⟨j,m,rfl,N,J,hm,L,?_⟩;show(bX5 Q).rt (D.bl (if false=true then !decide (wayD m j=wayD m j) else decide (wayD m j=wayD m j))) S
  rw[eXp rfl];exact aQi q
end
abbrev bQs:Stmt:=top 23
theorem sc_law:FnScope ["script", "pile", "turn", "great", "names", "size", "sizes", "most", "count", "sets", "many"] ["script"] (aQ3 bQs):=fsc
section
variable{P:aC}{w:aL}{K:ap}{mg:Str->Option ad}{base:aY}{pt cc:Addr}
theorem eJ2{f:Addr}{fd:cR}(Fn:Fun K "law" "law" bQs f fd)(B:Bs mg)(d_law_pile:Df P w K mg base 49 "_law_pile" ["script"] (spU K aJn))(d_law_next:Df P w K mg base 49 "_law_next" ["pile", "most"] (spU K aQw))(d_law_names:Df P w K mg base 49 "_law_names" ["pile", "many"] (spU K aXo))(d_law_collection:Df P w K mg base 49 "_law_collection" ["pile", "names", "count", "sizes"] (spU K aZ9))(d_law_right:Df P w K mg base 49 "_law_right" ["sets", "many"] (spU K (aZz pt))):FnOk P w K mg base CX0 50 f fd ["script"] (spU K (bJ9 pt lposM (lamQual "most_had") 63)):=by
 refine e_fn Fn sc_law ?_ λcdv A outer s H E U=>⟨_,(aQ2 (aQa (i:=1) sc_law.nd rfl (bf rfl) (aQ9 d_law_pile U rfl (aQ0 (dv 0) aQ1)))
  (aQ2 (aX6 cI rfl (aX5 rfl B.range (aQ0 aQ5 aQ1)) (aZe (i:=2) sc_law.nd rfl (bf rfl)) (aQ2 (aQa (i:=3) sc_law.nd rfl (bf rfl) (e_eq U (dv 2) aQ5))
  (aQ2 (aQa (i:=4) sc_law.nd rfl (bf rfl) (aQ9 d_law_names U rfl (aQ0 (dv 1) (aQ0 (aZ0 (k:=false) aQ5 (aQ9 d_law_next U rfl (aQ0 (dv 1) (aQ0 (e_ix (aZa (b:=false) (aQ0 aQ5 (aQ0 aQ5 aQ1))) (dQt rfl B.int (aQ0 (dv 3) aQ1))) aQ1)))) aQ1))))
  (aQ2 (aQa (i:=5) sc_law.nd rfl (bf rfl) (aZ0 (k:=false) aQ5 (aQ9 d_law_next U rfl (aQ0 (dv 1) (aQ0 aQ5 aQ1)))))
  (aQ2 (aQa (i:=6) sc_law.nd rfl (bf rfl) (e_ix (aZa (b:=false) (aQ0 (aZa (b:=false) (aQ0 (dv 5) aQ1)) (aQ0 (aZa (b:=false) (aQ0 (dv 5) (aQ0 (eJu rfl B.max (aQ0 aQ5 (aQ0 (eZb (dv 5) aQ5) aQ1))) aQ1))) (aQ0 (aZa (b:=false) (aQ0 aQ5 (aQ0 aQ5 (aQ0 aQ5 (aQ0 aQ5 (aQ0 aQ5 (aQ0 aQ5 (aQ0 aQ5 aQ1)))))))) (aQ0 (aZa (b:=false) (aQ0 aQ5 aQ1)) aQ1))))) (aQ9 d_law_next U rfl (aQ0 (dv 1) (aQ0 aQ5 aQ1)))))
  (aQ2 (aQa (i:=7) sc_law.nd rfl (bf rfl) (e_ix (aZa (b:=false) (aQ0 aQ5 (aQ0 aQ5 aQ1))) (dQt rfl B.int (aQ0 (dv 3) aQ1))))
  (aQ2 (aQa (i:=8) sc_law.nd rfl (bf rfl) (e_ix (aZa (b:=false) (aQ0 (aQ9 d_law_next U rfl (aQ0 (dv 1) (aQ0 aQ5 aQ1))) (aQ0 aQ5 (aQ0 (dv 7) (aQ0 (aQ9 d_law_next U rfl (aQ0 (dv 1) (aQ0 (aZ0 (k:=false) (dv 7) aQ5) aQ1))) aQ1))))) (aQ9 d_law_next U rfl (aQ0 (dv 1) (aQ0 aQ5 aQ1)))))
  (aQ2 (aQa (i:=9) sc_law.nd rfl (bf rfl) (aQ9 d_law_collection U rfl (aQ0 (dv 1) (aQ0 (dv 4) (aQ0 (dv 8) (aQ0 (dv 6) aQ1))))))
  (aQ4 (aX6 cI rfl (cZf rfl B.range (aQ0 aQ5 (aQ0 aQ5 aQ1))) (aZe (i:=10) sc_law.nd rfl (bf rfl)) (aQ4 (aXi (bZa (aZx (aQ9 d_law_right U rfl (aQ0 (dv 9) (aQ0 (dv 10) aQ1))))) (aQ4 (aQf e_bl)) aQv))))))))))))
  (aQ4 (aQf e_bl)))),?_⟩
 ·rintro ds S Q ⟨ns,rfl,_⟩;rfl
 ·rintro ds S Q ⟨ns,rfl,h63,hP,hS,q⟩;refine⟨ns,rfl,h63,λp S1 hp off dk=>⟨⟨by decide,by decide⟩,?_⟩⟩
  have J:pt≠p:=by rintro rfl;rw[hp] at hP;cases hP
  have hP1:S1 pt=some (.tb lposM (lamQual "most_had")):=(off pt J).trans hP;refine for_ind (λi Γ S'=>∃(x2 x3 x4 x5 x6 x7 x8 x9 L:Option D),Γ=[some (.lst (ns.map D.int)),some (.ref p),x2,x3,x4,x5,x6,x7,x8,x9,L]/\Pile S' p/\S' pt=some (.tb lposM (lamQual "most_had"))) ⟨none,none,none,none,none,none,none,none,none,rfl,dk,hP1⟩ ?_ ?_
  ·rintro i x Γ S2 N hx ⟨x2,x3,x4,x5,x6,x7,x8,x9,L,rfl,dk2,hP2⟩ hN;obtain⟨hi,rfl⟩:=cX2 hx;refine⟨trivial,rfl,?_⟩;generalize (if false=true then !decide (D.int (i:Nat)=D.int 2) else decide (D.int (i:Nat)=D.int 2))=b
   obtain⟨v,hv,v1,v2⟩:∃v:Nat,atI [D.int 11,.int 23] (if b=true then 1 else 0)=some (.int (v:Nat))/\1<=v/\v<=23:=by
    cases b with
    |true=>exact⟨23,rfl,by decide,by decide⟩
    |false=>exact⟨11,rfl,by decide,by decide⟩
   obtain⟨u,hu,u1,u2⟩:∃u:Nat,atI [D.int 14,.int 120] (if b=true then 1 else 0)=some (.int (u:Nat))/\14<=u/\u<=120:=by
    cases b with
    |true=>exact⟨120,rfl,by decide,by decide⟩
    |false=>exact⟨14,rfl,by decide,by decide⟩
   refine⟨aQ8 (by decide),_,_,rfl,hv,p,v,rfl,dk2,by omega,by omega,λr1 S3 r10 r11 off3 dk3=>?_⟩
   obtain⟨nn,hn,n24⟩:∃nn:Nat,2+r1=nn/\nn<=24:=⟨(2+r1).toNat,by omega,by omega⟩
   refine⟨p,nn,congrArg (λz:Int=>[D.ref p,.int z]) hn,dk3,n24,λnames S4 nd pw hl h1 off4 dk4=>?_⟩;refine⟨p,6,rfl,dk4,by decide,by decide,λr2 S5 r20 r21 off5 dk5=>?_⟩
   refine⟨aQ8 (show 1<=9999 by decide),aQ8 (show 2<=9999 by decide),aQ8 (by decide),aQ8 (by decide),aQ8 (show 4<=9999 by decide),p,4,rfl,dk5,by decide,by decide,λr3 S6 r30 r31 off6 dk6=>?_⟩
   obtain⟨sz,hsz,s1,s6⟩:∃sz:Nat,1+r2=sz/\1<=sz/\sz<=6:=⟨(1+r2).toNat,by omega,by omega,by omega⟩
   obtain⟨j,hat,sne,s99,Z⟩:∃j:List Nat,atI [D.lst [.int (1+r2)],.lst [.int (1+r2),.int (if (1+r2)-1>0 then (1+r2)-1 else 0)],.lst [.int 0,.int 1,.int 2,.int 3,.int 4,.int 5,.int 6],.lst [.int 2]] r3=some (.lst (j.map λk:Nat=>D.int (k:Nat)))/\j≠[]/\j.length<=99/\∀k∈j,k<=6:=by
    rw[hsz];have h:r3=0\/r3=1\/r3=2\/r3=3:=by omega
    rcases h with rfl|rfl|rfl|rfl
    ·exact⟨[sz],rfl,by simp,by simp,by simpa using s6⟩
    ·refine⟨[sz,sz-1],?_,by simp,by simp,by simp;omega⟩
     have e:(if (sz:Int)-1>0 then (sz:Int)-1 else 0)=((sz-1:Nat):Int):=by split <;> omega
     rw[e];rfl
    ·exact⟨[0,1,2,3,4,5,6],rfl,by simp,by simp,by decide⟩
    ·exact⟨[2],rfl,by simp,by simp,by decide⟩
   refine⟨_,_,rfl,hat,aQ8 (by decide),_,_,rfl,hu,?_⟩
   refine⟨p,15,rfl,dk6,by decide,by decide,λr4 S7 r40 r41 off7 dk7=>?_⟩
   refine⟨p,(u:Int)+1,rfl,dk7,by omega,by omega,λr5 S8 r50 r51 off8 dk8=>?_⟩
   refine⟨aQ8 (show 4<=9999 by decide),p,4,rfl,dk8,by decide,by decide,λr6 S9 r60 r61 off9 dk9=>?_⟩
   obtain⟨cn,hcn,c120⟩:∃cn:Nat,atI [D.int r4,.int 14,.int (u:Nat),.int r5] r6=some (.int (cn:Nat))/\cn<=120:=by
    have h:r6=0\/r6=1\/r6=2\/r6=3:=by omega
    rcases h with rfl|rfl|rfl|rfl
    ·exact⟨r4.toNat,by show some (D.int r4)=_;rw[show(r4.toNat:Int)=r4 by omega],by omega⟩
    ·exact⟨14,rfl,by decide⟩
    ·exact⟨u,rfl,by omega⟩
    ·exact⟨r5.toNat,by show some (D.int r5)=_;rw[show(r5.toNat:Int)=r5 by omega],by omega⟩
   refine⟨_,_,rfl,hcn,p,names,cn,j,6,rfl,dk9,nd,by omega,by omega,sne,s99,Z,by decide,λts S10 tnd tpw O tl off10 dk10=>?_⟩
   have hW:Wc 6 ts:=⟨cXb tnd tpw,λt ht=>⟨dQw (O t ht).1 (O t ht).2.1,(O t ht).2.2.2⟩,by omega,by
    refine Nat.le_trans ((bQp ts).nodup.length_le_of_subset (l₂:=names) λx hx=>?_) (by omega)
    obtain⟨t,ht,hxt⟩:=mem_nms.mp hx;exact(O t ht).2.2.1 x hxt⟩
   have Y:S10 pt=some (.tb lposM (lamQual "most_had")):=by
    rw[off10 pt J,off9 pt J,off8 pt J,off7 pt J,off6 pt J,off5 pt J,off4 pt J,off3 pt J];exact hP2
   refine⟨⟨by decide,by decide,by decide,by decide⟩,?_⟩
   refine for_ind (λk Γ S'=>∃(L:Option D),Γ=[some (.lst (ns.map D.int)),some (.ref p),some (.int (i:Nat)),some (.bl b),some (tupS names),some (.int (1+r2)),some (.lst (j.map λk=>.int (k:Nat))),some (.int (u:Nat)),some (.int (cn:Nat)),some (.tup (ts.map tupS)),L]/\S'=S10) ⟨L,rfl,rfl⟩ ?_ ?_
   ·rintro k x Γ S' N2 hx ⟨L,rfl,rfl⟩ hN2;obtain⟨hk,rfl⟩:=aX4 5 2 k x hx;obtain⟨m,em,m7⟩:∃m:Nat,(2:Int)+(k:Int)=m/\m<=60:=⟨2+k,by omega,by omega⟩
    rw[em];refine⟨trivial,ts,m,rfl,Y,hW,m7,bZk ?_⟩;exact ite2 (λh=>nomatch h) λ_=>hN2 _ _ ⟨_,rfl,rfl⟩
   ·rintro Γ S' ⟨L,rfl,rfl⟩;exact⟨trivial,hN _ _ ⟨_,_,_,_,_,_,_,_,_,rfl,dk10,Y⟩⟩
  ·rintro Γ S2 ⟨x2,x3,x4,x5,x6,x7,x8,x9,L,rfl,dk2,hP2⟩;exact⟨trivial,aZo (λ_ _ e=>e) (q _)⟩
end
end Toy
set_option maxHeartbeats 4000000
namespace Toy
open PySem L2
theorem fin{l:PySem.W.OpenLaw}{w:aL}{K:ap}{h:aY}{mg:Str->Option ad}{fa f3:Addr}(X:K.In h)(G:h.Ns aP mg)(hfa:mg "law"=some (.ref fa))(B:Bs mg){cc pt:Addr}(CD:bZi K mg "most_had" cc)(AB:mg "abs"=none)
  (T1:Tx K mg "has_all" s_has_all) (T2:Tx K mg "meets" s_meets) (T3:Tx K mg "without_names" s_without_names) (T4:Tx K mg "names_of" s_names_of) (T5:Tx K mg "link_of" s_link_of) (T6:Tx K mg "flower_by_way" s_flower_by_way) (T7:Tx K mg "chosen_of" s_chosen_of) (T8:Tx K mg "most_had" s_most_had) (T9:Tx K mg "how_many_have" s_how_many_have) (T10:Tx K mg "put_again" s_put_again) (T11:Tx K mg "_law_pile" s_law_pile) (T12:Tx K mg "_law_next" s_law_next) (T13:Tx K mg "_law_names" s_law_names) (T14:Tx K mg "_law_set" s_law_set) (T15:Tx K mg "_law_collection" s_law_collection) (T16:Tx K mg "_law_chosen" s_law_chosen) (T17:Tx K mg "_law_way" s_law_way) (T18:Tx K mg "_law_kinds" s_law_kinds) (T19:Tx K mg "_law_right" s_law_right)
  {od3 an3:Option Addr}{sl3:Array (Option ad)}{oc3 kV3 dc3 pm3 cd3 ct3:ad}
  (a3:bh K aP "law"=some (some (.ref f3))) (l3:K.lookup f3=some ⟨oc3,od3,.func (dW "law" "law" (aX1 bQs) (aQz bQs) (aQ3 bQs) .none kV3 dc3 pm3 an3 cd3 ct3),sl3⟩) (c3:fE K cd3 "law"=true) (k3:eM K (.ref f3)=true) :
  ∃fd:cR,(∀(s:ah) (v:ad),BindsTo s fd ⟨[v],[]⟩ [("script",v)])/\∀base:aY,K.In base->base.Ns aP mg->TabF base mg cc pt->FnOk l.prog w K mg base CX0 50 fa fd ["script"] (spU K (bJ9 pt lposM (lamQual "most_had") 63)):=by
 have e:=hfa.symm.trans (jo X G a3);cases e;refine⟨dW "law" "law" (aX1 bQs) (aQz bQs) (aQ3 bQs) .none kV3 dc3 pm3 an3 cd3 ct3,λs v=>.of_eq rfl,λbase XB GB TF=>?_⟩;have F3:=dQc (st:=bQs) l3 c3 k3;have d_law_pile:=bX8 (P:=l.prog) (w:=w) (base:=base) T11 B;have j:=bX9 (P:=l.prog) (w:=w) (base:=base) T12 B AB;have Y:=bZh (P:=l.prog) (w:=w) (base:=base) T13 B (j.mono (by decide))
 have d_law_set:=bJq (P:=l.prog) (w:=w) (base:=base) T14 B (j.mono (by decide))
 have z:=aXk (P:=l.prog) (w:=w) (base:=base) T15 B (j.mono (by decide)) (d_law_set.mono (by decide))
 have N:=bQr (P:=l.prog) (w:=w) (base:=base) T16 B;have d_law_way:=bJr (P:=l.prog) (w:=w) (base:=base) T17 B (N.mono (by decide))
 have Z:=bZm (P:=l.prog) (w:=w) (base:=base) T18 B;have d_meets:=dQ9 (P:=l.prog) (w:=w) (base:=base) T2 B;have d_chosen_of:=bZn (P:=l.prog) (w:=w) (base:=base) T7 B (d_meets.mono (by decide))
 have J:=aXw (P:=l.prog) (w:=w) (base:=base) T9 B;have d_most_had:=bXc (P:=l.prog) (w:=w) (base:=base) T8 B CD TF (J.mono (by decide))
 have d_names_of:=bXd (P:=l.prog) (w:=w) (base:=base) T4 B;have d_has_all:=bJs (P:=l.prog) (w:=w) (base:=base) T1 B;have D:=aXx (P:=l.prog) (w:=w) (base:=base) T3 B;have d_link_of:=bJt (P:=l.prog) (w:=w) (base:=base) T5 B (d_has_all.mono (by decide)) (D.mono (by decide))
 have O:=bZo (P:=l.prog) (w:=w) (base:=base) T10 B;have L:=aXy (P:=l.prog) (w:=w) (base:=base) T6 B (d_chosen_of.mono (by decide)) (d_most_had.mono (by decide)) (d_names_of.mono (by decide)) (d_link_of.mono (by decide)) (O.mono (by decide))
 have U:=bZp (P:=l.prog) (w:=w) (base:=base) T19 B (d_law_way.mono (by decide)) (Z.mono (by decide)) (L.mono (by decide))
 exact eJ2 F3 B (d_law_pile.mono (by decide)) (j.mono (by decide)) (Y.mono (by decide)) (z.mono (by decide)) (U.mono (by decide))
end Toy
namespace PySem.W.Fast
theorem tw17506803291068782595:True:=⟨⟩
theorem tw1188685084200708405:True:=⟨⟩
theorem tw1653447861331427322:True:=⟨⟩
theorem tw353681354883221827:True:=⟨⟩
theorem tw13553386726562089850:True:=⟨⟩
theorem tw8795402850138247465:True:=⟨⟩
theorem tw15558940493287025446:True:=⟨⟩
theorem tw2415217911688108089:True:=⟨⟩
theorem tw281584464671971612:True:=⟨⟩
theorem tw11668671712435179296:True:=⟨⟩
theorem tw15448836177386398085:True:=⟨⟩
theorem tw10266157822135316304:True:=⟨⟩
theorem tw10930679183007876552:True:=⟨⟩
end PySem.W.Fast
open PySem PySem.W PyProof.Rows
set_option maxRecDepth 100000 in
set_option maxHeartbeats 0 in
theorem PySem.Challenge.cw_corepetals_k09_found_by_the_way_holds : PySem.Challenge.rw_corepetals_k09_found_by_the_way.Holds := by
 w_on;o_law;k_head;(case hw=>w_witness2)
 k_fill
 refine L2.walkT (l:=PySem.Challenge.rw_corepetals_k09_found_by_the_way) (x:="most_had") (lp:=Toy.lposM) (qual:=L2.lamQual "most_had") rfl rfl (λw h Y=>⟨PySem.W.km_in_of Y,PySem.W.km_tabs_of Y _ aA⟩) ?R;refine' ⟨_,?ht,?hh,?hno,?F⟩
 case ht =>
  intro p;refine' L2.codeIn_mk ?a ?l ?e
  (case a=>k_is);(case l=>k_is);(case e=>rfl)
 case hh=>intro p;kernel_rfl
 case hno=>intro p;first|rfl|kernel_rfl
 case F =>
  intro w mg fa h KX G hmg CD;have B:L2.Bs mg:=by
   refine' L2.bs_mk KX G (L2.bs_all ?z1 ?z2 ?z3 ?z4 ?z5 ?z6 ?z7 ?z8 ?z9 ?z10 ?z11 ?z12 ?z13 ?z14 ?z15 ?z16 ?z17) <;> k_is
  have AB:mg "abs"=none:=by
   refine' PySem.W.mg_none_of KX G ?z
   k_is
  have T1:L2.Tx (L2.KOf KX) mg "has_all" Toy.s_has_all:=by
   dsimp only[L2.KOf];exact L2.tx_mk KX G (by k_is) (by k_is) (by k_is) (by k_is)
  have T2:L2.Tx (L2.KOf KX) mg "meets" Toy.s_meets:=by
   dsimp only[L2.KOf];exact L2.tx_mk KX G (by k_is) (by k_is) (by k_is) (by k_is)
  have T3:L2.Tx (L2.KOf KX) mg "without_names" Toy.s_without_names:=by
   dsimp only[L2.KOf];exact L2.tx_mk KX G (by k_is) (by k_is) (by k_is) (by k_is)
  have T4:L2.Tx (L2.KOf KX) mg "names_of" Toy.s_names_of:=by
   dsimp only[L2.KOf];exact L2.tx_mk KX G (by k_is) (by k_is) (by k_is) (by k_is)
  have T5:L2.Tx (L2.KOf KX) mg "link_of" Toy.s_link_of:=by
   dsimp only[L2.KOf];exact L2.tx_mk KX G (by k_is) (by k_is) (by k_is) (by k_is)
  have T6:L2.Tx (L2.KOf KX) mg "flower_by_way" Toy.s_flower_by_way:=by
   dsimp only[L2.KOf];exact L2.tx_mk KX G (by k_is) (by k_is) (by k_is) (by k_is)
  have T7:L2.Tx (L2.KOf KX) mg "chosen_of" Toy.s_chosen_of:=by
   dsimp only[L2.KOf];exact L2.tx_mk KX G (by k_is) (by k_is) (by k_is) (by k_is)
  have T8:L2.Tx (L2.KOf KX) mg "most_had" Toy.s_most_had:=by
   dsimp only[L2.KOf];exact L2.tx_mk KX G (by k_is) (by k_is) (by k_is) (by k_is)
  have T9:L2.Tx (L2.KOf KX) mg "how_many_have" Toy.s_how_many_have:=by
   dsimp only[L2.KOf];exact L2.tx_mk KX G (by k_is) (by k_is) (by k_is) (by k_is)
  have T10:L2.Tx (L2.KOf KX) mg "put_again" Toy.s_put_again:=by
   dsimp only[L2.KOf];exact L2.tx_mk KX G (by k_is) (by k_is) (by k_is) (by k_is)
  have T11:L2.Tx (L2.KOf KX) mg "_law_pile" Toy.s_law_pile:=by
   dsimp only[L2.KOf];exact L2.tx_mk KX G (by k_is) (by k_is) (by k_is) (by k_is)
  have T12:L2.Tx (L2.KOf KX) mg "_law_next" Toy.s_law_next:=by
   dsimp only[L2.KOf];exact L2.tx_mk KX G (by k_is) (by k_is) (by k_is) (by k_is)
  have T13:L2.Tx (L2.KOf KX) mg "_law_names" Toy.s_law_names:=by
   dsimp only[L2.KOf];exact L2.tx_mk KX G (by k_is) (by k_is) (by k_is) (by k_is)
  have T14:L2.Tx (L2.KOf KX) mg "_law_set" Toy.s_law_set:=by
   dsimp only[L2.KOf];exact L2.tx_mk KX G (by k_is) (by k_is) (by k_is) (by k_is)
  have T15:L2.Tx (L2.KOf KX) mg "_law_collection" Toy.s_law_collection:=by
   dsimp only[L2.KOf];exact L2.tx_mk KX G (by k_is) (by k_is) (by k_is) (by k_is)
  have T16:L2.Tx (L2.KOf KX) mg "_law_chosen" Toy.s_law_chosen:=by
   dsimp only[L2.KOf];exact L2.tx_mk KX G (by k_is) (by k_is) (by k_is) (by k_is)
  have T17:L2.Tx (L2.KOf KX) mg "_law_way" Toy.s_law_way:=by
   dsimp only[L2.KOf];exact L2.tx_mk KX G (by k_is) (by k_is) (by k_is) (by k_is)
  have T18:L2.Tx (L2.KOf KX) mg "_law_kinds" Toy.s_law_kinds:=by
   dsimp only[L2.KOf];exact L2.tx_mk KX G (by k_is) (by k_is) (by k_is) (by k_is)
  have T19:L2.Tx (L2.KOf KX) mg "_law_right" Toy.s_law_right:=by
   dsimp only[L2.KOf];exact L2.tx_mk KX G (by k_is) (by k_is) (by k_is) (by k_is)
  refine' Toy.fin KX G hmg B CD AB T1 T2 T3 T4 T5 T6 T7 T8 T9 T10 T11 T12 T13 T14 T15 T16 T17 T18 T19 ?a ?l ?c ?k
  (case a=>k_is);(case l=>k_is);(case c=>k_is);(case k=>k_is)
