import PyProof.Rows.All
import Wide.All
import OpenK.AllK
import Wide.FinOn
import PyProof.EqAt
import PyProof.EqKinds
import PyProof.TupleCall
import KE.BitLaws
import Open.SpecLaws
import KE.OsHead
import KE.OsGo
import PySem.Challenge.RW_valueedits_s01_answers
set_option Elab.async false
set_option linter.all false
set_option maxRecDepth 100000
open PySem.W renaming Frag->aB,keepIn->gG,findIn->iA,kia_one->iD,emptyDict->iU,fnOf->kK,instObj->lH,callWith_K->nI,codeIn->sO,plainGet->zD,isFn->AF,hideAll->BZ,lookIn->CP,plainGet_of->FJ,of_hideAll->GW,hasDictIn->IM,methodObj->IN,nsIn->IP,length_le_weightAllW->NH,makesIn->NI,takerIn->NJ,kitOne->OS,cellsFrom_some->YD,methodCall_KW->Bo,callWith_K0->Gb,hideAll_get->Gc,kitx_dict->Jt,kitx_list->Ju,plainOver->Jv,WRecords->Lw,handedIn->Lx
open List renaming length_append->aC,length_map->aJ,length_cons->aK,mem_cons_of_mem->aL,mem_cons_self->aM,map_cons->aP,getElem?_eq_some_iff->aS,mem_cons->aT,map_append->aW,mem_map->aX,mem_of_getElem?->bA,getElem?_eq_getElem->bC,length_take->bJ,drop_eq_getElem_cons->bM,size_toArray->bN,mem_singleton->bU,getElem?_map->bX,all_eq_true->cD,append_nil->cK,take_length->cN,map_map->cP,all_cons->cQ,length_singleton->cR,mem_append_right->cS,length_drop->cW,sum_cons->dU,flatMap_cons->dX,eq_nil_of_length_eq_zero->eA,mem_append->eE,nodup_cons->eL,map_congr_left->eO,append_assoc->fH,mem_of_mem_drop->fP,take_append_drop->gB,getElem?_append_right->gM,length_nil->gO,nil_append->iI,cons_append->iR,mem_of_mem_take->iS,reverse_append->jC,find?_cons->jG,eraseIdx_eq_take_drop_succ->jI,drop_length->jP,lookup_cons->jQ,mem_of_mem_eraseIdx->jW,mem_filter->kJ,foldl_cons->lW,length_reverse->mY,length_eq_zero_iff->nE,map_id->nX,drop_eq_nil_of_le->oH,getElem?_set_self->oJ,of_mem_zip->oU,nodup_append->oW,drop_left->pZ,length_eraseIdx_of_lt->qA,map_drop->rO,map_take->rP,length->sK,lookup->sL,dropLast_concat->vQ,getElem?_set_ne->vR,reverse_reverse->vS,dropLast_concat_getLast->wD,filterMap_cons->wI,toList_toArray->wJ,drop_zero->xL,find?_eq_none->xM,any_cons->zZ,filter_cons->BS,isEmpty_iff->BU,take_of_length_le->CJ,getElem?_eq_none->EG,nodup_nil->FQ,take_left->FR,filter_eq_self->IC,takeWhile_cons->ID,filter_append->KN,mem_filterMap->KO,range->KP,zip_cons_cons->KQ,eraseIdx_append_of_length_le->KS,foldl_append->LZ,map_nil->MA,set_set->MB,length_tail->NY,all_append->TK,forIn_cons->TM,forIn_nil->VP,isPrefixOf_iff_prefix->VQ,take_succ->VR,getElem?_append_left->XY,mem_of_find?_eq_some->XZ,append_cancel_left->Bt,set_append_right->Gf,drop_eq_nil_iff->Ji,getElem?_of_mem->Jj,getLast?_concat->Jk,mem_append_left->Jl,flatMap_append->Lq
open Bool renaming and_eq_true->aE,false_ne_true->cH,noConfusion->fB,not_eq_true'->fF,false_eq_true->gL,or_eq_true->gN,eq_false_iff->hZ,and_true->lA,eq_iff_iff->lV,and_eq_true_iff->Jh,not_eq_false'->Oz
open PySem.Heap renaming get?_push_of_some->aF,get?_push_size->bQ,lt_size->bY,size_push->cF,get?_update_other->dY,get?_update_self->jK,SameBut->xD,IsTuple->CK,FlyingW->Ga,get?_none_of_le->Jr,HeldW->Pg
open PySem renaming wpAny_bind->aH,Addr->aQ,sizeLine->aU,Shared->aV,wpAny_pure->bH,wpAny->bL,starEach->bO,model->cB,boot_len->cE,Program->dF,mem_of_lookup->dP,World->eV,wpAny_mono->fV,Heap->gC,Paired->gY,eval->gZ,wpAny_Call_Name_kw->hJ,cellsFrom->iB,wpAny_seqItems->iK,wpAny_tryCatch->iL,backTo->jD,mainGlobals->jR,wpAny_field->jS,Around->jT,wpAny_callSpecial?_slot->kX,wpAny_newObj_type->kY,NameKind->mZ,wpAny_truthy_bool->nA,plainId_quiet->nJ,sysModules->oY,wpAny_pyIter_tuple->oZ,codeAny_builtin->pP,wpAny_passesOwn->pQ,wpAny_updateSeq->pR,compareOp->qB,wpAny_holding->qD,compEnvC->rB,wpAny_letGo->rC,wpAny_call_entry->sE,FuncData->tM,wpAny_execs_nil->tN,keywordEach->uN,bootBuiltins->vL,codeAny->vM,swapsWith->wM,wpAny_execs_cons->wN,sliceBounds->xH,PyData->yK,Stmt->yL,Scope->zB,codeAny_mono->zE,pushCells->AB,intItems->AG,wpAny_setField_rec->AH,argBest->CL,foldedSetIterable->CM,getItem->CN,argsOk->CQ,attributeBase->CS,behindInMarks->CT,pyNext->CU,backToKw->FK,binaryOp->FL,seqItems?->FM,holding->GX,letOwnedTupleGo->IE,numAt->IF,pushCells_keeps->IG,IsPart->KU,getMethod->MC,assignEach->OT,wpAny_call->OU,BindsTo->TW,callWith->UA,wpAny_Assign_Name->UB,wpAny_pyIter_list->UC,DictEntry->YB,noFill_tuple_add->YE,rawInt->YF,tupleKind->YG,updateSeq->YH,wpAny_pyIter_zip->YI,IsRangeIter->Bl,subscripted->Bp,wpAny_of_eq->Bq,Within->Bx,Builtin->Fy,notedBy->Gd,atKey->Gk,call_meets->Gm,wpAny_rule->Gn,wpAny_setField->Go,seq_tuple_add->Ly,IsZip->Ph,bindC->Pj,bindL->Pk,cLine->Pl,setFlight->Pn
open Option renaming map_eq_some_iff->aO,bind_eq_some_iff->bE,bind_some->jJ,map_some->kF,map_map->mX,isSome_iff_exists->VS,isSome_some->Jn,getD_none->Pc
open Nat renaming le_refl->aR,zero_le->aY,le_trans->bI,lt_of_lt_of_le->bZ,ne_of_lt->eI,lt_irrefl->fN,lt_of_le_of_lt->gP,lt_succ_self->lE,sub_self->mG,max_zero->qM,le_of_succ_le_succ->tP,le_succ->vV,strongRecOn->wK,toDigits->xF,le_of_succ_le->AA,ne_of_gt->CO,min_eq_left->EH,le_of_eq->ND,lt_succ_of_lt->NE,add_eq_right->OP,le_add_right->OQ,mod_lt->YA,add_assoc->Bu,digitChar->Bv,toDigits_of_lt_base->Fx,le_of_lt->Gg,min_self->Gh,sub_zero->Gi,le_of_ble_eq_true->Jm,add_le_add_left->Pb
open PySem.F renaming plainAttrs_list->bF,slot_list_append->bR,type_list_append->bS,plain_min_loop->fO,plain_max_loop->iT,slot_list_extend->kC,type_list_extend->lX,slot_tuple_iterator_next->qN,entry_min_loop->sM,plainAttrs_str->sN,args_tuple_add_2->yG,slot_str_isdigit->yH,type_str_isdigit->yI,entry_tuple_add->zC,entry_max_loop->AC,slot_tuple_add->AD,slot_zip_next->FT,slot_list_pop->GS,slot_tuple_index->TY,args_tuple_iterator_next_1->YC,entry_tuple_iterator_next->Bj,type_list_pop->Bk,entry_min->Jp,plain_min->Jq,kind_min->Ls
open Or renaming inl->bP
open Vatwva renaming Text->bW,readFrom->gD,WIDE->mH,isNumber->vT,ENTRIES->MD,digitsFrom->OV,cutAt->UD
open Vatwvc renaming diff->cC,apply->dO,toldText->eQ,does->eX,given->eZ,Edit->gE,under->gU,isLoose->iC,Found->iN,wordOff->lD,step->nL,diffFrom->rD,editsOfPlan->rE,nextRow->sG,howFar->uT,Out->xE,Call->yM,isLooseRow->yN,cost->EJ,better->GY,doRedo->GZ,doUndo->HA,State->OA,one->TQ,lastRow->UE,plan->UF,toldTexts->Po
open Option.some renaming inj->cO,injEq->lF
open PySem.Value renaming ref->dC,none->uS,type->xG,int->AE,str->NG,float->Gj,bool->Lv
open PySem.PyData renaming eqvAll->dD,canLayAll0->fD,depthAll->gJ,eqv->kG,canLay0->tK,depth->BW
open List.cons renaming injEq->dE,inj->iQ
open VatwvcNeutral renaming text?->eK,step->fX,asked1->nY,natural->rR,callOf->zF,encode->zG,start->TR
open False renaming elim->eM
open PyVatwvc renaming shape->eP,answers->pO,whole->NZ,answers_asked->VT
open PyProof.Rows renaming callWith_type1->fR,slot_tuple_getitem->lG,boot_ord->rA,envOfC->tQ,AllBare->GR,boot_str->TV,subscriptTail->Lr,Call_->Pd,IsTup->Pe
open PySem.Builtin.Builtins renaming bindParams->hU
open UInt8 renaming toNat->hX,toNat_inj->lU,ofNat->sJ,le_iff_toNat_le->CV
open ToString renaming toString->iM
open Array renaming length_toList->jB,toList->KR,append_assoc->Lo
open PySem.Around renaming under_plainId->jX,under->Bi
open PySem.Str renaming ofString->jY,join->Lu
open PySem.Builtin.SmallTypes renaming nextOf->nH
open PyFlat renaming calls->nW,rows->pN,played->uR,told->vI,call->NF
open True renaming intro->oK
open PySem.Builtin.Slice renaming slicePlaces->oV,sliceAdjust->vK,sliceApplied->IJ
open PySem.Builtin.Tuple renaming tupleExact->oX,tupleItemsOf->IK
open ForInStep renaming yield->qL
open PySem.Value.type renaming inj->rQ
open PySem.Calls renaming callWith_builtin->tL,evalArgs_plain->FI,spliced_cons->IL,Name_function_global->TX,spliced_nil->Pf
open PySem.NameKind renaming free->tR,cell->TN
open Ne renaming symm->uM
open MonadExcept renaming tryCatch->vJ
open PySem.Heap.IsTuple renaming push->vW
open PySem.Builtin.List renaming listTooLong->wE
open PySem.Builtin.Range renaming rangeSize->wL
open PySem.Obj renaming data_mapFields->yJ,mapFields->Bw,isFreed_of_fields->Js
open PySem.Heap.SameBut renaming update->BV
open PySem.Unicode renaming isDigit->BX
open PySem.Shared renaming heap->EI
open Prod.mk renaming injEq->FS
open PySem.Paired renaming length->GU
open PySem.Txt renaming isdigit->GV
open Sum renaming inr->IH,inl->NK
open PySem.Walks renaming list->IQ
open Iff renaming rfl->NB
open Int renaming toNat_natCast->NC,natCast_add->TU,negSucc->Lp
open PySem.SeqAt renaming EqAt->TZ
open Char renaming toNat->VO
open PySem.SeqAt.EqAt renaming int_str->Bm,str_int->Bn
open Function renaming comp_apply->Bs
open Sum.inl renaming inj->By
open PySem.Code renaming isFrame->Fz
open PySem.Data renaming seq->Jo
open Int.ofNat renaming inj->Pa
section
namespace ZN
open PySem PyProof.Rows
abbrev Tu (h:gC) (a:aQ) (ys:List Value):Prop:=h.get? a=some {cls:=.type "tuple",data:=.seq ys.toArray}
abbrev eG (ps:List (aQ×aQ)):List aQ:=ps.map (·.1)
structure Jw (z TI TO:aQ) (ps:List (aQ×aQ)):Prop where
 nd:(z::TI::TO::eG ps).Nodup
 no:∀p∈ps,p.2∉z::TO::eG ps
structure Ok (h:gC) (z TI TO:aQ) (ps:List (aQ×aQ)) (i:Nat):Prop where
 zip:Ph h z TI TO .none
 ti:Tu h TI (ps.map fun p=>dC p.1)
 to:∃ys:List Value,ys.length=ps.length∧Tu h TO ys
 it:∀p∈ps,h.IsTupleIter p.1 p.2 i
section
variable {prog:dF} {w:eV} {A:jT} {E:Value→aV→Prop} {s:aV}
theorem Vm (I:s.heap.IsTupleIter it l i) (L:s.heap.IsTuple l xs) (e:xs[i]?=some x)
  (q:∀h',h'.IsTupleIter it l (i+1)→xD it s.heap h'→Q x {s with heap:=h'}):bL (cB prog w) A (nH (.ref it)) Q E s:=by
 obtain⟨u,hu,uc,ud⟩:=id I;obtain⟨t,ht,_,n,td⟩:=L;have ty:=I.typeIs;refine aH (kX (name:=jY "__next__") ty qN (sE qN ty Bj ?_ (YC _)));show bL _ _ (field (.ref it) 0 >>= _) _ _ s;refine aH (jS hu ud (x:=.ref l) rfl ?_);show bL _ _ (ite ((dC l == uS)=true) _ _) _ _ s;rw[if_neg (by intro q;cases q)];show bL _ _ (field (.ref it) 1 >>= _) _ _ s;refine aH (jS hu ud (x:=.int i 0) rfl (aH (iK ht td ?_)));simp only[NC,e];refine aH (Go hu ud (by simp) (bH ⟨x,rfl,bH (q _ ⟨_,jK _ hu (Js (yJ ud _)),(Obj.cls_mapFields ..).trans uc,?_⟩ (BV ..))⟩));rw[yJ ud];simp[YF]
theorem Xn (hh:A.handled=none) (I:s.heap.IsTupleIter it l i) (L:s.heap.IsTuple l xs) (e:xs[i]?=none)
  (q:∀h' x,Heap.ExtBut it s.heap h'→(∃o,h'.get? x=some o∧o.cls=.type "StopIteration")→E (.ref x) {s with heap:=h'}):bL (cB prog w) A (nH (.ref it)) Q E s:=by
 obtain⟨u,hu,uc,ud⟩:=id I;obtain⟨t,ht,_,n,td⟩:=L;have ty:=I.typeIs;refine aH (kX (name:=jY "__next__") ty qN (sE qN ty Bj ?_ (YC _)));show bL _ _ (field (.ref it) 0 >>= _) _ _ s;refine aH (jS hu ud (x:=.ref l) rfl ?_);show bL _ _ (ite ((dC l == uS)=true) _ _) _ _ s;rw[if_neg (by intro q;cases q)];show bL _ _ (field (.ref it) 1 >>= _) _ _ s;refine aH (jS hu ud (x:=.int i 0) rfl (aH (iK ht td ?_)));simp only[NC,e];refine aH (Gn (aH (Go hu ud (by simp) (aH (m:=newExc (.type "StopIteration") []) ?_))));simp only[newExc,newTuple];refine aH (kY (aH (m:=firstArgMember _ _) (Bq (a:=uS) (by first | rfl | (simp only[firstArgMember];rfl)) (kY ?_ (by size_fits)))) (by size_fits));simp only[raiseNew];refine aH (wpAny_handled ?_);first | rw[show A.in1.handled=none from hh] | rw[hh]
 exact aH (bH (wpAny_throw (q _ _ (((BV ..).extBut.push _).push _) ⟨_,bQ _ rfl,rfl⟩)))
theorem Nh {α β:Type} {M:Model} {f:α×Nat→β→Sem (ForInStep β)} {b:β} {Q:β→aV→Prop} (J:Nat→aV→Prop):∀(l:List α) (k:Nat) (s:aV),J k s→
  (∀j x s,l[j]?=some x→J (k+j) s→bL M A (f (x,k+j) b) (fun r s'=>r=.yield b∧J (k+j+1) s') E s)→(∀s',J (k+l.length) s'→Q b s')→bL M A (forIn (l.zipIdx k) b f) Q E s
 | [],k,s,h,_,q=>by rw[List.zipIdx_nil,VP];exact bH (q s h)
 | x::l,k,s,h,st,q=>by
  rw[List.zipIdx_cons,TM];refine aH (fV (st 0 x s rfl h) (fun r s' ⟨e,h'⟩=>?_) fun _ _ z=>z);subst e;have e0:k+(l.length+1)=k+1+l.length:=by omega
  refine Nh J l (k+1) s' h' (fun j y s2 hy hj=>?_) (fun s2 h2=>q s2 (by rw[aK,e0];exact h2));have e:k+1+j=k+(j+1):=by omega
  rw[e]at hj ⊢;exact st (j+1) y s2 hy hj
theorem Xo (h:Tu s.heap T ys) (hl:ys.length≤100) (q:∀h',Tu h' T (ys.set k x)→xD T s.heap h'→Q () {s with heap:=h'}):
  bL (cB prog w) A (YH T (·.setIfInBounds k x)) Q E s:=by
 have hs:ys.toArray.size≤aU:=by rw[bN];exact bI hl (by decide)
 refine pR h rfl (q _ ?_ (BV ..)) (hz:=hs) (_hz':=by rw[Array.size_setIfInBounds];exact Nat.le_succ_of_le hs);show Heap.get? _ _=_;rw[jK _ h rfl];simp[Obj.mapSeq]
def Ko (xs:aQ→Array Value) (i:Nat) (p:aQ×aQ):Value:=((xs p.2)[i]?).getD .none
structure G7 (h0:gC) (z TI TO:aQ) (ps:List (aQ×aQ)) (xs:aQ→Array Value) (i k:Nat) (ys:List Value) (h:gC):Prop where
 zip:Ph h z TI TO .ellipsis
 to:Tu h TO ((ps.take k).map (Ko xs i)++ys.drop k)
 it:∀m p,ps[m]?=some p→h.IsTupleIter p.1 p.2 (if m < k then i+1 else i)
 sz:h.objs.size=h0.objs.size
 kept:∀c o,c∉z::TO::eG ps→h0.get? c=some o→h.get? c=some o
theorem Zg {ps:List (aQ×aQ)} (h:(eG ps).Nodup) {m n:Nat} {p q:aQ×aQ} (hp:ps[m]?=some p) (hq:ps[n]?=some q) (hne:m≠n):p.1≠q.1:=by
 intro e;obtain⟨hm,rfl⟩:=aS.mp hp;obtain⟨hn,rfl⟩:=aS.mp hq;have pw:=List.pairwise_iff_getElem.mp h;rcases Nat.lt_or_gt_of_ne hne with c | c
 ·exact pw m n (by rw[aJ];exact hm) (by rw[aJ];exact hn) c (by simpa using e)
 ·exact pw n m (by rw[aJ];exact hn) (by rw[aJ];exact hm) c (by simpa using e.symm)
theorem next {z TI TO:aQ} {ps:List (aQ×aQ)} {i:Nat} {xs:aQ→Array Value} {Q:Value→aV→Prop} (hh:A.handled=none) (D:Jw z TI TO ps) (Z:Ok s.heap z TI TO ps i) (hl:ps.length≤100) (hne:ps≠[])
  (L:∀p∈ps,s.heap.IsTuple p.2 (xs p.2))
  (hQ:(∀p∈ps,∃x,(xs p.2)[i]?=some x)→∀h',Ph h' z TI TO (YF s.heap.objs.size)→Tu h' TO (ps.map (Ko xs i))→(∀p∈ps,h'.IsTupleIter p.1 p.2 (i+1))→Tu h' s.heap.objs.size (ps.map (Ko xs i))→h'.objs.size=s.heap.objs.size+1→(∀c o,c∉z::TO::eG ps→s.heap.get? c=some o→h'.get? c=some o)→Q (.ref s.heap.objs.size) {s with heap:=h'})
  (hE:(∃p∈ps,(xs p.2)[i]?=none)→∀h' e,(∀c o,c∉z::TO::eG ps→s.heap.get? c=some o→h'.get? c=some o)→(∃o,h'.get? e=some o∧o.cls=.type "StopIteration")→E (.ref e) {s with heap:=h'}):
  bL (cB prog w) A (Fy.«zip.__next__» ⟨[.ref z],[]⟩) (fun fin s'=>∃v,fin=.done (.ret v)∧Q v s') E s:=by
 obtain⟨ys,yl,hTO⟩:=Z.to;have nd:=D.nd;rw[eL,eL,eL]at nd;obtain⟨n1,n2,n3,n4⟩:=nd;have TOz:TO≠z:=fun e=>n1 (by rw[←e];simp);have TIz:TI≠z:=fun e=>n1 (by rw[←e];simp);have TITO:TI≠TO:=fun e=>n2 (by rw[e];simp);have itz:∀p∈ps,p.1≠z:=fun p hp e=>n1 (by rw[←e];simp;exact .inr (.inr ⟨_,hp⟩));have itTO:∀p∈ps,p.1≠TO:=fun p hp e=>n3 (by rw[←e];simp;exact⟨_,hp⟩);show bL _ _ (field (.ref z) 2 >>= _) _ _ _;refine aH (jS Z.zip rfl (x:=.bool false) rfl ?_);show bL _ _ (field (.ref z) 3 >>= _) _ _ _;refine aH (jS Z.zip rfl (x:=.ref TI) rfl (aH (iK Z.ti rfl ?_)));dsimp only;rw[if_neg (by cases ps with | nil=>exact absurd rfl hne | cons p ps=>intro q;cases q)];refine aH ?_;unfold Builtin.SmallTypes.ownedTupleIsFree;refine aH (jS Z.zip rfl (x:=.none) rfl (bH ?_));simp only[if_true];refine aH (Gn (aH (jS Z.zip rfl (x:=.ref TO) rfl (aH (AH Z.zip (by simp) fun g0 hz0 hs0=>?_)))));replace hz0:Ph g0 z TI TO .ellipsis:=hz0;refine aH (Nh (fun k s'=>∃h,s'={s with heap:=h}∧(∀m p,m < k→ps[m]?=some p→∃x,(xs p.2)[i]?=some x)∧G7 s.heap z TI TO ps xs i k ys h) _ 0 _ ⟨g0,rfl,fun m p hm=>absurd hm (by omega),hz0,?_,?_,hs0.1,?_⟩ ?_ ?_)
 ·exact hs0.extBut _ _ TOz hTO
 ·exact fun m p hp=>(Z.it p (bA hp)).extBut hs0.extBut (itz p (bA hp))
 ·exact fun c o hc e=>hs0.extBut _ _ (fun q=>hc (by rw[q];simp)) e
 ·rintro j x s' hj ⟨h,rfl,hall,md⟩;rw[Nat.zero_add]at hall md ⊢;rw[bX]at hj;obtain⟨p,hp,rfl⟩:=aO.mp hj;have pm:=bA hp;have hit:h.IsTupleIter p.1 p.2 i:=by have:=md.it j p hp;rwa [if_neg (fN _)]at this
  have htu:h.IsTuple p.2 (xs p.2):=by obtain⟨o,ho,c,d⟩:=L p pm;exact⟨o,md.kept _ _ (D.no p pm) ho,c,d⟩
  have hjl:=(aS.mp hp).1;cases hx:(xs p.2)[i]? with
  | none=>
   refine aH (wpAny_onRaise ?_);show bL _ _ (nH (.ref p.1) >>= _) _ _ _;refine aH (Xn hh hit htu hx fun h2 e hs2 he=>?_);obtain⟨oe,hoe,hce⟩:=he;have hz2:Ph h2 z TI TO .ellipsis:=hs2 _ _ (itz p pm).symm md.zip;have hez:e≠z:=fun q=>by subst q;rw[hz2]at hoe;cases hoe;simp at hce
   refine AH hz2 (by simp) fun h3 _ hs3=>hE ⟨p,pm,hx⟩ h3 e (fun c o hc q=>hs3.extBut _ _ (fun q=>hc (by rw[q];simp)) (hs2 _ _ (fun q=>hc (by rw[q];simp;exact .inr (.inr ⟨_,pm⟩))) (md.kept c o hc q))) ⟨oe,hs3.extBut _ _ hez hoe,hce⟩
  | some y=>
   refine aH (wpAny_onRaise ?_);show bL _ _ (nH (.ref p.1) >>= _) _ _ _;refine aH (Vm hit htu hx fun h2 hit2 hs2=>bH ?_);have hto2:=hs2.extBut _ _ (itTO p pm).symm md.to;refine aH (iK hto2 rfl (aH (Xo hto2 ?_ fun h3 hto3 hs3=>aH (rC (bH ⟨rfl,h3,rfl,fun m q hm hq=>?_,?_,?_,fun m q hq=>?_,?_,fun c o hc e=>?_⟩)))))
   ·rw[aC,aJ,bJ,cW];omega
   ·by_cases e:m=j
    ·subst e;rw[hp]at hq;cases hq;exact⟨y,hx⟩
    ·exact hall m q (by omega) hq
   ·exact hs3.extBut _ _ TOz.symm (hs2.extBut _ _ (itz p pm).symm md.zip)
   ·have e:((ps.take j).map (Ko xs i)++ys.drop j).set j y=(ps.take (j+1)).map (Ko xs i)++ys.drop (j+1):=by
     have l1:((ps.take j).map (Ko xs i)).length=j:=by rw[aJ,bJ];omega
     rw[Gf _ _ (by omega),l1,mG,bM (show j < ys.length by omega),List.set_cons_zero,VR,hp];simp[Ko,hx]
    rw[←e];exact hto3
   ·by_cases e:m=j
    ·subst e;rw[hp]at hq;cases hq;rw[if_pos (by omega)];exact hit2.extBut hs3.extBut (itTO p pm)
    ·have hne':q.1≠p.1:=Zg n4 hq hp e;have:=((md.it m q hq).extBut hs2.extBut hne').extBut hs3.extBut (itTO q (bA hq));have e2:(if m < j+1 then i+1 else i)=(if m < j then i+1 else i):=by
      by_cases hm:m < j
      ·rw[if_pos hm,if_pos (by omega)]
      ·rw[if_neg hm,if_neg (by omega)]
     rw[e2];exact this
   ·rw[hs3.1,hs2.1,md.sz]
   ·exact hs3.extBut _ _ (fun q=>hc (by rw[q];simp)) (hs2.extBut _ _ (fun q=>hc (by rw[q];simp;exact .inr (.inr ⟨_,pm⟩))) (md.kept c o hc e))
 ·rintro s' ⟨h,rfl,hall,md⟩;have e0:0+((ps.map fun p=>dC p.1).toArray.toList).length=ps.length:=by rw[wJ,aJ,Nat.zero_add]
  rw[e0]at hall md;have hto:Tu h TO (ps.map (Ko xs i)):=by
   have:=md.to
   rwa [cN,←yl,jP,cK]at this
  have hall':∀p∈ps,∃x,(xs p.2)[i]?=some x:=fun p hp=>by obtain⟨m,hm⟩:=Jj hp;exact hall m p (aS.mp hm).1 hm
  have zlt:z < h.objs.size:=bY md.zip;refine aH (iK hto rfl (aH (wpAny_newTuple ?_)));rw[wJ];refine aH ?_;unfold Builtin.SmallTypes.ownedTupleHandOut;have hz6:Ph (h.push {cls:=.type "tuple",data:=.seq (ps.map (Ko xs i)).toArray}) z TI TO .ellipsis:=aF _ md.zip;refine aH (AH hz6 (by simp) fun h7 hz7 hs7=>?_);replace hz7:Ph h7 z TI TO (YF h.objs.size):=hz7;refine AH hz7 (by simp) fun h8 hz8 hs8=>?_;replace hz8:Ph h8 z TI TO (YF h.objs.size):=hz8;have up:∀c o,c≠z→h.get? c=some o→h8.get? c=some o:=fun c o c1 e=>hs8.extBut _ _ c1 (hs7.extBut _ _ c1 (aF _ e));have hT:Tu h8 h.objs.size (ps.map (Ko xs i)):=hs8.extBut _ _ (CO zlt) (hs7.extBut _ _ (CO zlt) (bQ _ rfl));have s8:h8.objs.size=h.objs.size+1:=by rw[hs8.1,hs7.1,cF]
  rw[md.sz]at hz8 hT s8;refine bH ⟨_,rfl,?_⟩;show Q (.ref h.objs.size) _;rw[md.sz];refine hQ hall' h8 hz8 (up _ _ TOz hto) (fun p hp=>?_) hT s8 fun c o hc e=>up c o (fun q=>hc (by rw[q];simp)) (md.kept c o hc e);obtain⟨m,hm⟩:=Jj hp;have:=md.it m p hm;rw[if_pos (aS.mp hm).1]at this;obtain⟨o,ho,r⟩:=this;exact⟨o,up _ _ (itz p hp) ho,r⟩
end
section
variable {prog:dF} {w:eV} {A:jT} {E:Value→aV→Prop} {s:aV}
theorem Yi (a b c d:Value):CQ "object.__init__" ⟨[a,b,c,d],[]⟩:=by unfold CQ;rw[signature?_of (id:="object.__init__") (n:=['_','_','t','i','n','i','_','_']) (o:=['t','c','e','j','b','o']) (by kernel_rfl) F.owner_object];kernel_rfl
theorem Xl (a b c:Value):checkTypeCall "zip" ⟨[a,b,c],[]⟩=pure ():=by kernel_rfl
theorem Ww (a b c:Value):checkBuiltinCall "zip.__new__" ⟨[.type "zip",a,b,c],[]⟩=pure ():=by kernel_rfl
abbrev LH (l:aQ):Obj:={cls:=.type "tuple_iterator",data:=.fields #[.ref l,.int 0 0]}
abbrev Xy (ys:List Value):Obj:={cls:=.type "tuple",data:=.seq ys.toArray}
abbrev G5 (TI TO:aQ):Obj:={cls:=.type "zip",data:=.fields #[.none,.bool false,.bool false,.ref TI,.ref TO]}
abbrev Zd (h:gC) (l1 l2:aQ):gC:=((((h.push (LH l1)).push (LH l2)).push (Xy [.ref h.objs.size,.ref (h.push (LH l1)).objs.size])).push (Xy [.none,.none]))
abbrev Ze (h:gC) (l1 l2 l3:aQ):gC:=(((((h.push (LH l1)).push (LH l2)).push (LH l3)).push (Xy [.ref h.objs.size,.ref (h.push (LH l1)).objs.size,.ref ((h.push (LH l1)).push (LH l2)).objs.size])).push (Xy [.none,.none,.none]))
theorem D5 (l1 l2:aQ) (xs ys:Array Value):Meets (Fy.«zip.__new__» ⟨[.type "zip",.ref l1,.ref l2],[]⟩) (fun _ R s=>s.heap.IsTuple l1 xs∧s.heap.IsTuple l2 ys∧
   R (.ok (.ret (.ref (Zd s.heap l1 l2).objs.size))) {s with heap:=(Zd s.heap l1 l2).push (G5 ((s.heap.push (LH l1)).push (LH l2)).objs.size (((s.heap.push (LH l1)).push (LH l2)).push (Xy [.ref s.heap.objs.size,.ref (s.heap.push (LH l1)).objs.size])).objs.size)}):=
 .of_wp fun prog w A R s h=>by
  obtain⟨hp,g,d,tk,os⟩:=s;obtain⟨a1,a2,h⟩:=h;have hsub:=sub_zip;have b1:CK (EI ⟨hp,g,d,tk,os⟩) l1 xs:=a1;have b2:CK (EI ⟨hp.push (LH l1),g,d,tk,os⟩) l2 ys:=vW a2 _
  wp_walk using oZ b1,oZ b2
  exact⟨_,rfl,h⟩
theorem D6 (l1 l2 l3:aQ) (xs ys zs:Array Value):Meets (Fy.«zip.__new__» ⟨[.type "zip",.ref l1,.ref l2,.ref l3],[]⟩) (fun _ R s=>s.heap.IsTuple l1 xs∧s.heap.IsTuple l2 ys∧s.heap.IsTuple l3 zs∧
   R (.ok (.ret (.ref (Ze s.heap l1 l2 l3).objs.size))) {s with heap:=(Ze s.heap l1 l2 l3).push (G5 (((s.heap.push (LH l1)).push (LH l2)).push (LH l3)).objs.size ((((s.heap.push (LH l1)).push (LH l2)).push (LH l3)).push (Xy [.ref s.heap.objs.size,.ref (s.heap.push (LH l1)).objs.size,.ref ((s.heap.push (LH l1)).push (LH l2)).objs.size])).objs.size)}):=
 .of_wp fun prog w A R s h=>by
  obtain⟨hp,g,d,tk,os⟩:=s;obtain⟨a1,a2,a3,h⟩:=h;have hsub:=sub_zip;have b1:CK (EI ⟨hp,g,d,tk,os⟩) l1 xs:=a1;have b2:CK (EI ⟨hp.push (LH l1),g,d,tk,os⟩) l2 ys:=vW a2 _;have b3:CK (EI ⟨(hp.push (LH l1)).push (LH l2),g,d,tk,os⟩) l3 zs:=vW (vW a3 _) _
  wp_walk using oZ b1,oZ b2,oZ b3
  exact⟨_,rfl,h⟩
end
section
variable {prog:dF} {w:eV} {A:jT} {E:Value→aV→Prop} {s:aV}
theorem gp {h:gC} {o:Obj} {n:Nat} (e:n=h.objs.size) (f:o.isFreed=false):(h.push o).get? n=some o:=by subst e;exact bQ _ f
theorem D3 {I l1 l2 c:Nat} (h:c∈(I+4)::(I+2)::(I+3)::eG [(I,l1),(I+1,l2)]):I≤c:=by simp[eG]at h;omega
theorem D4 {I l1 l2 l3 c:Nat} (h:c∈(I+5)::(I+3)::(I+4)::eG [(I,l1),(I+1,l2),(I+2,l3)]):I≤c:=by simp[eG]at h;omega
theorem Di (h:c∈z::TO::l):c∈z::TI::TO::l:=by
 simp only[aT]at h ⊢;rcases h with h | h | h
 ·exact .inl h
 ·exact .inr (.inr (.inl h))
 ·exact .inr (.inr (.inr h))
theorem We (I l1 l2:Nat) (h1:l1 < I) (h2:l2 < I):Jw (I+4) (I+2) (I+3) [(I,l1),(I+1,l2)]:=by
 refine⟨by simp[eG],fun p hp hm=>?_⟩;have:=D3 (Di (TI:=I+2) hm);rcases aT.mp hp with rfl | hp
 ·exact fN _ (bZ h1 this)
 ·obtain rfl:=bU.mp hp;exact fN _ (bZ h2 this)
theorem Wf (I l1 l2 l3:Nat) (h1:l1 < I) (h2:l2 < I) (h3:l3 < I):Jw (I+5) (I+3) (I+4) [(I,l1),(I+1,l2),(I+2,l3)]:=by
 refine⟨by simp[eG],fun p hp hm=>?_⟩;have:=D4 (Di (TI:=I+3) hm);rcases aT.mp hp with rfl | hp
 ·exact fN _ (bZ h1 this)
 ·rcases aT.mp hp with rfl | hp
  ·exact fN _ (bZ h2 this)
  ·obtain rfl:=bU.mp hp;exact fN _ (bZ h3 this)
theorem Ym {l1 l2:aQ} {xs ys:Array Value} {Q:Value→aV→Prop} (a1:s.heap.IsTuple l1 xs) (a2:s.heap.IsTuple l2 ys)
  (h:∀h',Ok h' (s.heap.objs.size+4) (s.heap.objs.size+2) (s.heap.objs.size+3) [(s.heap.objs.size,l1),(s.heap.objs.size+1,l2)] 0→(∀c o,s.heap.get? c=some o→h'.get? c=some o)→Q (.ref (s.heap.objs.size+4)) {s with heap:=h'}):
  bL (cB prog w) A (call (.type "zip") [.ref l1,.ref l2]) Q E s:=by
 refine callType_new F.called_zip (by decide) (F.typeCall_zip_2 _ _) (F.newCall_zip_2 _ _) (fun obj=>F.args_object_init_3 obj _ _) F.entry_zip_new (D5 l1 l2 xs ys) ⟨a1,a2,?_⟩;simp only[cF];refine⟨?_,h _ ⟨?_,?_,⟨[.none,.none],rfl,?_⟩,fun p hp=>?_⟩ fun c o e=>?_⟩
 ·exact⟨_,gp (by simp only[cF]) rfl,rfl⟩
 ·exact gp (by simp only[cF]) rfl
 ·refine aF _ (aF _ ?_);simp only[cF,aP,MA];exact gp (by simp only[cF]) rfl
 ·exact aF _ (gp (by simp only[cF]) rfl)
 ·rcases aT.mp hp with rfl | hp
  ·exact⟨_,aF _ (aF _ (aF _ (aF _ (gp rfl rfl)))),rfl,rfl⟩
  ·obtain rfl:=bU.mp hp;exact⟨_,aF _ (aF _ (aF _ (gp (by simp only[cF]) rfl))),rfl,rfl⟩
 ·exact aF _ (aF _ (aF _ (aF _ (aF _ e))))
theorem Yn {l1 l2 l3:aQ} {xs ys zs:Array Value} {Q:Value→aV→Prop} (a1:s.heap.IsTuple l1 xs) (a2:s.heap.IsTuple l2 ys) (a3:s.heap.IsTuple l3 zs)
  (h:∀h',Ok h' (s.heap.objs.size+5) (s.heap.objs.size+3) (s.heap.objs.size+4) [(s.heap.objs.size,l1),(s.heap.objs.size+1,l2),(s.heap.objs.size+2,l3)] 0→(∀c o,s.heap.get? c=some o→h'.get? c=some o)→Q (.ref (s.heap.objs.size+5)) {s with heap:=h'}):
  bL (cB prog w) A (call (.type "zip") [.ref l1,.ref l2,.ref l3]) Q E s:=by
 refine callType_new F.called_zip (by decide) (Xl _ _ _) (Ww _ _ _) (fun obj=>Yi obj _ _ _) F.entry_zip_new (D6 l1 l2 l3 xs ys zs) ⟨a1,a2,a3,?_⟩;simp only[cF];refine⟨?_,h _ ⟨?_,?_,⟨[.none,.none,.none],rfl,?_⟩,fun p hp=>?_⟩ fun c o e=>?_⟩
 ·exact⟨_,gp (by simp only[cF]) rfl,rfl⟩
 ·exact gp (by simp only[cF]) rfl
 ·refine aF _ (aF _ ?_);simp only[cF,aP,MA];exact gp (by simp only[cF]) rfl
 ·exact aF _ (gp (by simp only[cF]) rfl)
 ·rcases aT.mp hp with rfl | hp
  ·exact⟨_,aF _ (aF _ (aF _ (aF _ (aF _ (gp rfl rfl))))),rfl,rfl⟩
  ·rcases aT.mp hp with rfl | hp
   ·exact⟨_,aF _ (aF _ (aF _ (aF _ (gp (by simp only[cF]) rfl)))),rfl,rfl⟩
   ·obtain rfl:=bU.mp hp;exact⟨_,aF _ (aF _ (aF _ (gp (by simp only[cF]) rfl))),rfl,rfl⟩
 ·exact aF _ (aF _ (aF _ (aF _ (aF _ (aF _ e)))))
end
def cont (h:gC) (a:aQ):Array Value:=match h.get? a with
 | some o=>(match o.data with | .seq xs _=>xs | _=>#[])
 | none=>#[]
theorem YR (t:h.IsTuple a xs):cont h a=xs:=by obtain⟨o,ho,_,n,d⟩:=t;unfold cont;rw[ho];dsimp only;rw[d]
end ZN
end
section
namespace L2
open PySem PySem.Spec PyProof.Rows
open PySem.W (Frag)
abbrev CG:=Sum Int Str
def QT:CG→Value→Bool
 | .inl k,v=>Value.isInt k v
 | .inr x,v=>Value.isStrOf x v
def Zb (w:eV):CG→Int
 | .inl k=>hashInt k
 | .inr x=>hashStr w x
theorem lP:∀{k:CG} {v:Value},QT k v=true→(∃i t,k=NK i∧v=AE i t)∨(∃x t,k=IH x∧v=NG x t)
 | .inl i,v,h=>by obtain⟨t,e⟩:=Value.isInt_shape (k:=i) (v:=v) h;exact .inl ⟨i,t,rfl,e⟩
 | .inr x,v,h=>by obtain⟨t,e⟩:=Value.isStrOf_shape (x:=x) (v:=v) h;exact .inr ⟨x,t,rfl,e⟩
theorem WO (i:Int) (t:Tok):QT (.inl i) (.int i t)=true:=by simp[QT,Value.isInt]
theorem EW (x:Str) (t:Tok):QT (.inr x) (.str x t)=true:=by simp[QT,Value.isStrOf]
theorem Wo (a b:Int):decide ((NK a:CG)=NK b)=(a == b):=by
 by_cases e:a=b
 ·subst e;simp
 ·have h:¬(NK a:CG)=NK b:=fun q=>e (By q);rw[decide_eq_false h];exact(beq_eq_false_iff_ne.mpr e).symm
theorem Wr (a b:Str):decide ((IH a:CG)=IH b)=decide (a=b):=by
 by_cases e:a=b
 ·subst e;simp
 ·have h:¬(IH a:CG)=IH b:=fun q=>e (Sum.inr.inj q);rw[decide_eq_false h,decide_eq_false e]
theorem Wp (a:Int) (b:Str):decide ((NK a:CG)=IH b)=false:=decide_eq_false (fun q=>nomatch q)
theorem Wq (a:Str) (b:Int):decide ((IH a:CG)=NK b)=false:=decide_eq_false (fun q=>nomatch q)
def lS (prog:dF) (w:eV):PySem.KeyKind prog w CG where
 is:=QT
 hash:=Zb w
 inj:=fun v a b ha hb=>by
  rcases lP ha with⟨i,t,rfl,rfl⟩ | ⟨x,t,rfl,rfl⟩
  ·rcases lP hb with⟨j,u,rfl,e⟩ | ⟨y,u,rfl,e⟩
   ·injection e with e1 _;rw[e1]
   ·exact nomatch e
  ·rcases lP hb with⟨j,u,rfl,e⟩ | ⟨y,u,rfl,e⟩
   ·exact nomatch e
   ·injection e with e1 _;rw[e1]
 byValue:=fun k v h=>by rcases lP h with⟨i,t,rfl,rfl⟩ | ⟨x,t,rfl,rfl⟩<;>rfl
 pyHash:=fun hv h=>by
  rcases lP hv with⟨i,t,rfl,rfl⟩ | ⟨x,t,rfl,rfl⟩
  ·exact wpAny_pyHash_int h
  ·exact wpAny_pyHash_str h
 eqBool:=fun hu hv h=>by
  rcases lP hu with⟨i,t,rfl,rfl⟩ | ⟨x,t,rfl,rfl⟩
  ·rcases lP hv with⟨j,u,rfl,rfl⟩ | ⟨y,u,rfl,rfl⟩
   ·rw[Wo]at h;exact wpAny_eqBool_int h
   ·rw[Wp]at h;exact Bm i t y u _ _ _ _ h
  ·rcases lP hv with⟨j,u,rfl,rfl⟩ | ⟨y,u,rfl,rfl⟩
   ·rw[Wq]at h;exact Bn x t j u _ _ _ _ h
   ·rw[Wr]at h;exact wpAny_eqBool_str h
 «strs»:=fun k x t v h=>by
  rcases lP h with⟨i,u,rfl,e⟩ | ⟨y,u,rfl,e⟩
  ·exact nomatch e
  ·injection e with e1 _;subst e1;cases v<;>rfl
theorem Dj (prog:dF) (w:eV) (i:Int) (t:Tok):(lS prog w).is (.inl i) (.int i t)=true:=WO i t
theorem Dk (prog:dF) (w:eV) (x:Str) (t:Tok):(lS prog w).is (.inr x) (.str x t)=true:=EW x t
inductive V where
 | non | bl (b:Bool) | int (i:Int) | str (x:Str) | byt (b:Array UInt8) | flt (b:UInt64) | ref (a:aQ) | ty (n:String)
 deriving DecidableEq
def gK:V→Value→Prop
 | .non,u=>u=uS
 | .bl b,u=>u=Lv b
 | .int i,u=>∃t,u=AE i t
 | .str x,u=>∃t,u=NG x t
 | .byt b,u=>∃t,u=Value.bytes b t
 | .flt b,u=>∃t,u=Gj b t
 | .ref a,u=>u=dC a
 | .ty n,u=>u=xG n
abbrev fY:List V→List Value→Prop:=gY gK
theorem fY.length (r:fY xs us):xs.length=us.length:=GU r
theorem fY.get:∀{xs:List V} {us:List Value} {i:Nat} {x:V},fY xs us→xs[i]?=some x→∃u,us[i]?=some u∧gK x u
 | _,_,_,_,.nil,e=>by simp at e
 | _,_,0,_,.cons r _,e=>by simp at e;subst e;exact⟨_,rfl,r⟩
 | _,_,i+1,x,.cons _ t,e=>by obtain⟨u,h1,h2⟩:=fY.get (i:=i) (x:=x) t (by simpa using e);exact⟨u,by simpa using h1,h2⟩
theorem fY.append:∀{xs ys:List V} {us ws:List Value},fY xs us→fY ys ws→fY (xs++ys) (us++ws)
 | _,_,_,_,.nil,s=>s
 | _,_,_,_,.cons r t,s=>.cons r (fY.append t s)
theorem fY.take:∀{xs:List V} {us:List Value} (n:Nat),fY xs us→fY (xs.take n) (us.take n)
 | _,_,0,_=>.nil
 | _,_,_+1,.nil=>.nil
 | _,_,n+1,.cons r t=>.cons r (fY.take n t)
theorem fY.drop:∀{xs:List V} {us:List Value} (n:Nat),fY xs us→fY (xs.drop n) (us.drop n)
 | _,_,0,r=>r
 | _,_,_+1,.nil=>.nil
 | _,_,n+1,.cons _ t=>fY.drop n t
def DB:Option V→Option Value→Prop
 | some v,some u=>gK v u
 | none,none=>True
 | _,_=>False
def KV {κ:Type}:List (κ×V)→List (κ×Value)→Prop:=gY fun(p:κ×V) (q:κ×Value)=>p.1=q.1∧gK p.2 q.2
def kV:CG→V
 | .inl i=>.int i
 | .inr x=>.str x
inductive HO where
 /-- a list -/
 | lst (xs:List V)
 /-- a tuple (never changes) -/
 | tup (xs:List V)
 /-- a dict whose keys are ints and texts;one whose keys are tuples of ints and texts (the empty one is both) -/
 | dK (kvs:List (CG×V)) | dT (kvs:List (List CG×V))
 /-- a set of ints:eG members,eG size -/
 | set (S:Int→Bool) (n:Nat)
 /-- an instance of the class at C,eG dict at dx,eG attributes -/
 | ins (C dx:aQ) (fs:List (Str×V))
 /-- the dict of the instance at x -/
 | own (x:aQ)
 /-- the dict of an exception -/
 | xd (fs:List (Str×V))
 /-- a bound method,f of x -/
 | met (f x:aQ)
 /-- a range object lo,lo+1,.. below hi -/
 | rng (lo hi:Int)
 /-- a thing that is known to the object (the script;a dict while a Nh walks it):read,never written while it is so -/
 | frz (o:Obj) (u:HO)
 /-- a code object's table -/
 | tbl (ps:Array Value)
 /-- any other thing,by what is true of eG one object (a def of one's own:SetO a S n:=HO.ext fun h=>..) -/
 | ext (φ:gC→Prop)
abbrev Hp:=aQ→Option HO
def upd (H:Hp) (a:aQ) (o:HO):Hp:=fun b=>if b=a then some o else H b
theorem aG:upd H a o a=some o:=by unfold upd;rw[if_pos rfl]
theorem bK (h:b≠a):upd H a o b=H b:=by unfold upd;rw[if_neg h]
theorem kH {H:Hp} {a b:aQ} {o u:HO} (h:H a=some o) (h':H b=some u) (d:o≠u):a≠b:=by intro e;subst e;rw[h]at h';exact d (cO h')
theorem dL {H:Hp} {a b:aQ} {o:HO} (h:H a=some o) (h':H b=none):a≠b:=by intro e;subst e;rw[h]at h';cases h'
def PF (h:gC) (a:aQ) (items:Array Value):Prop:=∃o,h.get? a=some o∧o.cls=.type "tuple"∧∃n,o.data=.seq items n∧o.dict=none
theorem PF.is (x:PF h a items):Pe h a items:=let ⟨o,e,c,n,d,_⟩:=x;⟨o,e,c,n,d⟩
theorem PF.new (h:gC) (items:Array Value):PF (h.push {cls:=.type "tuple",data:=.seq items}) h.objs.size items:=⟨_,bQ _ rfl,rfl,_,rfl,rfl⟩
theorem PF.lt (x:PF h a items):a < h.objs.size:=x.is.lt
section
variable (P:dF) (w:eV)
def lB (H:Hp) (h:gC) (a:aQ):HO→Prop
 | .lst xs=>xs.length≤aU∧∃(eG:List Value) (n:Nat),fY xs eG∧h.get? a=some {cls:=.type "list",data:=.seq eG.toArray n}
 | .tup xs=>xs.length≤aU∧∃eG:List Value,fY xs eG∧PF h a eG.toArray
 | .dK kvs=>kvs.length≤aU∧(a == oY)=false∧∃vs,KV kvs vs∧h.DictOf (lS P w) a vs
 | .dT kvs=>kvs.length≤aU∧(a == oY)=false∧∃xs:List (List CG×aQ×Value),gY (fun(p:List CG×V) (q:List CG×aQ×Value)=>p.1=q.1∧H q.2.1=some (.tup (p.1.map kV))∧gK p.2 q.2.2) kvs xs∧∃o es ep,h.get? a=some o∧o.ExactDict∧o.data=.dict es ep∧es.toList=xs.map (entryOfKey (YG (lS P w)))∧(xs.map (·.1)).Nodup
 | .set S n=>h.SetOf (intKind P w) a S n
 | .ins C dx fs=>H dx=some (.own a)∧fs.length≤1000∧dx≠a∧h.get? a=some (lH C dx)∧∃mA,h.Ns1 dx mA∧(∀f,DB (fs.lookup f) (mA f))∧Bx mA (fs.map (·.1))
 | .own _=>∃o,h.get? a=some o
 | .xd fs=>∃mA,h.Ns1 a mA∧∀f,DB (fs.lookup f) (mA f)
 | .rng lo hi=>∃t u v,h.get? a=some {cls:=.type "range",data:=.fields #[.int lo t,.int hi u,.int 1 v]}
 | .frz o u=>h.get? a=some o∧lB H h a u
 | .tbl ps=>h.get? a=some {cls:=.none,data:=.fields ps}
 | .met f x=>h.get? a=some (IN (.ref f) (.ref x))
 | .ext φ=>φ h∧(∃o,h.get? a=some o)∧∀h1 h2:gC,φ h1→(∀o,h1.get? a=some o→h2.get? a=some o)→φ h2
def CF (H:Hp) (h:gC):Prop:=∀a o,H a=some o→lB P w H h a o
end
section
variable {P:dF} {w:eV} {H H':Hp} {h h':gC} {a:aQ} {o:HO}
theorem lB.lt (x:lB P w H h a o):a < h.objs.size:=by
 cases o with
 | lst xs=>obtain⟨_,_,_,_,e⟩:=x;exact bY e
 | tup xs=>obtain⟨_,_,_,p⟩:=x;exact p.lt
 | dK kvs=>obtain⟨_,_,_,_,o,_,_,e,_⟩:=x;exact bY e
 | dT kvs=>obtain⟨_,_,_,_,o,_,_,e,_⟩:=x;exact bY e
 | set S n=>obtain⟨o,_,_,_,e,_⟩:=x;exact bY e
 | ins C dx fs=>obtain⟨_,_,_,e,_⟩:=x;exact bY e
 | own y=>obtain⟨_,e⟩:=x;exact bY e
 | xd fs=>obtain⟨_,⟨_,_,_,e,_⟩,_⟩:=x;exact bY e
 | rng lo hi=>obtain⟨_,_,_,e⟩:=x;exact bY e
 | frz ob u=>obtain⟨e,_⟩:=x;exact bY e
 | tbl ps=>exact bY (show h.get? a=some _ from x)
 | met f y=>exact bY (show h.get? a=some _ from x)
 | ext φ=>obtain⟨_,⟨_,e⟩,_⟩:=x;exact bY e
theorem Paired.mapP:∀{l₁:List α} {l₂:List β},gY F l₁ l₂→(∀a b,F a b→G a b)→gY G l₁ l₂
 | _,_,.nil,_=>.nil
 | _,_,.cons r t,f=>.cons (f _ _ r) (Paired.mapP t f)
theorem lB.stay (x:lB P w H h a o) (k:∀b u,(b=a∨H b=some (.own a))→h.get? b=some u→h'.get? b=some u)
  (ho:∀b,H b=some (.own a)→H' b=some (.own a)) (ht:∀b xs,H b=some (.tup xs)→H' b=some (.tup xs)):lB P w H' h' a o:=by
 induction o with
 | lst xs=>obtain⟨z,eG,n,r,e⟩:=x;exact⟨z,eG,n,r,k _ _ (.inl rfl) e⟩
 | tup xs=>obtain⟨z,eG,r,ob,e,c⟩:=x;exact⟨z,eG,r,ob,k _ _ (.inl rfl) e,c⟩
 | dK kvs=>obtain⟨z,y,vs,r,ob,es,ep,e,c⟩:=x;exact⟨z,y,vs,r,ob,es,ep,k _ _ (.inl rfl) e,c⟩
 | dT kvs=>obtain⟨z,y,xs,r,ob,es,ep,e,c⟩:=x;exact⟨z,y,xs,Paired.mapP r fun p q z=>⟨z.1,ht _ _ z.2.1,z.2.2⟩,ob,es,ep,k _ _ (.inl rfl) e,c⟩
 | set S n=>obtain⟨ob,es,ep,t,e,c⟩:=x;exact⟨ob,es,ep,t,k _ _ (.inl rfl) e,c⟩
 | ins C dx fs=>obtain⟨d,z,ne,e,mA,⟨od,es,ep,e2,c⟩,r⟩:=x;exact⟨ho _ d,z,ne,k _ _ (.inl rfl) e,mA,⟨od,es,ep,k _ _ (.inr d) e2,c⟩,r⟩
 | own y=>obtain⟨ob,e⟩:=x;exact⟨ob,k _ _ (.inl rfl) e⟩
 | xd fs=>obtain⟨mA,⟨od,es,ep,e,c⟩,r⟩:=x;exact⟨mA,⟨od,es,ep,k _ _ (.inl rfl) e,c⟩,r⟩
 | rng lo hi=>obtain⟨t,u,v,e⟩:=x;exact⟨t,u,v,k _ _ (.inl rfl) e⟩
 | frz ob u ih=>obtain⟨e,q⟩:=x;exact⟨k _ _ (.inl rfl) e,ih q⟩
 | tbl ps=>have e:h.get? a=some {cls:=.none,data:=.fields ps}:=x;show h'.get? a=some {cls:=.none,data:=.fields ps};exact k a _ (.inl rfl) e
 | met f y=>have e:h.get? a=some (IN (.ref f) (.ref y)):=x;show h'.get? a=some (IN (.ref f) (.ref y));exact k a _ (.inl rfl) e
 | ext φ=>obtain⟨p,⟨o,e⟩,st⟩:=x;exact⟨st _ _ p fun o q=>k _ _ (.inl rfl) q,⟨o,k _ _ (.inl rfl) e⟩,st⟩
theorem CF.lt (x:CF P w H h) (e:H a=some o):a < h.objs.size:=(x a o e).lt
theorem CF.fresh (x:CF P w H h) (e:h.objs.size≤a):H a=none:=by
 cases q:H a with
 | none=>rfl
 | some u=>exact absurd (bZ (x.lt q) e) (fN _)
theorem CF.kept (x:CF P w H h) (k:∀b u,h.get? b=some u→h'.get? b=some u):CF P w H h':=fun a o e=>(x a o e).stay (fun b u _ q=>k b u q) (fun _ q=>q) fun _ _ q=>q
theorem CF.laid (x:CF P w H h) (k:∀b u,h.get? b=some u→h'.get? b=some u) (hp:h.objs.size≤a) (new:lB P w (upd H a o) h' a o):CF P w (upd H a o) h':=fun b u e=>by
 have hn:=x.fresh hp;by_cases hb:b=a
 ·subst hb;rw[aG]at e;cases e;exact new
 ·rw[bK hb]at e;exact(x b u e).stay (fun c v _ q=>k c v q) (fun c q=>by rw[bK (dL q hn)];exact q) fun c xs q=>by rw[bK (dL q hn)];exact q
end
def Rd (H:Hp) (a:aQ) (u:HO):Prop:=H a=some u∨∃o,H a=some (.frz o u)
theorem Rd.ok (r:Rd H a u) (x:CF P w H h):lB P w H h a u:=by
 rcases r with r | ⟨o,r⟩
 ·exact x a u r
 ·obtain⟨_,q⟩:=x a _ r;exact q
def Ye:Option HO→Prop
 | some (.lst _)=>True
 | some (.dK _)=>True
 | some (.dT _)=>True
 | some (.set _ _)=>True
 | some (.ins _ _ _)=>True
 | some (.ext _)=>True
 | _=>False
section
variable {P:dF} {w:eV} {H:Hp} {h h':gC} {x e:aQ} {o':HO}
theorem CF.write (ok:CF P w H h) (mu:Ye (H x)) (he:e=x∨H e=some (.own x)) (k:∀b u,b≠e→h.get? b=some u→h'.get? b=some u) (heo:∃u,h'.get? e=some u)
  (new:lB P w (upd H x o') h' x o'):CF P w (upd H x o') h':=fun b u q=>by
 have nown:∀c y,H c=some (.own y)→c≠x:=fun c y r z=>by subst z;rw[r]at mu;exact mu
 have ntup:∀c xs,H c=some (.tup xs)→c≠x:=fun c xs r z=>by subst z;rw[r]at mu;exact mu
 by_cases hb:b=x
 ·subst hb;rw[aG]at q;cases q;exact new
 ·rw[bK hb]at q;by_cases hbe:b=e
  ·have q':H b=some (.own x):=by
    rcases he with z | z
    ·exact absurd (hbe.trans z) hb
    ·rw[hbe];exact z
   rw[q]at q';cases q';obtain⟨v,hv⟩:=heo;exact⟨v,by rw[hbe];exact hv⟩
  ·refine(ok b u q).stay (fun c v hc r=>k c v ?_ r) (fun c r=>by rw[bK (nown c b r)];exact r) fun c xs r=>by rw[bK (ntup c xs r)];exact r
   rcases hc with rfl | hc
   ·exact hbe
   ·rintro rfl;rcases he with z | z
    ·exact nown c b hc z
    ·rw[hc]at z;cases z;exact hb rfl
end
structure Un (fs ex:List aQ) (H H':Hp) (h h':gC):Prop where
 keep:∀b o,h.get? b=some o→H b=none→b∉fs→b∉ex→h'.get? b=some o
 slot:∀b o,h.get? b=some o→H b=none→b∈fs→b∉ex→∃sl,h'.get? b=some {o with slots:=sl}
 free:∀b o,h.get? b=some o→H b=none→b∉ex→H' b=none
 there:∀b o,h.get? b=some o→b∉ex→∃o',h'.get? b=some o'
 tups:∀b xs,H b=some (.tup xs)→H' b=some (.tup xs)
 frzs:∀b o u,H b=some (.frz o u)→H' b=some (.frz o u)
 tbls:∀b ps,H b=some (.tbl ps)→∃more,H' b=some (.tbl (ps++more))
section
variable {fs fs' ex ex':List aQ} {H H1 H2:Hp} {h h1 h2 h':gC} {a x e:aQ} {o:HO}
theorem Un.any (u:Un fs ex H H1 h h1) (q:h.get? b=some ob) (n:H b=none) (hx:b∉ex):∃sl,h1.get? b=some {ob with slots:=sl}:=by
 by_cases hb:b∈fs
 ·exact u.slot b ob q n hb hx
 ·exact⟨ob.slots,u.keep b ob q n hb hx⟩
theorem Un.kept (k:∀b u,h.get? b=some u→h'.get? b=some u):Un fs ex H H h h':=⟨fun b ob q _ _ _=>k b ob q,fun b ob q _ _ _=>⟨ob.slots,k b ob q⟩,fun _ _ _ n _=>n,fun b ob q _=>⟨ob,k b ob q⟩,fun _ _ q=>q,fun _ _ _ q=>q,fun _ ps q=>⟨#[],by rw[q];simp⟩⟩
theorem Un.refl:Un fs ex H H h h:=Un.kept fun _ _ q=>q
theorem Un.laid (k:∀b u,h.get? b=some u→h'.get? b=some u) (hp:h.objs.size≤a) (hn:H a=none):Un fs ex H (upd H a o) h h' where
 keep:=fun b u q _ _ _=>k b u q
 slot:=fun b u q _ _ _=>⟨u.slots,k b u q⟩
 free:=fun b u q n _=>by rw[bK (eI (bZ (bY q) hp))];exact n
 there:=fun b u q _=>⟨u,k b u q⟩
 tups:=fun b xs q=>by rw[bK (dL q hn)];exact q
 frzs:=fun b u xs q=>by rw[bK (dL q hn)];exact q
 tbls:=fun b ps q=>⟨#[],by rw[bK (dL q hn),q];simp⟩
theorem Un.write (mu:Ye (H x)) (he:e=x∨H e=some (.own x)) (k:∀b u,b≠e→h.get? b=some u→h'.get? b=some u) (heo:∃u,h'.get? e=some u):Un fs ex H (upd H x o) h h':=by
 have hx:∀b,H b=none→b≠x:=fun b n z=>by subst z;rw[n]at mu;exact mu
 have hb:∀b,H b=none→b≠e:=fun b n z=>by
  subst z;rcases he with r | r
  ·exact hx b n r
  ·rw[n]at r;cases r
 have hm:∀b u,H b=some u→¬Ye (some u)→b≠x:=fun b u q nm z=>by subst z;rw[q]at mu;exact nm mu
 refine⟨fun b u q n _ _=>k b u (hb b n) q,fun b u q n _ _=>⟨u.slots,k b u (hb b n) q⟩,fun b u q n _=>by rw[bK (hx b n)];exact n,fun b u q _=>?_,fun b xs q=>by rw[bK (hm b _ q fun z=>z)];exact q,fun b u xs q=>by rw[bK (hm b _ q fun z=>z)];exact q,fun b ps q=>⟨#[],by rw[bK (hm b _ q fun z=>z),q];simp⟩⟩;by_cases hbe:b=e
 ·subst hbe;exact heo
 ·exact⟨u,k b u hbe q⟩
end
def B9 (h:gC) (H:Hp):List aQ:=(KP h.objs.size).filter fun a=>(H a).isSome
def ZC (h:gC) (H:Hp):gC:=BZ h (B9 h H)
theorem Nc (h:gC) (H:Hp):(ZC h H).objs.size=h.objs.size:=PySem.W.hideAll_size _ _
theorem Qw (e:h.get? b=some o) (n:H b=none):(ZC h H).get? b=some o:=Gc _ e fun hm=>by have q:(H b).isSome=true:=(kJ.mp hm).2;rw[n]at q;simp at q
theorem Ul (e:(ZC h H).get? b=some o):h.get? b=some o∧H b=none:=by
 have e':h.get? b=some o:=GW (B9 h H) e;refine⟨e',?_⟩;cases q:H b with
 | none=>rfl
 | some x=>have hm:b∈B9 h H:=kJ.mpr ⟨List.mem_range.mpr (bY e'),by simp[q]⟩;have z:(ZC h H).get? b=none:=PySem.W.hideAll_none (B9 h H) hm;rw[z]at e;cases e
structure B3 (K:aB) (mg:Str→Option Value) (base:gC):Prop where
 kin:K.In base
 glob:base.Ns jR mg
 blt:∃mb,base.Ns builtinsNs mb∧∀x:Str,x≠"__name__"→mb x=vL x
 nolimit:base.NoLimit
structure Cx where
 prog:dF
 w:eV
 K:aB
 mg:Str→Option Value
 base:gC
 A:jT
 N:List Str
 s_0:aV
 H_0:Hp
 env:Env
 outer:List Env
 stack:List Env
 ex:List aQ
 fn:Str→Bool
 calm:Bool
 pn:List (aQ×Obj)
 xe:Value→aV→Prop
def II (l:List Env):List aQ:=l.filterMap (·.frame)
abbrev Cx.fs (X:Cx):List aQ:=II X.outer
def Xw (sc:zB) (x:Str):Prop:=sc.names.lookup x=some .local∨sc.names.lookup x=some .cell∨sc.names.lookup x=some .free
def Wa (sc:zB) (x:Str):Prop:=sc.names.lookup x=some .local∨sc.names.lookup x=some .cell
def C2 (env:Env) (h:gC) (m:Str→Option Value) (x:Str) (u:Value):Prop:=(env.kindOf x=some .local∧m x=some u)∨((env.kindOf x=some .cell∨env.kindOf x=some .free)∧∃c,env.cells.lookup x=some c∧h.IsCell c (some u))
structure Cx.Ok (X:Cx):Prop where
 mod:B3 X.K X.mg X.base
 kind:X.env.scope.kind=.function
 glob:X.env.globals=jR
 blt:X.env.builtins=builtinsNs
 above:X.s_0.heap.objs.size≤X.env.locals
 inj:∀x y c,X.env.cells.lookup x=some c→X.env.cells.lookup y=some c→x=y
 has:∀x,(X.env.kindOf x=some .cell∨X.env.kindOf x=some .free)→∃c,X.env.cells.lookup x=some c
 cab:∀x c,X.fn x=true→X.env.cells.lookup x=some c→X.s_0.heap.objs.size≤c
 hd:X.calm=true→X.A.handled=none
 frames:X.A.frames=some X.stack
 stk:X.stack=X.outer∨(X.stack=X.env::X.outer∧X.env.frame=some X.env.locals)
 exf:∀b∈X.ex,b≠X.env.locals∧∀x c,X.env.cells.lookup x=some c→c≠b
 bs:∀b o,X.base.get? b=some o→X.s_0.heap.get? b=some o∧X.H_0 b=none
 bsz:X.base.objs.size≤X.s_0.heap.objs.size
 noex:∀b o,X.base.get? b=some o→b∉X.ex
 exfs:∀b∈X.ex,b∉X.fs
 funs:X.s_0.heap.FunFrames X.base X.outer
 frf:∀b∈X.fs,X.H_0 b=none
structure dH (X:Cx) (pins:List (aQ×Obj)) (σ:List (Option V)) (H:Hp) (s:aV):Prop where
 ok:X.Ok
 os:s.os=X.s_0.os
 bare:GR s.gens
 base:Un X.fs X.ex X.H_0 H X.s_0.heap s.heap
 loc:∃m,s.heap.Ns X.env.locals m∧∀(i:Nat) (x:Str) (v:V),X.N[i]?=some x→σ[i]?=some (some v)→Xw X.env.scope x→∃u,gK v u∧C2 X.env s.heap m x u
 cell:∀x c,X.env.cells.lookup x=some c→∃v,s.heap.IsCell c v
 free:H X.env.locals=none
 freeC:∀x c,X.env.cells.lookup x=some c→H c=none
 pin:∀p∈X.pn++pins,s.heap.get? p.1=some p.2∧H p.1=none∧p.1≠X.env.locals∧p.1∉X.fs∧∀v,p.2.data≠.cell v
 hok:CF X.prog X.w H s.heap
 len:σ.length=X.N.length
section
variable {X:Cx} {pins:List (aQ×Obj)} {σ:List (Option V)} {H H':Hp} {s:aV} {h':gC}
theorem Cx.Ok.nofr (ok:X.Ok) (e:X.base.get? b=some o):b∉X.fs:=fun hb=>by have:=(ok.funs.mem hb).1;rw[e]at this;cases this
theorem dH.bs (I:dH X pins σ H s):∀b o,X.base.get? b=some o→s.heap.get? b=some o∧H b=none:=fun b o e=>⟨I.base.keep b o (I.ok.bs b o e).1 (I.ok.bs b o e).2 (I.ok.nofr e) (I.ok.noex b o e),I.base.free b o (I.ok.bs b o e).1 (I.ok.bs b o e).2 (I.ok.noex b o e)⟩
theorem dH.bk (I:dH X pins σ H s):∀b o,X.base.get? b=some o→s.heap.get? b=some o:=fun b o e=>(I.bs b o e).1
theorem dH.mod (I:dH X pins σ H s):B3 X.K X.mg X.base:=I.ok.mod
theorem dH.kIn (I:dH X pins σ H s):X.K.In s.heap:=I.ok.mod.kin.keeps I.bk
theorem dH.lt (I:dH X pins σ H s):X.env.locals < s.heap.objs.size:=let ⟨_,hn,_⟩:=I.loc;hn.lt
theorem dH.sz (I:dH X pins σ H s):X.s_0.heap.objs.size≤s.heap.objs.size:=bI I.ok.above (Gg I.lt)
theorem dH.nofs (I:dH X pins σ H s) (h:s.heap.objs.size≤a):a∉X.fs:=fun hb=>by obtain⟨_,o,ho,_⟩:=I.ok.funs.mem hb;exact absurd (bZ (bY ho) (bI I.sz h)) (fN _)
theorem dH.cne (I:dH X pins σ H s):∀x c,X.env.cells.lookup x=some c→c≠X.env.locals:=fun x c e z=>by obtain⟨v,o,ho,hd⟩:=I.cell x c e;obtain⟨m,⟨o',es,ep,ho',hd',_⟩,_⟩:=I.loc;rw[z,ho']at ho;cases ho;rw[hd']at hd;cases hd
theorem dH.funs (I:dH X pins σ H s):s.heap.FunFrames X.base X.outer:=by
 have all:∀(l:List Env),(∀b∈II l,b∈X.fs)→X.s_0.heap.FunFrames X.base l→s.heap.FunFrames X.base l:=by
  intro l;induction l with
  | nil=>intro _ _;trivial
  | cons env r ih=>intro hs hl;obtain⟨hk,⟨L,o,hf,hn,ho,hd⟩,hr⟩:=hl;have hL:L∈X.fs:=hs L (by unfold II;rw[wI,hf];exact aM);obtain⟨sl,e⟩:=I.base.slot L o ho (I.ok.frf L hL) hL fun z=>I.ok.exfs L z hL;exact⟨hk,⟨L,_,hf,hn,e,hd⟩,ih (fun b hb=>hs b (by unfold II;rw[wI,hf];exact aL _ hb)) hr⟩
 exact all X.outer (fun _ hb=>hb) I.ok.funs
theorem dH.stack (I:dH X pins σ H s):s.heap.FunFrames X.base X.stack:=by
 rcases I.ok.stk with e | ⟨e,hf⟩
 ·rw[e];exact I.funs
 ·rw[e];obtain⟨m,hn,_⟩:=I.loc;refine .cons (by rw[I.ok.kind];decide) hf hn ?_ I.funs;exact Jr (bI I.ok.bsz I.ok.above)
theorem dH.stkSub (I:dH X pins σ H s):∀b∈II X.stack,b∈X.env.locals::X.fs:=fun b hb=>by
 rcases I.ok.stk with e | ⟨e,hf⟩
 ·rw[e]at hb;exact aL _ hb
 ·rw[e]at hb;unfold II at hb;rw[wI,hf]at hb;exact hb
theorem dH.stkFree (I:dH X pins σ H s):∀b∈II X.stack,H b=none:=fun b hb=>by
 rcases aT.mp (I.stkSub b hb)with e | hb
 ·rw[e];exact I.free
 ·obtain⟨_,o,ho,_⟩:=I.ok.funs.mem hb;exact I.base.free b o ho (I.ok.frf b hb) fun z=>I.ok.exfs b z hb
theorem dH.step {g':Array GenState} {t':Nat} {d':Drawn} {ch:List aQ} (I:dH X pins σ H s)
  (hch:∀b∈ch,(b∈X.ex∨X.s_0.heap.objs.size≤b)∧b≠X.env.locals∧(∀x c,X.env.cells.lookup x=some c→c≠b)∧∀p∈X.pn++pins,p.1≠b)
  (keep:∀b o,b≠X.env.locals→b∉X.fs→b∉ch→s.heap.get? b=some o→H b=none→h'.get? b=some o)
  (slot:∀b o,b≠X.env.locals→b∈X.fs→b∉ch→s.heap.get? b=some o→H b=none→∃sl,h'.get? b=some {o with slots:=sl}) (free:∀b o,b∉ch→s.heap.get? b=some o→H b=none→H' b=none)
  (there:∀b o,b∉ch→s.heap.get? b=some o→∃o',h'.get? b=some o')
  (tups:∀b xs,H b=some (.tup xs)→H' b=some (.tup xs)) (frzs:∀b o u,H b=some (.frz o u)→H' b=some (.frz o u)) (tbls:∀b ps,H b=some (.tbl ps)→∃more,H' b=some (.tbl (ps++more)))
  (ns:∀m,s.heap.Ns X.env.locals m→h'.Ns X.env.locals m) (hok:CF X.prog X.w H' h') (hg:GR g'):
  dH X pins σ H' {s with heap:=h',gens:=g',drawn:=d',toks:=t'}:=by
 have neL:∀b o,X.s_0.heap.get? b=some o→b≠X.env.locals:=fun b o e=>eI (bZ (bY e) I.ok.above);have neC:∀b o,X.s_0.heap.get? b=some o→b∉X.ex→b∉ch:=fun b o e hx hb=>by
  rcases(hch b hb).1 with z | z
  ·exact hx z
  ·exact absurd (bZ (bY e) z) (fN _)
 have cellK:∀x c,X.env.cells.lookup x=some c→∀v,s.heap.IsCell c v→h'.IsCell c v:=fun x c e v ⟨o,ho,hd⟩=>by
  have nch:c∉ch:=fun z=>(hch c z).2.2.1 x c e rfl;by_cases hc:c∈X.fs
  ·obtain⟨sl,q⟩:=slot c o (I.cne x c e) hc nch ho (I.freeC x c e);exact⟨_,q,hd⟩
  ·exact⟨o,keep c o (I.cne x c e) hc nch ho (I.freeC x c e),hd⟩
 refine⟨I.ok,I.os,hg,⟨fun b o e n hb hx=>?_,fun b o e n hb hx=>?_,fun b o e n hx=>?_,fun b o e hx=>?_,fun b xs e=>tups b xs (I.base.tups b xs e),fun b o xs e=>frzs b o xs (I.base.frzs b o xs e),fun b ps e=>?_⟩,?_,fun x c e=>?_,?_,fun x c e=>?_,fun p hp=>?_,hok,I.len⟩
 ·exact keep b o (neL b o e) hb (neC b o e hx) (I.base.keep b o e n hb hx) (I.base.free b o e n hx)
 ·obtain⟨sl,e1⟩:=I.base.slot b o e n hb hx;obtain⟨sl',e2⟩:=slot b _ (neL b o e) hb (neC b o e hx) e1 (I.base.free b o e n hx);exact⟨sl',e2⟩
 ·obtain⟨o',e1⟩:=I.base.there b o e hx;exact free b o' (neC b o e hx) e1 (I.base.free b o e n hx)
 ·obtain⟨o',e1⟩:=I.base.there b o e hx;exact there b o' (neC b o e hx) e1
 ·obtain⟨m1,e1⟩:=I.base.tbls b ps e;obtain⟨m2,e2⟩:=tbls b _ e1;exact⟨m1++m2,by rw[e2,Lo]⟩
 ·obtain⟨m,hn,hl⟩:=I.loc;refine⟨m,ns m hn,fun i x v e1 e2 e3=>?_⟩;obtain⟨u,r,l⟩:=hl i x v e1 e2 e3;refine⟨u,r,?_⟩;rcases l with l | ⟨k,c,e,z⟩
  ·exact .inl l
  ·exact .inr ⟨k,c,e,cellK x c e _ z⟩
 ·obtain⟨v,z⟩:=I.cell x c e;exact⟨v,cellK x c e v z⟩
 ·obtain⟨m,⟨o,_,_,ho,_⟩,_⟩:=I.loc;exact free _ o (fun z=>(hch _ z).2.1 rfl) ho I.free
 ·obtain⟨v,o,ho,hd⟩:=I.cell x c e;exact free c o (fun z=>(hch c z).2.2.1 x c e rfl) ho (I.freeC x c e)
 ·obtain⟨e,n,ne,nf,d⟩:=I.pin p hp;have nch:p.1∉ch:=fun z=>(hch p.1 z).2.2.2 p hp rfl;exact⟨keep p.1 p.2 ne nf nch e n,free p.1 p.2 nch e n,ne,nf,d⟩
theorem dH.un {t':Nat} (I:dH X pins σ H s) (u:Un X.fs [] H H' s.heap h') (hok:CF X.prog X.w H' h'):dH X pins σ H' {s with heap:=h',toks:=t'}:=by obtain⟨m,⟨o,es,ep,ho,r⟩,_⟩:=id I.loc;obtain⟨sl,hL⟩:=u.any ho I.free (by simp);exact I.step (g':=s.gens) (d':=s.drawn) (ch:=[]) (fun _ z=>nomatch z) (fun b o _ hb _ e n=>u.keep b o e n hb (by simp)) (fun b o _ hb _ e n=>u.slot b o e n hb (by simp)) (fun b o _ e n=>u.free b o e n (by simp)) (fun b o _ e=>u.there b o e (by simp)) u.tups u.frzs u.tbls (fun m' hm=>by obtain⟨o',es',ep',ho',r'⟩:=hm;rw[ho]at ho';cases ho';exact⟨_,es',ep',hL,r'⟩) hok I.bare
theorem dH.call {g':Array GenState} {t':Nat} {d':Drawn} {ch:List aQ} (I:dH X pins σ H s) (u:Un (II X.stack) ch H H' s.heap h') (hok:CF X.prog X.w H' h') (hg:GR g')
  (hch:∀b∈ch,(b∈X.ex∨X.s_0.heap.objs.size≤b)∧b≠X.env.locals∧(∀x c,X.env.cells.lookup x=some c→c≠b)∧∀p∈X.pn++pins,p.1≠b):
  dH X pins σ H' {s with heap:=h',gens:=g',drawn:=d',toks:=t'}:=by
 obtain⟨m,⟨o,es,ep,ho,r⟩,_⟩:=id I.loc;obtain⟨sl,hL⟩:=u.any ho I.free fun z=>(hch _ z).2.1 rfl;exact I.step (ch:=ch) hch (fun b o hL hb hc e n=>u.keep b o e n (fun z=>(aT.mp (I.stkSub b z)).elim hL hb) hc) (fun b o _ _ hc e n=>u.any e n hc) (fun b o hc e n=>u.free b o e n hc) (fun b o hc e=>u.there b o e hc) u.tups u.frzs u.tbls (fun m' hm=>by obtain⟨o',es',ep',ho',r'⟩:=hm;rw[ho]at ho';cases ho';exact⟨_,es',ep',hL,r'⟩) hok hg
theorem dH.turned {t':Nat} {it:aQ} (I:dH X pins σ H s) (k:∀b o,b≠it→s.heap.get? b=some o→h'.get? b=some o) (hn:H it=none) (hL:it≠X.env.locals)
  (h1:it∈X.ex∨X.s_0.heap.objs.size≤it) (h2:∀x c,X.env.cells.lookup x=some c→c≠it) (h3:∀p∈X.pn++pins,p.1≠it):dH X pins σ H {s with heap:=h',toks:=t'}:=by
 have nit:∀b u,H b=some u→b≠it:=fun b u e z=>by rw[z,hn]at e;cases e
 refine I.step (g':=s.gens) (d':=s.drawn) (ch:=[it]) (fun b hb=>?_) (fun b o _ _ hc e _=>k b o (fun z=>hc (by simp[z])) e) (fun b o _ _ hc e _=>⟨o.slots,k b o (fun z=>hc (by simp[z])) e⟩) (fun _ _ _ _ n=>n)
  (fun b o hc e=>⟨o,k b o (fun z=>hc (by simp[z])) e⟩) (fun _ _ e=>e) (fun _ _ _ e=>e) (fun b ps e=>⟨#[],by rw[e];simp⟩) (fun m hm=>?_) (fun b u e=>?_) I.bare
 ·have e:b=it:=by simpa using hb
  subst e;exact⟨h1,hL,h2,h3⟩
 ·obtain⟨o,es,ep,ho,r⟩:=hm;exact⟨o,es,ep,k _ o (uM hL) ho,r⟩
 ·refine(I.hok b u e).stay (fun c v hc q=>k c v ?_ q) (fun _ q=>q) fun _ _ q=>q;rcases hc with z | z
  ·rw[z];exact nit b u e
  ·exact nit c _ z
theorem dH.tok (I:dH X pins σ H s) (t:Nat):dH X pins σ H {s with toks:=t}:=I.un (h':=s.heap) (t':=t) Un.refl I.hok
theorem dH.kept (I:dH X pins σ H s) (k:∀b u,s.heap.get? b=some u→h'.get? b=some u):dH X pins σ H {s with heap:=h',toks:=t'}:=I.un (Un.kept k) (I.hok.kept k)
theorem dH.laid (I:dH X pins σ H s) (k:∀b u,s.heap.get? b=some u→h'.get? b=some u) (hp:s.heap.objs.size≤a) (new:lB X.prog X.w (upd H a o) h' a o):dH X pins σ (upd H a o) {s with heap:=h',toks:=t'}:=I.un (Un.laid k hp (I.hok.fresh hp)) (I.hok.laid k hp new)
theorem dH.write (I:dH X pins σ H s) (mu:Ye (H x)) (he:e=x∨H e=some (.own x)) (k:∀b u,b≠e→s.heap.get? b=some u→h'.get? b=some u) (heo:∃u,h'.get? e=some u) (new:lB X.prog X.w (upd H x o) h' x o):dH X pins σ (upd H x o) {s with heap:=h',toks:=t'}:=I.un (Un.write mu he k heo) (I.hok.write mu he k heo new)
theorem dH.weak (I:dH X pins σ H s) (hl:σ'.length=σ.length) (w:∀(i:Nat) v,σ'[i]?=some (some v)→σ[i]?=some (some v)):dH X pins σ' H s:=⟨I.ok,I.os,I.bare,I.base,let ⟨m,hn,hl'⟩:=I.loc;⟨m,hn,fun i x v e1 e2 e3=>hl' i x v e1 (w i v e2) e3⟩,I.cell,I.free,I.freeC,I.pin,I.hok,hl.trans I.len⟩
theorem dH.pins_of (I:dH X pins σ H s) (h:∀p∈pins',s.heap.get? p.1=some p.2∧H p.1=none∧p.1≠X.env.locals∧p.1∉X.fs∧∀v,p.2.data≠.cell v):dH X pins' σ H s:=⟨I.ok,I.os,I.bare,I.base,I.loc,I.cell,I.free,I.freeC,fun p hp=>(eE.mp hp).elim (fun z=>I.pin p (Jl _ z)) (h p),I.hok,I.len⟩
theorem RE {N:List Str} (hN:N.Nodup) {i j:Nat} {x:Str} (a:N[i]?=some x) (b:N[j]?=some x):i=j:=by obtain⟨h1,e1⟩:=aS.mp a;obtain⟨h2,e2⟩:=aS.mp b;exact(List.getElem_inj hN).mp (e1.trans e2.symm)
theorem XM {M:Model} {A:jT} {E:Value→aV→Prop} {i:Nat} {x:Str} {v:V} {u:Value} {Q:Unit→aV→Prop} (I:dH X pins σ H s) (hN:X.N.Nodup) (hi:X.N[i]?=some x) (hx:Wa X.env.scope x) (r:gK v u)
  (h:∀s',dH X pins (σ.set i (some v)) H s'→(∃a,xD a s.heap s'.heap∧(a=X.env.locals∨X.env.cells.lookup x=some a))→Q () s') (hf:X.fn x=true∨X.env.scope.names.lookup x=some .local:=by first | exact .inl rfl | exact .inr rfl | assumption):bL M A (storeName X.env x u) Q E s:=by
 obtain⟨m,hn,hl⟩:=id I.loc;have hcls:(X.env.scope.kind == .class || (X.env.scope.kind == .module && X.env.locals != X.env.globals))=false:=by rw[I.ok.kind];rfl
 have hiσ:i < σ.length:=by rw[I.len];exact(aS.mp hi).1
 have cne:=I.cne;have tracked:∀{a:aQ} {h':gC},(∃o,s.heap.get? a=some o∧H a=none)→xD a s.heap h'→CF X.prog X.w H h':=fun {a h'} ha hs b ob e=>by
  obtain⟨_,_,hfree⟩:=ha;refine(I.hok b ob e).stay (fun c w' hc q=>(hs.2 c ?_).trans q) (fun _ q=>q) fun _ _ q=>q;rintro rfl;rcases hc with rfl | hc
  ·rw[hfree]at e;cases e
  ·rw[hfree]at hc;cases hc
 rcases hx with hk | hk
 ·refine wpAny_storeName_local hk hn (fun h' hn' hs=>?_) hcls;obtain⟨oL,_,_,hoL,_⟩:=id hn;refine h _ ⟨I.ok,I.os,I.bare,⟨fun b o e n hb hx=>?_,fun b o e n hb hx=>?_,I.base.free,fun b o e hx=>?_,I.base.tups,I.base.frzs,I.base.tbls⟩,⟨_,hn',fun j y v' e1 e2 e3=>?_⟩,fun y c e=>?_,I.free,I.freeC,fun p hp=>?_,tracked ⟨oL,hoL,I.free⟩ hs,by simpa using I.len⟩ ⟨_,hs,.inl rfl⟩
  ·exact(hs.2 b (eI (bZ (bY e) I.ok.above))).trans (I.base.keep b o e n hb hx)
  ·obtain⟨sl,e1⟩:=I.base.slot b o e n hb hx;exact⟨sl,(hs.2 b (eI (bZ (bY e) I.ok.above))).trans e1⟩
  ·obtain⟨o',e1⟩:=I.base.there b o e hx;exact⟨o',(hs.2 b (eI (bZ (bY e) I.ok.above))).trans e1⟩
  ·by_cases hj:j=i
   ·subst hj;rw[hi]at e1;cases e1;rw[oJ hiσ]at e2;cases e2;exact⟨u,r,.inl ⟨hk,by simp⟩⟩
   ·rw[vR (uM hj)]at e2;obtain⟨u',r',q⟩:=hl j y v' e1 e2 e3;refine⟨u',r',?_⟩;rcases q with⟨k,e⟩ | ⟨k,c,e,z⟩
    ·refine .inl ⟨k,?_⟩;have:y≠x:=fun e=>hj (RE hN e1 (e▸hi));simp[this,e]
    ·exact .inr ⟨k,c,e,z.sameBut hs (cne y c e)⟩
  ·obtain⟨w',z⟩:=I.cell y c e;exact⟨w',z.sameBut hs (cne y c e)⟩
  ·obtain⟨e,n,ne,nf,d⟩:=I.pin p hp;exact⟨(hs.2 p.1 ne).trans e,n,ne,nf,d⟩
 ·have hfn:X.fn x=true:=by
   rcases hf with z | z
   ·exact z
   ·rw[z]at hk;cases hk
  obtain⟨c,hc⟩:=I.ok.has x (.inl hk);obtain⟨w',z⟩:=I.cell x c hc;refine wpAny_storeName_cell I.ok.kind hk hc z (fun h' hc' hs=>?_);obtain⟨oc,hoc,hocd⟩:=id z;refine h {s with heap:=h'} ⟨I.ok,I.os,I.bare,⟨fun b o e n hb hx=>?_,fun b o e n hb hx=>?_,I.base.free,fun b o e hx=>?_,I.base.tups,I.base.frzs,I.base.tbls⟩,⟨m,hn.sameBut hs (uM (cne x c hc)),fun j y v' e1 e2 e3=>?_⟩,fun y c' e=>?_,I.free,I.freeC,fun p hp=>?_,tracked ⟨oc,hoc,I.freeC x c hc⟩ hs,by simpa using I.len⟩ ⟨c,hs,.inr hc⟩
  ·exact(hs.2 b (eI (bZ (bY e) (I.ok.cab x c hfn hc)))).trans (I.base.keep b o e n hb hx)
  ·obtain⟨sl,e1⟩:=I.base.slot b o e n hb hx;exact⟨sl,(hs.2 b (eI (bZ (bY e) (I.ok.cab x c hfn hc)))).trans e1⟩
  ·obtain⟨o',e1⟩:=I.base.there b o e hx;exact⟨o',(hs.2 b (eI (bZ (bY e) (I.ok.cab x c hfn hc)))).trans e1⟩
  ·by_cases hj:j=i
   ·subst hj;rw[hi]at e1;cases e1;rw[oJ hiσ]at e2;cases e2;exact⟨u,r,.inr ⟨.inl hk,c,hc,hc'⟩⟩
   ·rw[vR (uM hj)]at e2;obtain⟨u',r',q⟩:=hl j y v' e1 e2 e3;refine⟨u',r',?_⟩;rcases q with q | ⟨k,c',e,z'⟩
    ·exact .inl q
    ·refine .inr ⟨k,c',e,z'.sameBut hs ?_⟩;rintro rfl;exact hj (RE hN e1 (I.ok.inj _ _ _ e hc▸hi))
  ·by_cases hcc:c'=c
   ·subst hcc;exact⟨_,hc'⟩
   ·obtain⟨w2,z2⟩:=I.cell y c' e;exact⟨w2,z2.sameBut hs hcc⟩
  ·obtain⟨e,n,ne,nf,d⟩:=I.pin p hp;refine⟨(hs.2 p.1 ?_).trans e,n,ne,nf,d⟩;intro q;rw[q,hoc]at e;have q':oc=p.2:=cO e;exact d w' (by rw[←q'];exact hocd)
theorem DZ (I:dH X pins σ H s) (hN:X.N.Nodup) (hi:X.N[i]?=some x) (hx:Wa X.env.scope x) (r:gK v u) (h:∀s',dH X pins (σ.set i (some v)) H s'→Q () s') (hf:X.fn x=true∨X.env.scope.names.lookup x=some .local:=by first | exact .inl rfl | exact .inr rfl | assumption):bL M A (storeName X.env x u) Q E s:=XM I hN hi hx r (fun s' I' _=>h s' I') hf
theorem dH.call' (I:dH X pins σ H s) (ho:s'.os=s.os) (u:Un (II X.stack) ch H H' s.heap s'.heap) (hok:CF X.prog X.w H' s'.heap) (hg:GR s'.gens)
  (hch:∀b∈ch,(b∈X.ex∨X.s_0.heap.objs.size≤b)∧b≠X.env.locals∧(∀x c,X.env.cells.lookup x=some c→c≠b)∧∀p∈X.pn++pins,p.1≠b):dH X pins σ H' s':=by
 obtain⟨h',g',d',t',o'⟩:=s';have e:o'=s.os:=ho;subst e;exact I.call (g':=g') (t':=t') (d':=d') u hok hg hch
end
abbrev XK:=Value→Option aQ→Hp→Prop
abbrev St:=List (Option V)
abbrev VK:=V→Hp→Prop
abbrev TE:=St→Hp→VK→Prop
abbrev TT:=St→Hp→(Bool→Hp→Prop)→Prop
abbrev TA:=St→Hp→(List V→Hp→Prop)→Prop
structure HC where
 nx:St→Hp→Prop
 rt:VK
 bk:St→Hp→Prop:=fun _ _=>False
 ct:St→Hp→Prop:=fun _ _=>False
abbrev TS:=HC→St→Hp→Prop
def EP (X:Cx) (pins:List (aQ×Obj)) (σ:St) (Q:VK) (u:Value) (s':aV):Prop:=∃v H',dH X pins σ H' s'∧gK v u∧Q v H'
def TP (X:Cx) (pins:List (aQ×Obj)) (σ:St) (Q:Bool→Hp→Prop) (b:Bool) (s':aV):Prop:=∃H',dH X pins σ H' s'∧Q b H'
def AP (X:Cx) (pins:List (aQ×Obj)) (σ:St) (Q:List V→Hp→Prop) (us:List Value) (s':aV):Prop:=∃vs H',dH X pins σ H' s'∧fY vs us∧Q vs H'
def SP (X:Cx) (pins:List (aQ×Obj)) (D:HC) (f:Flow) (s':aV):Prop:=
 match f with
 | .next=>∃σ' H',dH X pins σ' H' s'∧D.nx σ' H'
 | .brk=>∃σ' H',dH X pins σ' H' s'∧D.bk σ' H'
 | .cont=>∃σ' H',dH X pins σ' H' s'∧D.ct σ' H'
 | .ret u=>∃v σ' H',dH X pins σ' H' s'∧gK v u∧D.rt v H'
def PE (X:Cx) (e:Expr) (t:TE):Prop:=∀(pins:List (aQ×Obj)) (s:aV) (σ:St) (H:Hp) (Q:VK),dH X pins σ H s→t σ H Q→bL (cB X.prog X.w) X.A (gZ e X.env) (EP X pins σ Q) X.xe s
def PT (X:Cx) (e:Expr) (t:TT):Prop:=∀(pins:List (aQ×Obj)) (s:aV) (σ:St) (H:Hp) (Q:Bool→Hp→Prop),dH X pins σ H s→t σ H Q→bL (cB X.prog X.w) X.A (isTrue e X.env (gZ e X.env)) (TP X pins σ Q) X.xe s
def PW (X:Cx) (e:Expr) (t:TT):Prop:=∀(whole:Sem Value) (pins:List (aQ×Obj)) (s:aV) (σ:St) (H:Hp) (Q:Bool→Hp→Prop),dH X pins σ H s→t σ H Q→bL (cB X.prog X.w) X.A (isTrue e X.env whole) (TP X pins σ Q) X.xe s
theorem PW.pt (h:PW X e t):PT X e t:=h _
def PA (X:Cx) (es:List Expr) (t:TA):Prop:=∀(pos:Pos) (pins:List (aQ×Obj)) (s:aV) (σ:St) (H:Hp) (Q:List V→Hp→Prop),dH X pins σ H s→t σ H Q→bL (cB X.prog X.w) X.A (spliced (jD pos (bO es X.env))) (AP X pins σ Q) X.xe s
def PS (X:Cx) (st:yL) (t:TS):Prop:=∀(pins:List (aQ×Obj)) (s:aV) (σ:St) (H:Hp) (D:HC),dH X pins σ H s→t D σ H→bL (cB X.prog X.w) X.A (exec st X.env) (SP X pins D) X.xe s
def Pp (X:Cx) (st:List yL) (t:TS):Prop:=∀(pins:List (aQ×Obj)) (s:aV) (σ:St) (H:Hp) (D:HC),dH X pins σ H s→t D σ H→bL (cB X.prog X.w) X.A (execs st X.env) (SP X pins D) X.xe s
theorem kT (h:bL M A t Q E s) (hQ:∀a s,Q a s→Q' a s):bL M A t Q' E s:=fV h hQ fun _ _ x=>x
section
variable {X:Cx}
def Jb (i:Nat):TE:=fun σ H Q=>∃v,σ[i]?=some (some v)∧Q v H
def tC (v:V):TE:=fun _ H Q=>Q v H
theorem Wx (hN:X.N[i]?=some x) (hv:Xw X.env.scope x) (hd:(x == ("__debug__":Str))=false:=by decide) (hcd:(x == ("__classdict__":Str))=false:=by decide):PE X (.Name x pos) (Jb i):=by
 intro pins s σ H Q I h;obtain⟨v,e,h⟩:=h;obtain⟨m,hn,hl⟩:=I.loc;obtain⟨u,r,l⟩:=hl i x v hN e hv;have fin:EP X pins σ Q u s:=⟨v,H,I,r,h⟩;rcases l with⟨hk,hm⟩ | ⟨hk,c,hc,hcell⟩
 ·exact wpAny_Name (wpAny_loadName_local I.ok.kind hk hn hm fin) hd
 ·rcases hk with hk | hk
  ·exact wpAny_Name (wpAny_loadName_cell I.ok.kind hk hc hcell fin) hd
  ·exact wpAny_Name (wpAny_loadName_free I.ok.kind hk hc hcell fin hcd) hd
theorem cA {i j pos}:PE X (.Constant (.int i) j pos) (tC (.int i)):=fun _ _ _ H _ I h=>wpAny_Constant_int ⟨.int i,H,I.tok _,⟨_,rfl⟩,h⟩
theorem Rt {b j pos}:PE X (.Constant (.bool b) j pos) (tC (.bl b)):=fun _ _ _ H _ I h=>Constant_bool ⟨.bl b,H,I,rfl,h⟩
theorem dZ {x j pos}:PE X (.Constant (.str x) j pos) (tC (.str x)):=fun _ _ _ H _ I h=>Calls.Constant_str ⟨.str x,H,I.tok _,⟨_,rfl⟩,h⟩
def Gl (X:Cx) (x:Str):Prop:=X.env.kindOf x=some .globalImplicit
theorem AX (I:dH X pins σ H s) (hg:Gl X x) (hm:X.mg x=some u) (h:Q u s) (hd:(x == ("__debug__":Str))=false:=by decide):bL (cB X.prog X.w) X.A (gZ (.Name x pos) X.env) Q E s:=TX I.ok.kind hg (Calls.loadGlobal_global (by rw[I.ok.glob];exact I.mod.glob.keeps I.bk) hm h) hd
theorem tY (I:dH X pins σ H s) (hg:Gl X x) (hm:X.mg x=none) (hv:vL x=some u) (h:Q u s)
  (hn:x≠"__name__":=by decide) (hd:(x == ("__debug__":Str))=false:=by decide):bL (cB X.prog X.w) X.A (gZ (.Name x pos) X.env) Q E s:=by
 obtain⟨mb,h1,h2⟩:=I.mod.blt;exact TX I.ok.kind hg (Calls.loadGlobal_builtin (by rw[I.ok.glob];exact I.mod.glob.keeps I.bk) hm (by rw[I.ok.blt];exact h1.keeps I.bk) ((h2 x hn).trans hv) h) hd
theorem dM (hg:Gl X x) (hm:X.mg x=some u) (r:gK v u) (hd:(x == ("__debug__":Str))=false:=by decide):PE X (.Name x pos) (tC v):=fun _ _ _ H _ I h=>AX I hg hm ⟨v,H,I,r,h⟩ hd
variable {a b:Expr} {ta tb:TE} {pos:Pos}
def PC (X:Cx) (op:CmpOp) (a b:Expr) (t:TE):Prop:=∀(pins:List (aQ×Obj)) (s:aV) (σ:St) (H:Hp) (Q:VK),dH X pins σ H s→t σ H Q→bL (cB X.prog X.w) X.A (gZ a X.env) (fun v s₁=>bL (cB X.prog X.w) X.A (gZ b X.env) (fun u s₂=>bL (cB X.prog X.w) X.A (qB op v u) (EP X pins σ Q) X.xe s₂) X.xe s₁) X.xe s
def tB (t:TE):TT:=fun σ H Q=>t σ H fun x H1=>∃c,x=.bl c∧Q c H1
theorem Wy (h:PC X op a b t) (h1:CT op b=false:=by first | exact nobehind _ (by decide) (by decide) | rfl):PT X (.Compare a [op] [b] pos) (tB t):=by intro pins s σ H Q I hw;refine wpAny_isTrue_Compare1 (kT (h pins s σ H _ I hw) fun v s1 h1=>kT h1 fun u s2 h2=>kT h2 fun c s3 ⟨x,H1,I1,r1,q1⟩=>?_) h1;obtain⟨d,rfl,q⟩:=q1;cases r1;exact nA ⟨H1,I1,q⟩
theorem mS (h:PE X e t) (he:∀whole,isTrue e X.env whole=(do let v←whole;standAt e.pos;GX [v] (truthy v)):=by intro _;rfl):PT X e (tB t):=by intro pins s σ H Q I hw;refine isTrue_plain (kT (h pins s σ H _ I hw) fun v s1 ⟨x,H1,I1,r1,q1⟩=>?_) (he _);obtain⟨d,rfl,q⟩:=q1;cases r1;exact nA ⟨H1,I1,q⟩
variable {tA tB':TT} {rest:List Expr}
def E9 (t u:TT):TT:=fun σ H Q=>t σ H fun c H1=>if c=true then u σ H1 Q else Q false H1
def J3 (t u:TT):TT:=fun σ H Q=>t σ H fun c H1=>if c=true then Q true H1 else u σ H1 Q
def F6 (t:TT):TT:=fun σ H Q=>t σ H fun c H1=>Q (!c) H1
theorem KC (ha:PT X a tA):PW X (.BoolOp .And [a] pos) tA:=by
 intro wh pins s σ H Q I h;refine isTrue_and (kT (ha pins s σ H Q I h) fun c s1 e=>?_);cases c with
 | true=>exact isTrue_and_nil e
 | false=>exact e
theorem SI (ha:PT X a tA):PW X (.BoolOp .Or [a] pos) tA:=by
 intro wh pins s σ H Q I h;refine isTrue_or (kT (ha pins s σ H Q I h) fun c s1 e=>?_);cases c with
 | false=>exact isTrue_or_nil e
 | true=>exact e
theorem SH (ha:PT X a tA) (hb:PW X (.BoolOp .And (b::rest) pos) tB'):PW X (.BoolOp .And (a::b::rest) pos) (E9 tA tB'):=by
 intro wh pins s σ H Q I h;refine isTrue_and (kT (ha pins s σ H _ I h) fun c s1 ⟨H1,I1,q1⟩=>?_);cases c with
 | true=>exact hb wh pins s1 σ H1 Q I1 q1
 | false=>exact⟨H1,I1,q1⟩
theorem XF (ha:PT X a tA) (hb:PW X (.BoolOp .Or (b::rest) pos) tB'):PW X (.BoolOp .Or (a::b::rest) pos) (J3 tA tB'):=by
 intro wh pins s σ H Q I h;refine isTrue_or (kT (ha pins s σ H _ I h) fun c s1 ⟨H1,I1,q1⟩=>?_);cases c with
 | true=>exact⟨H1,I1,q1⟩
 | false=>exact hb wh pins s1 σ H1 Q I1 q1
theorem wY (ha:PT X a tA):PT X (.UnaryOp .Not a pos) (F6 tA):=by intro pins s σ H Q I h;exact isTrue_not (ha pins s σ H (fun c H1=>Q (!c) H1) I h)
def Zt (ta tb:TE):TE:=fun σ H Q=>ta σ H fun x H1=>∃c,x=.bl c∧if c=true then tb σ H1 Q else Q (.bl false) H1
def F7 (ta tb:TE):TE:=fun σ H Q=>ta σ H fun x H1=>∃c,x=.bl c∧if c=true then Q (.bl true) H1 else tb σ H1 Q
theorem Ih {op} (h:PE X a t):PE X (.BoolOp op [a] pos) t:=fun pins s σ H Q I hw=>BoolOp_one (h pins s σ H Q I hw)
theorem Rs (ha:PE X a ta) (hb:PE X (.BoolOp .And (b::rest) pos) tb):PE X (.BoolOp .And (a::b::rest) pos) (Zt ta tb):=by
 intro pins s σ H Q I h;refine BoolOp_and (kT (ha pins s σ H _ I h) fun v s1 ⟨x,H1,I1,r1,q1⟩=>?_);obtain⟨c,rfl,q1⟩:=q1;cases r1;refine nA ?_;cases c with
 | true=>exact hb pins s1 σ H1 Q I1 q1
 | false=>exact⟨.bl false,H1,I1,rfl,q1⟩
theorem Zq (ha:PE X a ta) (hb:PE X (.BoolOp .Or (b::rest) pos) tb):PE X (.BoolOp .Or (a::b::rest) pos) (F7 ta tb):=by
 intro pins s σ H Q I h;refine BoolOp_or (kT (ha pins s σ H _ I h) fun v s1 ⟨x,H1,I1,r1,q1⟩=>?_);obtain⟨c,rfl,q1⟩:=q1;cases r1;refine nA ?_;cases c with
 | false=>exact hb pins s1 σ H1 Q I1 q1
 | true=>exact⟨.bl true,H1,I1,rfl,q1⟩
def J2 (t:TT) (ta tb:TE):TE:=fun σ H Q=>t σ H fun c H1=>if c=true then ta σ H1 Q else tb σ H1 Q
theorem Eg (hc:PT X c tA) (ha:PE X a ta) (hb:PE X b tb):PE X (.IfExp c a b pos) (J2 tA ta tb):=by
 intro pins s σ H Q I h;refine wpAny_IfExp (kT (hc pins s σ H _ I h) fun d s1 ⟨H1,I1,q1⟩=>?_);cases d with
 | true=>exact ha pins s1 σ H1 Q I1 q1
 | false=>exact hb pins s1 σ H1 Q I1 q1
end
def gX (K:aB) (H:Hp) (a:aQ) (xs:List V):Prop:=Rd H a (.lst xs)∨∃(o:Obj) (eG:Array Value) (n:Nat),K.lookup a=some o∧o.cls=.type "list"∧o.dict=none∧o.data=.seq eG n∧eG.size≤aU∧fY xs eG.toList
def fE (K:aB) (H:Hp) (a:aQ) (xs:List V):Prop:=Rd H a (.tup xs)∨∃(o:Obj) (eG:Array Value) (n:Nat),K.lookup a=some o∧(o.cls=.type "tuple"∧o.dict=none)∧o.data=.seq eG n∧eG.size≤aU∧fY xs eG.toList
def C7:Value→Option V
 | .none=>some .non
 | .bool b=>some (.bl b)
 | .int i _=>some (.int i)
 | .str x _=>some (.str x)
 | .bytes b _=>some (.byt b)
 | .float b _=>some (.flt b)
 | .ref a=>some (.ref a)
 | .type n=>some (.ty n)
 | _=>none
theorem gK.abs (r:gK x u):C7 u=some x:=by
 cases x with
 | non=>cases r;rfl
 | bl _=>cases r;rfl
 | int _=>obtain⟨t,rfl⟩:=r;rfl
 | str _=>obtain⟨t,rfl⟩:=r;rfl
 | byt _=>obtain⟨t,rfl⟩:=r;rfl
 | flt _=>obtain⟨t,rfl⟩:=r;rfl
 | ref _=>cases r;rfl
 | ty _=>cases r;rfl
theorem gK.inj (r:gK x u) (q:gK y u):x=y:=cO (r.abs.symm.trans q.abs)
theorem fY.inj:∀{xs ys:List V} {us:List Value},fY xs us→fY ys us→xs=ys
 | _,_,_,.nil,.nil=>rfl
 | _,_,_,.cons r t,.cons r' t'=>by rw[r.inj r',fY.inj t t']
section
variable {X:Cx} {pins:List (aQ×Obj)} {σ:St} {H:Hp} {s:aV} {a:aQ} {xs ys:List V}
theorem gX.of {K:aB} (h:H a=some (.lst xs)):gX K H a xs:=.inl (.inl h)
theorem dH.list (I:dH X pins σ H s) (h:gX X.K H a xs):∃eG:List Value,fY xs eG∧PlainL s.heap a eG.toArray∧xs.length≤aU:=by
 rcases h with h | ⟨o,eG,n,hk,hc,hd,hs,hz,r⟩
 ·obtain⟨z,eG,n,r,e⟩:=h.ok I.hok;exact⟨eG,r,⟨_,n,e,rfl,rfl,rfl⟩,z⟩
 ·refine⟨eG.toList,r,⟨o,n,I.kIn a o hk,hc,hd,by simpa using hs⟩,?_⟩;have e:=r.length;simp only[jB]at e;omega
theorem dH.tuple (I:dH X pins σ H s) (h:fE X.K H a xs):∃eG:List Value,fY xs eG∧Pe s.heap a eG.toArray∧xs.length≤aU:=by
 rcases h with h | ⟨o,eG,n,hk,hc,hs,hz,r⟩
 ·obtain⟨z,eG,r,p⟩:=h.ok I.hok;exact⟨eG,r,p.is,z⟩
 ·refine⟨eG.toList,r,⟨o,I.kIn a o hk,hc.1,n,by simpa using hs⟩,?_⟩;have e:=r.length;simp only[jB]at e;omega
theorem dH.list_inj (I:dH X pins σ H s) (h:gX X.K H a xs) (h':gX X.K H a ys):xs=ys:=by
 obtain⟨eG,r,⟨o,n,e,_,_,d⟩,_⟩:=I.list h;obtain⟨its',r',⟨o',n',e',_,_,d'⟩,_⟩:=I.list h';rw[e]at e';cases e';rw[d]at d';injection d' with d1 _;have:eG=its':=by simpa using congrArg KR d1
 subst this;exact r.inj r'
theorem dH.tuple_inj (I:dH X pins σ H s) (h:fE X.K H a xs) (h':fE X.K H a ys):xs=ys:=by
 obtain⟨eG,r,⟨o,e,_,n,d⟩,_⟩:=I.tuple h;obtain⟨its',r',⟨o',e',_,n',d'⟩,_⟩:=I.tuple h';rw[e]at e';cases e';rw[d]at d';injection d' with d1 _;have:eG=its':=by simpa using congrArg KR d1
 subst this;exact r.inj r'
end
abbrev Cx.wish (X:Cx) (E:Value→aV→Prop):Cx:={X with xe:=E}
abbrev Cx.nox (X:Cx):Cx:=X.wish fun _ _=>False
theorem Cx.Ok.wish {X:Cx} (ok:X.Ok) (E:Value→aV→Prop):(X.wish E).Ok:=⟨ok.mod,ok.kind,ok.glob,ok.blt,ok.above,ok.inj,ok.has,ok.cab,ok.hd,ok.frames,ok.stk,ok.exf,ok.bs,ok.bsz,ok.noex,ok.exfs,ok.funs,ok.frf⟩
theorem Cx.Ok.unwish {X:Cx} {E:Value→aV→Prop} (ok:(X.wish E).Ok):X.Ok:=⟨ok.mod,ok.kind,ok.glob,ok.blt,ok.above,ok.inj,ok.has,ok.cab,ok.hd,ok.frames,ok.stk,ok.exf,ok.bs,ok.bsz,ok.noex,ok.exfs,ok.funs,ok.frf⟩
section
variable {X:Cx} {pins:List (aQ×Obj)} {σ:St} {H:Hp} {s:aV} {E:Value→aV→Prop}
theorem dH.wish (I:dH X pins σ H s) (E:Value→aV→Prop):dH (X.wish E) pins σ H s:=⟨I.ok.wish E,I.os,I.bare,I.base,I.loc,I.cell,I.free,I.freeC,I.pin,I.hok,I.len⟩
theorem dH.unwish (I:dH (X.wish E) pins σ H s):dH X pins σ H s:=⟨I.ok.unwish,I.os,I.bare,I.base,I.loc,I.cell,I.free,I.freeC,I.pin,I.hok,I.len⟩
theorem SP.unwish (h:SP (X.wish E) pins D f s'):SP X pins D f s':=by
 cases f with
 | next=>obtain⟨σ',H',I,q⟩:=h;exact⟨σ',H',I.unwish,q⟩
 | brk=>obtain⟨σ',H',I,q⟩:=h;exact⟨σ',H',I.unwish,q⟩
 | cont=>obtain⟨σ',H',I,q⟩:=h;exact⟨σ',H',I.unwish,q⟩
 | ret u=>obtain⟨v,σ',H',I,r,q⟩:=h;exact⟨v,σ',H',I.unwish,r,q⟩
end
section
variable {X:Cx} {st:yL} {rest:List yL} {t u:TS} {e:Expr} {te:TE} {pos:Pos}
def Zy:TS:=fun D σ H=>D.nx σ H
def F9 (t u:TS):TS:=fun D σ H=>t {D with nx:=u D} σ H
theorem cY:Pp X [] Zy:=fun _ _ σ H _ I h=>tN ⟨σ,H,I,h⟩
theorem aI (h1:PS X st t) (h2:Pp X rest u):Pp X (st::rest) (F9 t u):=by
 intro pins s σ H D I h;refine wN (kT (h1 pins s σ H {D with nx:=u D} I h) fun f s1 q=>?_);cases f with
 | next=>obtain⟨σ',H',I',q⟩:=q;exact h2 pins s1 σ' H' D I' q
 | ret v=>exact q
 | brk=>exact q
 | cont=>exact q
theorem aN (h1:PS X st t):Pp X [st] t:=by
 intro pins s σ H D I h;refine wN (kT (h1 pins s σ H D I h) fun f s1 q=>?_);cases f with
 | next=>exact tN q
 | ret v=>exact q
 | brk=>exact q
 | cont=>exact q
theorem dH.quiet (I:dH X pins σ H s):interactive X.env=false:=by simp[interactive,I.ok.kind]
def Zw (te:TE):TS:=fun D σ H=>te σ H fun _ H1=>D.nx σ H1
theorem dN (he:PE X e te) (hs:wM e none pos.line X.env=pure false:=by rfl):PS X (.Expr e pos) (Zw te):=by intro pins s σ H D I h;exact wpAny_Expr_any (kT (he pins s σ H _ I h) fun v s1 ⟨x,H1,I1,r1,q1⟩=>⟨σ,H1,I1,q1⟩) I.quiet hs
def F8 (te:TE):TS:=fun D σ H=>te σ H D.rt
theorem bG (he:PE X e te):PS X (.Return (some e) pos) (F8 te):=by intro pins s σ H D I h;exact wpAny_Return_some (kT (he pins s σ H _ I h) fun v s1 ⟨x,H1,I1,r1,q1⟩=>⟨x,σ,H1,I1,r1,q1⟩)
def F3 (c:TT) (t u:TS):TS:=fun D σ H=>c σ H fun b H1=>if b=true then t D σ H1 else u D σ H1
theorem fA (hc:PT X c tc) (ha:Pp X a t) (hb:Pp X b u):PS X (.If c a b pos) (F3 tc t u):=by
 intro pins s σ H D I h;refine wpAny_If (kT (hc pins s σ H _ I h) fun d s1 ⟨H1,I1,q1⟩=>?_);cases d with
 | true=>exact ha pins s1 σ H1 D I1 q1
 | false=>exact hb pins s1 σ H1 D I1 q1
def Xj:TS:=fun _ _ _=>False
theorem Nv:Pp X sts Xj:=fun _ _ _ _ _ _ h=>h.elim
end
abbrev TG:=V→St→Hp→(St→Hp→Prop)→Prop
abbrev Yg:=List V→St→Hp→(St→Hp→Prop)→Prop
def PG (X:Cx) (target:Expr) (t:TG):Prop:=∀(pins:List (aQ×Obj)) (s:aV) (σ:St) (H:Hp) (v:V) (u:Value) (Q:St→Hp→Prop),dH X pins σ H s→gK v u→t v σ H Q→bL (cB X.prog X.w) X.A (assign target X.env u) (fun _ s'=>∃σ' H',dH X pins σ' H' s'∧Q σ' H') X.xe s
def B4 (X:Cx) (ts:List Expr) (t:Yg):Prop:=∀(pins:List (aQ×Obj)) (s:aV) (σ:St) (H:Hp) (vs:List V) (us:List Value) (Q:St→Hp→Prop),dH X pins σ H s→fY vs us→t vs σ H Q→bL (cB X.prog X.w) X.A (assignInOrder ((OT ts X.env).map (·.2)) us) (fun _ s'=>∃σ' H',dH X pins σ' H' s'∧Q σ' H') X.xe s
abbrev C5:=V→V→Hp→VK→Prop
def G2 (X:Cx) (op:Operator) (t:C5):Prop:=∀(pins:List (aQ×Obj)) (s:aV) (σ:St) (H:Hp) (x y:V) (v u:Value) (Q:VK),dH X pins σ H s→gK x v→gK y u→t x y H Q→bL (cB X.prog X.w) X.A (inplaceOp op v u) (EP X pins σ Q) X.xe s
section
variable {X:Cx} {pos:Pos}
def QJ (i:Nat):TG:=fun v σ H Q=>Q (σ.set i (some v)) H
theorem eY (hN:X.N.Nodup) (hi:X.N[i]?=some x) (hx:Wa X.env.scope x) (hf:X.fn x=true∨X.env.scope.names.lookup x=some .local:=by first | exact .inl rfl | exact .inr rfl | assumption):PG X (.Name x pos) (QJ i):=by intro pins s σ H v u Q I r h;exact wpAny_assign_Name (DZ I hN hi hx r (fun s' I'=>⟨_,H,I',h⟩) hf)
def Yt:Yg:=fun vs σ H Q=>vs=[]∧Q σ H
def Qu (t:TG) (u:Yg):Yg:=fun vs σ H Q=>∃v r,vs=v::r∧t v σ H fun σ' H'=>u r σ' H' Q
theorem BF:B4 X [] Yt:=by intro pins s σ H vs us Q I r h;obtain⟨e,h⟩:=h;subst e;cases r;exact assignInOrder_nil ⟨σ,H,I,h⟩
theorem lC (h1:PG X e t) (h2:B4 X es u)
  (hs:(OT (e::es) X.env).map (·.2)=assign e X.env::(OT es X.env).map (·.2):=by rfl):B4 X (e::es) (Qu t u):=by
 intro pins s σ H vs us Q I r h;obtain⟨v,vr,e1,h⟩:=h;subst e1;cases r with
 | cons r rr=>rw[hs];refine assignInOrder_cons (kT (h1 pins s σ H _ _ _ I r h) fun _ s1 ⟨σ1,H1,I1,q1⟩=>?_);exact h2 pins s1 σ1 H1 _ _ Q I1 rr q1
def Yu (K:aB) (n:Nat) (t:Yg):TG:=fun v σ H Q=>∃a xs,v=.ref a∧fE K H a xs∧xs.length=n∧t xs σ H Q
theorem HS (hc:X.calm=true) (h:B4 X es t)
  (hn:(OT es X.env).length=n:=by rfl) (hst:(OT es X.env).findIdx? (·.1)=none:=by rfl):PG X (.Tuple es k pos) (Yu X.K n t):=by
 intro pins s σ H v u Q I r hw;obtain⟨a,xs,e1,hq,hl,hw⟩:=hw;subst e1;cases r;obtain⟨eG,rv,ht,hz⟩:=I.tuple hq;refine assign_Tuple_tuple (I.ok.hd hc) ht (by simp[hn,←hl,rv.length]) hst fun h' hx=>?_;have I1:dH X pins σ H {s with heap:=h'}:=I.kept (t':=s.toks) fun b o e=>hx b o (eI (bY e)) e;exact h pins _ σ H xs _ Q I1 (by simpa using rv) hw
def Zu (te:TE) (g:TG):TS:=fun D σ H=>te σ H fun x H1=>g x σ H1 D.nx
theorem cM (hN:X.N.Nodup) (hi:X.N[i]?=some x) (hx:Wa X.env.scope x) (he:PE X e te) (hs:wM e (some (.Name x pos')) pos.line X.env=pure false:=by rfl) (hf:X.fn x=true∨X.env.scope.names.lookup x=some .local:=by first | exact .inl rfl | exact .inr rfl | assumption):
  PS X (.Assign [.Name x pos'] e pos) (Zu te (QJ i)):=by
 intro pins s σ H D I h;refine UB (kT (he pins s σ H _ I h) fun v s1 ⟨y,H1,I1,r1,q1⟩=>?_) hs;exact DZ I1 hN hi hx r1 (fun s2 I2=>⟨_,H1,I2,q1⟩) hf
def F0 (i:Nat) (te:TE) (ti:C5):TS:=fun D σ H=>∃x,σ[i]?=some (some x)∧te σ H fun y H1=>ti x y H1 fun z H2=>D.nx (σ.set i (some z)) H2
theorem Sa (hN:X.N.Nodup) (hi:X.N[i]?=some x) (hx:Wa X.env.scope x) (he:PE X e te) (ho:G2 X op ti) (hf:X.fn x=true∨X.env.scope.names.lookup x=some .local:=by first | exact .inl rfl | exact .inr rfl | assumption):
  PS X (.AugAssign (.Name x pos') op e pos) (F0 i te ti):=by
 intro pins s σ H D I h;obtain⟨v,e1,h⟩:=h;obtain⟨m,hn,hl⟩:=I.loc;have vis:Xw X.env.scope x:=by rcases hx with k | k;exact .inl k;exact .inr (.inl k)
 obtain⟨u,r,l⟩:=hl i x v hi e1 vis;refine wpAny_AugAssign_Name ?_;have go:bL (cB X.prog X.w) X.A (gZ e X.env) (fun w s₂=>bL (cB X.prog X.w) X.A (inplaceOp op u w) (fun r s₃=>bL (cB X.prog X.w) X.A (storeName X.env x r) (fun _=>SP X pins D .next) X.xe s₃) X.xe s₂) X.xe s:=by refine kT (he pins s σ H _ I h) fun w s1 ⟨y,H1,I1,r1,q1⟩=>?_;refine kT (ho pins s1 σ H1 v y u w _ I1 r r1 q1) fun z s2 ⟨zv,H2,I2,r2,q2⟩=>?_;exact DZ I2 hN hi hx r2 (fun s3 I3=>⟨_,H2,I3,q2⟩) hf
 rcases l with⟨hk,hm⟩ | ⟨hk,c,hc,hcell⟩
 ·exact wpAny_loadName_local I.ok.kind hk hn hm go
 ·rcases hk with hk | hk
  ·exact wpAny_loadName_cell I.ok.kind hk hc hcell go
  ·rcases hx with k | k
   ·have:X.env.scope.names.lookup x=some .free:=hk;rw[k]at this;cases this
   ·have:X.env.scope.names.lookup x=some .free:=hk;rw[k]at this;cases this
def G8 (f:Int→Int→Int):C5:=fun x y H Q=>∃i j,x=.int i∧y=.int j∧Q (.int (f i j)) H
theorem Qy:G2 X .Add (G8 fun i j=>i+j):=by intro pins s σ H x y v u Q I r1 r2 h;obtain⟨i,j,e1,e2,q⟩:=h;subst e1;subst e2;obtain⟨t,rfl⟩:=r1;obtain⟨t',rfl⟩:=r2;exact iadd_int ⟨.int _,H,I.tok _,⟨_,rfl⟩,q⟩
end
section
variable {X:Cx} {pos:Pos}
def Xk (c:TT) (tb:TS):TS:=fun D σ H=>∃W:Nat→St→Hp→Prop,(∃m,W m σ H)∧∀m σ H,W m σ H→c σ H fun b H1=>if b=true then ∃N:St→Hp→Prop,(∀σ' H',N σ' H'→∃m',m' < m∧W m' σ' H')∧tb {D with nx:=N,ct:=N,bk:=D.nx} σ H1 else D.nx σ H1
theorem zV (hp:PassesOwn (cB X.prog X.w) X.A X.env X.xe) (hc:PT X c tc) (hb:Pp X body tb):PS X (.While c body [] pos) (Xk tc tb):=by
 intro pins s σ H D I h;obtain⟨W,⟨m0,w0⟩,turn⟩:=h;refine wpAny_While (codeAny_whileLoop (fun n s'=>∃σ' H',dH X pins σ' H' s'∧W n σ' H') ?_ m0 ⟨σ,H,I,w0⟩);rintro n s1 ⟨σ1,H1,I1,w1⟩;refine pQ hp (kT (hc pins s1 σ1 H1 _ I1 (turn n σ1 H1 w1)) fun b s2 ⟨H2,I2,q2⟩=>?_);cases b with
 | true=>
  obtain⟨N,hN,q2⟩:=q2;rw[if_pos rfl];refine pQ hp (kT (hb pins s2 σ1 H2 _ I2 q2) fun f s3 q3=>?_);cases f with
  | next=>obtain⟨σ3,H3,I3,n3⟩:=q3;obtain⟨m',hm,w3⟩:=hN σ3 H3 n3;exact⟨m',hm,σ3,H3,I3,w3⟩
  | cont=>obtain⟨σ3,H3,I3,n3⟩:=q3;obtain⟨m',hm,w3⟩:=hN σ3 H3 n3;exact⟨m',hm,σ3,H3,I3,w3⟩
  | brk=>exact q3
  | ret v=>exact q3
 | false=>rw[if_neg cH];exact tN ⟨σ1,H2,I2,q2⟩
end
structure It where
 go:Nat→Hp→Prop
 yld:Nat→Hp→V→Hp→Prop
 stop:Nat→Hp→Prop
def DA (X:Cx) (pins:List (aQ×Obj)) (H:Hp) (b:aQ):Prop:=H b=none∧b≠X.env.locals∧b∉X.fs∧(b∈X.ex∨X.s_0.heap.objs.size≤b)∧(∀x c,X.env.cells.lookup x=some c→c≠b)∧∀p∈X.pn++pins,p.1≠b
theorem dH.fpOk (I:dH X pins σ H s) (hb:s.heap.objs.size≤b) (hn:H' b=none):DA X pins H' b:=by
 refine⟨hn,CO (bZ I.lt hb),I.nofs hb,.inr (bI I.sz hb),fun x c e z=>?_,fun p hp z=>?_⟩
 ·obtain⟨v,q⟩:=I.cell x c e;exact absurd (bZ q.lt (by rw[z];exact hb)) (fN _)
 ·exact absurd (bZ (bY (I.pin p hp).1) (by rw[z];exact hb)) (fN _)
structure UK (P:dF) (w:eV) (K:aB) (tg:Expr) (J:It) (fp:List aQ) (it:aQ) (tn:Nat→gC→Prop):Prop where
 mem:it∈fp
 obj:∀i h,tn i h→∀b∈fp,∃o,h.get? b=some o∧∀v,o.data≠.cell v
 keep:∀i h h',tn i h→(∀b∈fp,∀o,h.get? b=some o→h'.get? b=some o)→tn i h'
 item:∀(X:Cx),X.prog=P→X.w=w→X.K=K→X.calm=true→∀(i:Nat) (pins:List (aQ×Obj)) (s:aV) (σ:St) (H:Hp) (E:Value→aV→Prop),dH X pins σ H s→(∀b∈fp,DA X pins H b)→tn i s.heap→J.go i H→
  bL (cB P w) X.A (CU (.ref it)) (fun r s1=>∃u,r=some u∧
   bL (cB P w) X.A (IE tg (.ref it) u) (fun _ s2=>∃x H',dH X pins σ H' s2∧gK x u∧J.yld i H x H'∧tn (i+1) s2.heap∧∀b∈fp,H' b=none) E s1) E s
 done:∀(X:Cx),X.prog=P→X.w=w→X.K=K→X.calm=true→∀(i:Nat) (pins:List (aQ×Obj)) (s:aV) (σ:St) (H:Hp) (E:Value→aV→Prop),dH X pins σ H s→(∀b∈fp,DA X pins H b)→tn i s.heap→J.stop i H→
  bL (cB P w) X.A (CU (.ref it)) (fun r s1=>r=none∧dH X pins σ H s1) E s
 self:∀(A:jT) (i:Nat) (s:aV) (Q:Value→aV→Prop) (E:Value→aV→Prop),tn i s.heap→Q (.ref it) s→bL (cB P w) A (pyIter (.ref it)) Q E s
abbrev TI:=St→Hp→(It→Hp→Prop)→Prop
def C4 (X:Cx) (pins:List (aQ×Obj)) (σ:St) (tg:Expr) (R:It→Hp→Prop) (itv:Value) (s2:aV):Prop:=∃(it:aQ) (fp:List aQ) (tn:Nat→gC→Prop) (J:It) (H':Hp),itv=.ref it∧dH X pins σ H' s2∧UK X.prog X.w X.K tg J fp it tn∧tn 0 s2.heap∧(∀b∈fp,DA X pins H' b)∧R J H'
def PI (X:Cx) (tg iter:Expr) (wi:TI):Prop:=∀(pins:List (aQ×Obj)) (s:aV) (σ:St) (H:Hp) (R:It→Hp→Prop),dH X pins σ H s→wi σ H R→bL (cB X.prog X.w) X.A (gZ iter X.env) (fun v s1=>bL (cB X.prog X.w) X.A (pyIter v) (C4 X pins σ tg R) X.xe s1) X.xe s
theorem WL (ho:s.heap.get? it=some o) (hc:o.cls=.type n) (hd:o.data=.fields vs)
  (hn:["enumerate","zip","dict_itemiterator","dict_reverseitemiterator","odict_iterator","itertools.zip_longest","itertools.pairwise"].contains n=false) (hQ:Q () s):bL M A (IE tg (.ref it) u) Q E s:=by
 unfold IE
 cases tg<;>first
  | exact bH hQ
  | (cases u<;>first
      | exact bH hQ
      | (refine aH (wpAny_load ho ?_)
         rw[hc,hd]
         show bL M A (if (["enumerate","zip","dict_itemiterator","dict_reverseitemiterator","odict_iterator","itertools.zip_longest","itertools.pairwise"].contains n && vs[0]? == some (YF _))=true then _ else _) Q E s
         rw[if_neg (by intro h;rw[hn,Bool.false_and]at h;cases h)]
         exact bH hQ))
def Vp (K:aB) (a:aQ):It:=⟨fun i H=>∃xs x,gX K H a xs∧xs[i]?=some x,fun i H x H'=>H'=H∧∀xs,gX K H a xs→xs[i]?=some x,fun i H=>∃xs,gX K H a xs∧xs.length≤i⟩
def Pw (K:aB) (a:aQ):It:=⟨fun i H=>∃xs x,fE K H a xs∧xs[i]?=some x,fun i H x H'=>H'=H∧∀xs,fE K H a xs→xs[i]?=some x,fun i H=>∃xs,fE K H a xs∧xs.length≤i⟩
def Xq (lo:Int) (n:Nat):It:=⟨fun i _=>i < n,fun i H x H'=>H'=H∧x=.int (lo+i),fun i _=>n≤i⟩
theorem Os {P:dF} {w:eV} {K:aB} {tg:Expr} (a it:aQ):UK P w K tg (Vp K a) [it] it (fun i h=>h.IsListIter it a i) where
 mem:=by simp
 obj:=fun i h st b hb=>by
  have e:b=it:=by simpa using hb
  subst e;obtain⟨o,e,c,d⟩:=st;exact⟨o,e,fun v z=>by rw[d]at z;cases z⟩
 keep:=fun i h h' st k=>st.at fun o e=>k it (by simp) o e
 item:=by intro X hP hw hK hc i pins s σ H E I hf st hg;subst hP hw hK;obtain⟨xs,x,hq,hx⟩:=hg;obtain⟨eG,rv,p,hz⟩:=I.list hq;obtain⟨u,hu,ru⟩:=rv.get hx;obtain⟨f0,f1,f2,f3,f4,f5⟩:=hf it (by simp);refine wpAny_pyNext_list_item st p.isList (x:=u) (by simpa using hu) fun h' st' sb=>?_;have I1:dH X pins σ H {s with heap:=h'}:=I.turned (t':=s.toks) (fun b o hb e=>(sb.2 b hb).trans e) f0 f1 f3 f4 f5;obtain⟨o,e,c,d⟩:=id st';exact⟨u,rfl,WL (s:={s with heap:=h'}) e c d (by decide) ⟨x,H,I1,ru,⟨rfl,fun ys hy=>by rw[I.list_inj hy hq];exact hx⟩,st',fun b hb=>(hf b hb).1⟩⟩
 done:=by intro X hP hw hK hc i pins s σ H E I hf st hg;subst hP hw hK;obtain⟨xs,hq,hx⟩:=hg;obtain⟨eG,rv,p,hz⟩:=I.list hq;obtain⟨f0,f1,f2,f3,f4,f5⟩:=hf it (by simp);have hl:=rv.length;exact wpAny_pyNext_list_end (I.ok.hd hc) st p.isList (by simp;omega) fun h' eb=>⟨rfl,I.turned (t':=s.toks) (fun b o hb e=>eb b o hb e) f0 f1 f3 f4 f5⟩
 self:=fun _ _ _ _ _ st h=>wpAny_pyIter_listiter st h
theorem Je {P:dF} {w:eV} {K:aB} {tg:Expr} (a it:aQ):UK P w K tg (Pw K a) [it] it (fun i h=>h.IsTupleIter it a i) where
 mem:=by simp
 obj:=fun i h st b hb=>by
  have e:b=it:=by simpa using hb
  subst e;obtain⟨o,e,c,d⟩:=st;exact⟨o,e,fun v z=>by rw[d]at z;cases z⟩
 keep:=fun i h h' st k=>st.at fun o e=>k it (by simp) o e
 item:=by intro X hP hw hK hc i pins s σ H E I hf st hg;subst hP hw hK;obtain⟨xs,x,hq,hx⟩:=hg;obtain⟨eG,rv,p,hz⟩:=I.tuple hq;obtain⟨u,hu,ru⟩:=rv.get hx;obtain⟨f0,f1,f2,f3,f4,f5⟩:=hf it (by simp);refine wpAny_pyNext_tuple_item st (show s.heap.IsTuple a eG.toArray from p) (x:=u) (by simpa using hu) fun h' st' sb=>?_;have I1:dH X pins σ H {s with heap:=h'}:=I.turned (t':=s.toks) (fun b o hb e=>(sb.2 b hb).trans e) f0 f1 f3 f4 f5;obtain⟨o,e,c,d⟩:=id st';exact⟨u,rfl,WL (s:={s with heap:=h'}) e c d (by decide) ⟨x,H,I1,ru,⟨rfl,fun ys hy=>by rw[I.tuple_inj hy hq];exact hx⟩,st',fun b hb=>(hf b hb).1⟩⟩
 done:=by intro X hP hw hK hc i pins s σ H E I hf st hg;subst hP hw hK;obtain⟨xs,hq,hx⟩:=hg;obtain⟨eG,rv,p,hz⟩:=I.tuple hq;obtain⟨f0,f1,f2,f3,f4,f5⟩:=hf it (by simp);have hl:=rv.length;exact wpAny_pyNext_tuple_end (I.ok.hd hc) st (show s.heap.IsTuple a eG.toArray from p) (by simp;omega) fun h' eb=>⟨rfl,I.turned (t':=s.toks) (fun b o hb e=>eb b o hb e) f0 f1 f3 f4 f5⟩
 self:=fun _ _ _ _ _ st h=>wpAny_pyIter_tupleiter st h
theorem Jd {P:dF} {w:eV} {K:aB} {tg:Expr} (it:aQ) (lo:Int) (n:Nat):UK P w K tg (Xq lo n) [it] it (fun i h=>Bl h it (lo+(i:Nat) * 1) ((n:Int) - (i:Nat)) 1) where
 mem:=by simp
 obj:=fun i h st b hb=>by
  have e:b=it:=by simpa using hb
  subst e;exact⟨_,st,fun v z=>by have z':Data.fields _=Data.cell v:=z;cases z'⟩
 keep:=fun i h h' st k=>k it (by simp) _ st
 item:=by intro X hP hw hK hc i pins s σ H E I hf st hg;subst hP hw hK;obtain⟨f0,f1,f2,f3,f4,f5⟩:=hf it (by simp);have W:=Walks.range (prog:=X.prog) (w:=X.w) (I.ok.hd hc) it lo 1 n;refine W.item i s _ _ hg st fun v h' tk hv st' kk=>?_;obtain⟨t,rfl⟩:=hv;have I1:dH X pins σ H {s with heap:=h',toks:=tk}:=I.turned (fun b o hb e=>kk b o (by simpa using hb) e) f0 f1 f3 f4 f5;refine⟨_,rfl,WL (s:={s with heap:=h',toks:=tk}) (n:="range_iterator") st' rfl rfl (by decide) ⟨.int (lo+i),H,I1,⟨t,?_⟩,⟨rfl,rfl⟩,st',fun b hb=>(hf b hb).1⟩⟩;rw[Int.mul_one]
 done:=by intro X hP hw hK hc i pins s σ H E I hf st hg;subst hP hw hK;obtain⟨f0,f1,f2,f3,f4,f5⟩:=hf it (by simp);exact wpAny_pyNext_range_end (I.ok.hd hc) st (by have:n≤i:=hg;omega) fun h' eb=>⟨rfl,I.turned (t':=s.toks) (fun b o hb e=>eb b o hb e) f0 f1 f3 f4 f5⟩
 self:=fun _ _ _ _ _ st h=>wpAny_pyIter_rangeiter st h
section
variable {X:Cx} {tg:Expr}
def Yw (K:aB) (tl:TE):TI:=fun σ H R=>tl σ H fun x H1=>∃a,x=.ref a∧(∃xs,gX K H1 a xs)∧R (Vp K a) H1
def D2 (K:aB) (tl:TE):TI:=fun σ H R=>tl σ H fun x H1=>∃a,x=.ref a∧(∃xs,fE K H1 a xs)∧R (Pw K a) H1
theorem OK {l:Expr} {tl:TE} (hl:PE X l tl):PI X tg l (Yw X.K tl):=by
 intro pins s σ H R I h;refine kT (hl pins s σ H _ I h) fun v s1 ⟨x,H1,I1,r1,q1⟩=>?_;obtain⟨a,e,⟨xs,hq⟩,q⟩:=q1;subst e;cases r1;obtain⟨eG,rv,p,hz⟩:=I1.list hq;refine UC p.isList ?_;refine⟨s1.heap.objs.size,[s1.heap.objs.size],_,_,H1,rfl,I1.kept (t':=s1.toks) fun b o e=>aF _ e,Os a _,⟨_,bQ _ rfl,rfl,rfl⟩,fun b hb=>?_,q⟩;have e:b=s1.heap.objs.size:=by simpa using hb
 subst e;exact I1.fpOk (aR _) (I1.hok.fresh (aR _))
theorem BG {l:Expr} {tl:TE} (hl:PE X l tl):PI X tg l (D2 X.K tl):=by
 intro pins s σ H R I h;refine kT (hl pins s σ H _ I h) fun v s1 ⟨x,H1,I1,r1,q1⟩=>?_;obtain⟨a,e,⟨xs,hq⟩,q⟩:=q1;subst e;cases r1;obtain⟨eG,rv,p,hz⟩:=I1.tuple hq;refine oZ (show s1.heap.IsTuple a eG.toArray from p) ?_;refine⟨s1.heap.objs.size,[s1.heap.objs.size],_,_,H1,rfl,I1.kept (t':=s1.toks) fun b o e=>aF _ e,Je a _,⟨_,bQ _ rfl,rfl,rfl⟩,fun b hb=>?_,q⟩;have e:b=s1.heap.objs.size:=by simpa using hb
 subst e;exact I1.fpOk (aR _) (I1.hok.fresh (aR _))
theorem Sc {pins:List (aQ×Obj)} {σ:St} {H:Hp} {s:aV} {R:It→Hp→Prop} {E:Value→aV→Prop} {lo hi:Int} {t u v:Tok} {tk:Nat} (I:dH X pins σ H s) (h1: -(2 ^ 62)≤lo) (h2:lo < 2 ^ 62) (h3: -(2 ^ 62)≤hi) (h4:hi < 2 ^ 62)
  (q:R (Xq lo (hi - lo).toNat) H):bL (cB X.prog X.w) X.A (pyIter (.ref s.heap.objs.size)) (C4 X pins σ tg R) E {s with heap:=s.heap.push {cls:=.type "range",data:=.fields #[.int lo t,.int hi u,.int 1 v]},toks:=tk}:=by
 refine wpAny_pyIter_range (IsRange.new ..) (small_one h1 h2 h3 h4) ?_;have I1:dH X pins σ H {s with heap:=s.heap.push {cls:=.type "range",data:=.fields #[.int lo t,.int hi u,.int 1 v]},toks:=tk}:=I.kept fun b o e=>aF _ e;refine⟨(s.heap.push {cls:=.type "range",data:=.fields #[.int lo t,.int hi u,.int 1 v]}).objs.size,[(s.heap.push {cls:=.type "range",data:=.fields #[.int lo t,.int hi u,.int 1 v]}).objs.size],_,_,H,rfl,I1.kept (t':=tk) fun b o e=>aF _ e,Jd _ lo (hi - lo).toNat,?_,fun b hb=>?_,q⟩
 ·have e1:lo+((0:Nat):Int) * 1=lo:=by simp
  have e2:(((hi - lo).toNat:Nat):Int) - ((0:Nat):Int)=wL lo hi 1:=by rw[rangeSize_one];split<;>omega
  show Bl _ _ (lo+((0:Nat):Int) * 1) ((((hi - lo).toNat:Nat):Int) - ((0:Nat):Int)) 1;rw[e1,e2];exact bQ _ rfl
 ·have e:b=(s.heap.push {cls:=.type "range",data:=.fields #[.int lo t,.int hi u,.int 1 v]}).objs.size:=by simpa using hb
  subst e;exact I1.fpOk (aR _) (I1.hok.fresh (aR _))
def Yx (ta:TA):TI:=fun σ H R=>ta σ H fun vs H1=>∃j:Int,vs=[.int j]∧ -(2 ^ 62)≤j∧j < 2 ^ 62∧R (Xq 0 j.toNat) H1
theorem Nu {a:Expr} {ta:TA} {p pos:Pos} (hg:Gl X "range") (hm:X.mg "range"=none) (ha:PA X [a] ta) (hs:bO [a] X.env=[(false,gZ a X.env)]:=by rfl):PI X tg (.Call (.Name "range" p) [a] [] pos) (Yx ta):=by
 intro pins s σ H R I h;refine Pd (tY I hg hm boot_range (fR (kT (ha pos pins s σ H _ I h) fun us s1 ⟨vs,H1,I1,r1,q1⟩=>?_) hs rfl));obtain⟨j,e,q1,q2,q⟩:=q1;subst e;cases r1 with
 | cons r rr=>cases rr;obtain⟨t,rfl⟩:=r;exact call_range_1 (Sc I1 (by omega) (by omega) q1 q2 (by simpa using q))
def F2 (wi:TI) (g:TG) (tb:TS):TS:=fun D σ H=>wi σ H fun J H1=>∃W:Nat→Nat→St→Hp→Prop,(∃m,W 0 m σ H1)∧∀i m σ H,W i m σ H→(J.stop i H∧D.nx σ H)∨(J.go i H∧∃N:St→Hp→Prop,(∀σ' H',N σ' H'→∃m',m' < m∧W (i+1) m' σ' H')∧∀x H',J.yld i H x H'→g x σ H' fun σ2 H2=>tb {D with nx:=N,ct:=N,bk:=D.nx} σ2 H2)
def SF (fp:List aQ) (h:gC):List (aQ×Obj):=fp.filterMap fun b=>(h.get? b).map fun o=>(b,o)
theorem rJ (hb:b∈fp) (e:h.get? b=some o):(b,o)∈SF fp h:=KO.mpr ⟨b,hb,by rw[e];rfl⟩
theorem Nm (hp:p∈SF fp h):p.1∈fp∧h.get? p.1=some p.2:=by
 obtain⟨b,hb,e⟩:=KO.mp hp;cases q:h.get? b with
 | none=>rw[q]at e;cases e
 | some o=>rw[q]at e;have e':(b,o)=p:=cO e;subst e';exact⟨hb,q⟩
theorem dH.pinned (I:dH X pins σ H s) (hf:∀b∈fp,DA X pins H b) (ho:∀b∈fp,∃o,s.heap.get? b=some o∧∀v,o.data≠.cell v):dH X (pins++SF fp s.heap) σ H s:=I.pins_of fun p hp=>(eE.mp hp).elim (fun z=>I.pin p (cS _ z)) fun z=>by obtain⟨hb,e⟩:=Nm z;obtain⟨f0,f1,f2,_⟩:=hf p.1 hb;obtain⟨o,e',d⟩:=ho p.1 hb;rw[e]at e';cases e';exact⟨e,f0,f1,f2,d⟩
theorem dH.unpinned (I:dH X (pins++pl) σ H s):dH X pins σ H s:=I.pins_of fun p hp=>I.pin p (cS _ (Jl _ hp))
theorem pI (hp:PassesOwn (cB X.prog X.w) X.A X.env X.xe) (hc:X.calm=true) (hi:PI X tg iter wi) (hg:PG X tg g) (hb:Pp X body tb)
  (hs:∀x,CM iter X.env x=pure x:=by intro _;rfl):PS X (.For tg iter body [] pos) (F2 wi g tb):=by
 intro pins s σ H D I h;refine wpAny_For (kT (hi pins s σ H _ I h) fun v s1 h1=>kT h1 fun itv s2 h2=>?_) hs;obtain⟨it,fp,tn,J,H2,e,I2,T,st2,f2,W,⟨m0,w0⟩,turn⟩:=h2;subst e;have stat:∀{H':Hp},(∀b∈fp,H' b=none)→∀b∈fp,DA X pins H' b:=fun hn b hb=>⟨hn b hb,(f2 b hb).2⟩;refine codeAny_forLoop_any (fun n s'=>∃i σ' H',dH X pins σ' H' s'∧tn i s'.heap∧(∀b∈fp,H' b=none)∧W i n σ' H') ?_ m0 ⟨0,σ,H2,I2,st2,fun b hb=>(f2 b hb).1,w0⟩;rintro n s3 ⟨i,σ3,H3,I3,st3,fr3,w3⟩;rcases turn i n σ3 H3 w3 with⟨stop,qn⟩ | ⟨go,N,hN,step⟩
 ·refine pQ hp (kT (T.done X rfl rfl rfl hc i pins s3 σ3 H3 X.xe I3 (stat fr3) st3 stop) fun r s4 ⟨hr,I4⟩=>?_);subst hr;exact tN ⟨σ3,H3,I4,qn⟩
 ·refine pQ hp (kT (T.item X rfl rfl rfl hc i pins s3 σ3 H3 X.xe I3 (stat fr3) st3 go) fun r s4 ⟨u,hr,h4⟩=>?_);subst hr;refine pQ hp (kT h4 fun _ s5 ⟨x,H5,I5,r5,y5,st5,fr5⟩=>?_);have I5':=I5.pinned (stat fr5) (T.obj _ _ st5);refine pQ hp (kT (hg _ s5 σ3 H5 x u _ I5' r5 (step x H5 y5)) fun _ s6 ⟨σ6,H6,I6,q6⟩=>?_);refine pQ hp (kT (hb _ s6 σ6 H6 _ I6 q6) fun f s7 q7=>?_);have again:∀{σ7:St} {H7:Hp},dH X (pins++SF fp s5.heap) σ7 H7 s7→N σ7 H7→∃m,m < n∧∃i σ' H',dH X pins σ' H' s7∧tn i s7.heap∧(∀b∈fp,H' b=none)∧W i m σ' H':=fun {σ7 H7} I7 n7=>by obtain⟨m',hm,w7⟩:=hN σ7 H7 n7;refine⟨m',hm,i+1,σ7,H7,I7.unpinned,T.keep _ _ _ st5 fun b hb o e=>(I7.pin (b,o) (cS _ (cS _ (rJ hb e)))).1,fun b hb=>?_,w7⟩;obtain⟨o,e,d⟩:=T.obj _ _ st5 b hb;exact(I7.pin (b,o) (cS _ (cS _ (rJ hb e)))).2.1
  cases f with
  | next=>obtain⟨σ7,H7,I7,n7⟩:=q7;exact again I7 n7
  | cont=>obtain⟨σ7,H7,I7,n7⟩:=q7;exact again I7 n7
  | brk=>obtain⟨σ7,H7,I7,q7⟩:=q7;exact⟨σ7,H7,I7.unpinned,q7⟩
  | ret v=>obtain⟨x7,σ7,H7,I7,r7,q7⟩:=q7;exact⟨x7,σ7,H7,I7.unpinned,r7,q7⟩
end
theorem QH {K:aB} {a:aQ} {xs:List V} {g:TG} {tb:TS} {D:HC} {σ:St} {H:Hp} (Pv:Nat→St→Hp→Prop) (h0:Pv 0 σ H) (hl:∀i σ H,i≤xs.length→Pv i σ H→gX K H a xs)
  (hs:∀i x σ H,xs[i]?=some x→Pv i σ H→g x σ H fun σ2 H2=>tb {D with nx:=Pv (i+1),ct:=Pv (i+1),bk:=D.nx} σ2 H2) (hd:∀σ H,Pv xs.length σ H→D.nx σ H):
  ∃W:Nat→Nat→St→Hp→Prop,(∃m,W 0 m σ H)∧∀i m σ H,W i m σ H→
   ((Vp K a).stop i H∧D.nx σ H)∨((Vp K a).go i H∧∃N:St→Hp→Prop,(∀σ' H',N σ' H'→∃m',m' < m∧W (i+1) m' σ' H')∧∀x H',(Vp K a).yld i H x H'→g x σ H' fun σ2 H2=>tb {D with nx:=N,ct:=N,bk:=D.nx} σ2 H2):=by
 refine⟨fun i m σ H=>m=xs.length - i∧i≤xs.length∧Pv i σ H,⟨xs.length,by simp,aY _,h0⟩,?_⟩;rintro i m σ H ⟨rfl,hi,p⟩;have q:=hl i σ H hi p;by_cases hlt:i < xs.length
 ·refine .inr ⟨⟨xs,xs[i],q,by simp[hlt]⟩,Pv (i+1),fun σ' H' p'=>⟨xs.length - (i+1),by omega,rfl,hlt,p'⟩,fun x H' y=>?_⟩;obtain⟨e,y⟩:=y;subst e;exact hs i x σ _ (y xs q) p
 ·have e:i=xs.length:=by omega
  subst e;exact .inl ⟨⟨xs,q,aR _⟩,hd σ H p⟩
theorem OD {K:aB} {a:aQ} {xs:List V} {g:TG} {tb:TS} {D:HC} {σ:St} {H:Hp} (Pv:Nat→St→Hp→Prop) (h0:Pv 0 σ H) (hl:∀i σ H,i≤xs.length→Pv i σ H→fE K H a xs)
  (hs:∀i x σ H,xs[i]?=some x→Pv i σ H→g x σ H fun σ2 H2=>tb {D with nx:=Pv (i+1),ct:=Pv (i+1),bk:=D.nx} σ2 H2) (hd:∀σ H,Pv xs.length σ H→D.nx σ H):
  ∃W:Nat→Nat→St→Hp→Prop,(∃m,W 0 m σ H)∧∀i m σ H,W i m σ H→
   ((Pw K a).stop i H∧D.nx σ H)∨((Pw K a).go i H∧∃N:St→Hp→Prop,(∀σ' H',N σ' H'→∃m',m' < m∧W (i+1) m' σ' H')∧∀x H',(Pw K a).yld i H x H'→g x σ H' fun σ2 H2=>tb {D with nx:=N,ct:=N,bk:=D.nx} σ2 H2):=by
 refine⟨fun i m σ H=>m=xs.length - i∧i≤xs.length∧Pv i σ H,⟨xs.length,by simp,aY _,h0⟩,?_⟩;rintro i m σ H ⟨rfl,hi,p⟩;have q:=hl i σ H hi p;by_cases hlt:i < xs.length
 ·refine .inr ⟨⟨xs,xs[i],q,by simp[hlt]⟩,Pv (i+1),fun σ' H' p'=>⟨xs.length - (i+1),by omega,rfl,hlt,p'⟩,fun x H' y=>?_⟩;obtain⟨e,y⟩:=y;subst e;exact hs i x σ _ (y xs q) p
 ·have e:i=xs.length:=by omega
  subst e;exact .inl ⟨⟨xs,q,aR _⟩,hd σ H p⟩
theorem Mz {lo:Int} {n:Nat} {g:TG} {tb:TS} {D:HC} {σ:St} {H:Hp} (Pv:Nat→St→Hp→Prop) (h0:Pv 0 σ H)
  (hs:∀i σ H,i < n→Pv i σ H→g (.int (lo+i)) σ H fun σ2 H2=>tb {D with nx:=Pv (i+1),ct:=Pv (i+1),bk:=D.nx} σ2 H2) (hd:∀σ H,Pv n σ H→D.nx σ H):
  ∃W:Nat→Nat→St→Hp→Prop,(∃m,W 0 m σ H)∧∀i m σ H,W i m σ H→
   ((Xq lo n).stop i H∧D.nx σ H)∨((Xq lo n).go i H∧∃N:St→Hp→Prop,(∀σ' H',N σ' H'→∃m',m' < m∧W (i+1) m' σ' H')∧∀x H',(Xq lo n).yld i H x H'→g x σ H' fun σ2 H2=>tb {D with nx:=N,ct:=N,bk:=D.nx} σ2 H2):=by
 refine⟨fun i m σ H=>m=n - i∧i≤n∧Pv i σ H,⟨n,by simp,aY _,h0⟩,?_⟩;rintro i m σ H ⟨rfl,hi,p⟩;by_cases hlt:i < n
 ·refine .inr ⟨hlt,Pv (i+1),fun σ' H' p'=>⟨n - (i+1),by omega,rfl,hlt,p'⟩,fun x H' y=>?_⟩;obtain⟨e,y⟩:=y;subst e y;exact hs i σ _ hlt p
 ·have e:i=n:=by omega
  subst e;exact .inl ⟨aR _,hd σ H p⟩
abbrev R2:=V→V→Hp→VK→Prop
def YK (X:Cx) (f:Value→Value→Sem Value) (r:R2):Prop:=∀(pins:List (aQ×Obj)) (s:aV) (σ:St) (H:Hp) (x y:V) (v u:Value) (Q:VK),dH X pins σ H s→gK x v→gK y u→r x y H Q→bL (cB X.prog X.w) X.A (f v u) (EP X pins σ Q) X.xe s
def C6 (X:Cx) (f:Value→Sem Value) (r:V→Hp→VK→Prop):Prop:=∀(pins:List (aQ×Obj)) (s:aV) (σ:St) (H:Hp) (x:V) (v:Value) (Q:VK),dH X pins σ H s→gK x v→r x H Q→bL (cB X.prog X.w) X.A (f v) (EP X pins σ Q) X.xe s
def CW (X:Cx) (f:Value) (r:List V→Hp→VK→Prop):Prop:=∀(pins:List (aQ×Obj)) (s:aV) (σ:St) (H:Hp) (xs:List V) (us:List Value) (Q:VK),dH X pins σ H s→fY xs us→r xs H Q→bL (cB X.prog X.w) X.A (call f us) (EP X pins σ Q) X.xe s
def Zz (r:R2) (ta tb:TE):TE:=fun σ H Q=>ta σ H fun x H1=>tb σ H1 fun y H2=>r x y H2 Q
def J5 (r:V→Hp→VK→Prop) (ta:TE):TE:=fun σ H Q=>ta σ H fun x H1=>r x H1 Q
def Vv (g:Int→Int→V):R2:=fun x y H Q=>∃i j,x=.int i∧y=.int j∧Q (g i j) H
def rU (g:Int→V):V→Hp→VK→Prop:=fun x H Q=>∃i,x=.int i∧Q (g i) H
section
variable {X:Cx} {a b c:Expr} {ta tb tc:TE} {pos:Pos}
theorem Wi (ha:PE X a ta) (hb:PE X b tb) {pins:List (aQ×Obj)} {s:aV} {σ:St} {H:Hp} {R:V→V→Hp→Prop} (I:dH X pins σ H s)
  (h:ta σ H fun x H1=>tb σ H1 fun y H2=>R x y H2) {Q:Value→aV→Prop} {f:Value→Value→Sem Value}
  (hf:∀v u s2 x y H2,dH X pins σ H2 s2→gK x v→gK y u→R x y H2→bL (cB X.prog X.w) X.A (f v u) Q X.xe s2):
  bL (cB X.prog X.w) X.A (gZ a X.env) (fun v s₁=>bL (cB X.prog X.w) X.A (gZ b X.env) (fun u s₂=>bL (cB X.prog X.w) X.A (f v u) Q X.xe s₂) X.xe s₁) X.xe s:=by
 refine kT (ha pins s σ H _ I h) fun v s1 ⟨x,H1,I1,r1,q1⟩=>?_;refine kT (hb pins s1 σ H1 _ I1 q1) fun u s2 ⟨y,H2,I2,r2,q2⟩=>?_;exact hf v u s2 x y H2 I2 r1 r2 q2
theorem jZ {op:Operator} {r:R2} (ho:YK X (FL op) r) (ha:PE X a ta) (hb:PE X b tb):PE X (.BinOp a op b pos) (Zz r ta tb):=by intro pins s σ H Q I h;exact wpAny_BinOp (Wi ha hb I h fun v u s2 x y H2 I2 rx ry q=>ho pins s2 σ H2 x y v u Q I2 rx ry q)
theorem MS (ho:C6 X (unaryOp op) r) (ha:PE X a ta):PE X (.UnaryOp op a pos) (J5 r ta):=by intro pins s σ H Q I h;exact UnaryOp_ (kT (ha pins s σ H _ I h) fun v s1 ⟨x,H1,I1,r1,q1⟩=>ho pins s1 σ H1 x v Q I1 r1 q1)
theorem Zk {f:Value→Value→Sem Value} {g:Int→Int→Int}
  (rule:∀(i j:Int) (t u:Tok) (s:aV) (Q:Value→aV→Prop) (E:Value→aV→Prop),Q (.int (g i j) s.toks) {s with toks:=s.toks+1}→bL (cB X.prog X.w) X.A (f (.int i t) (.int j u)) Q E s):
  YK X f (Vv fun i j=>.int (g i j)):=by
 intro pins s σ H x y v u Q I rx ry h;obtain⟨i,j,rfl,rfl,q⟩:=h;obtain⟨t,rfl⟩:=rx;obtain⟨t',rfl⟩:=ry;exact rule i j t t' s _ _ ⟨.int (g i j),H,I.tok _,⟨_,rfl⟩,q⟩
theorem Up {f:Value→Value→Sem Value} {g:Int→Int→Bool}
  (rule:∀(i j:Int) (t u:Tok) (s:aV) (Q:Value→aV→Prop) (E:Value→aV→Prop),Q (.bool (g i j)) s→bL (cB X.prog X.w) X.A (f (.int i t) (.int j u)) Q E s):
  YK X f (Vv fun i j=>.bl (g i j)):=by
 intro pins s σ H x y v u Q I rx ry h;obtain⟨i,j,rfl,rfl,q⟩:=h;obtain⟨t,rfl⟩:=rx;obtain⟨t',rfl⟩:=ry;exact rule i j t t' s _ _ ⟨.bl (g i j),H,I,rfl,q⟩
theorem uD:YK X (FL .Add) (Vv fun i j=>.int (i+j)):=Zk fun _ _ _ _ _ _ _ q=>add_int q
theorem Rp:YK X (FL .Sub) (Vv fun i j=>.int (i - j)):=Zk fun _ _ _ _ _ _ _ q=>sub_int q
theorem J6 {f:Value→Sem Value} {g:Int→Int}
  (rule:∀(i:Int) (t:Tok) (s:aV) (Q:Value→aV→Prop) (E:Value→aV→Prop),Q (.int (g i) s.toks) {s with toks:=s.toks+1}→bL (cB X.prog X.w) X.A (f (.int i t)) Q E s):
  C6 X f (rU fun i=>.int (g i)):=by
 intro pins s σ H x v Q I rx h;obtain⟨i,rfl,q⟩:=h;obtain⟨t,rfl⟩:=rx;exact rule i t s _ _ ⟨.int (g i),H,I.tok _,⟨_,rfl⟩,q⟩
theorem EC:C6 X (unaryOp .USub) (rU fun i=>.int (-i)):=J6 fun _ _ _ _ _ q=>neg_int q
end
def Xc:V→V→Bool
 | .non,.non=>true | .non,.int _=>true | .int _,.non=>true | .non,.bl _=>true | .bl _,.non=>true | .non,.str _=>true | .str _,.non=>true
 | .int _,.int _=>true | .bl _,.bl _=>true | .str _,.str _=>true | .byt _,.byt _=>true
 | .int _,.str _=>true | .str _,.int _=>true | .bl _,.str _=>true | .str _,.bl _=>true
 | _,_=>false
def I0:R2:=fun x y H Q=>Xc x y=true∧Q (.bl (decide (x=y))) H
def J0:R2:=fun x y H Q=>Xc x y=true∧Q (.bl (!decide (x=y))) H
theorem Kd:decide (V.int i=V.int j)=(i == j):=by rw[lV];simp
theorem Qh:decide (V.bl i=V.bl j)=(i == j):=by rw[lV];simp
theorem Ke:decide (V.str i=V.str j)=(i == j):=by rw[lV];simp
theorem Kc:decide (V.byt i=V.byt j)=(i.toList == j.toList):=by rw[lV];cases i;cases j;simp
section
variable {X:Cx} {a b c:Expr} {ta tb tc:TE} {pos:Pos}
theorem iO (I:dH X pins σ H s) (q:Q (.bl k) H) (e:k=k'):EP X pins σ Q (.bool k') s:=by subst e;exact⟨.bl k,H,I,rfl,q⟩
theorem qF:YK X (qB .Eq) I0:=by
 intro pins s σ H x y v u Q I rx ry h;obtain⟨hs,q⟩:=h;cases x with
 | non=>
  cases rx;cases y with
  | non=>cases ry;exact PySem.EqNone.eq_none_none (iO I q (by simp))
  | bl j=>cases ry;exact PySem.EqNone.eq_none_bool (iO I q (by simp))
  | int j=>obtain⟨t',rfl⟩:=ry;exact PySem.EqNone.eq_none_int (iO I q (by simp))
  | str j=>obtain⟨t',rfl⟩:=ry;exact PySem.EqNone.eq_none_str (iO I q (by simp))
  | _=>exact absurd (show false=true from hs) cH
 | bl i=>
  cases rx;cases y with
  | non=>cases ry;exact PySem.EqNone.eq_bool_none (iO I q (by simp))
  | bl j=>cases ry;exact eq_bool (iO I q Qh)
  | str j=>obtain⟨t',rfl⟩:=ry;exact PySem.EqMixed.eq_bool_str (iO I q (by simp))
  | _=>exact absurd (show false=true from hs) cH
 | int i=>
  obtain⟨t,rfl⟩:=rx;cases y with
  | non=>cases ry;exact PySem.EqNone.eq_int_none (iO I q (by simp))
  | int j=>obtain⟨t',rfl⟩:=ry;exact eq_int (iO I q Kd)
  | str j=>obtain⟨t',rfl⟩:=ry;exact PySem.EqMixed.eq_int_str (iO I q (by simp))
  | _=>exact absurd (show false=true from hs) cH
 | str i=>
  obtain⟨t,rfl⟩:=rx;cases y with
  | non=>cases ry;exact PySem.EqNone.eq_str_none (iO I q (by simp))
  | bl j=>cases ry;exact PySem.EqMixed.eq_str_bool (iO I q (by simp))
  | int j=>obtain⟨t',rfl⟩:=ry;exact PySem.EqMixed.eq_str_int (iO I q (by simp))
  | str j=>obtain⟨t',rfl⟩:=ry;exact eq_str (iO I q Ke)
  | _=>exact absurd (show false=true from hs) cH
 | byt i=>
  obtain⟨t,rfl⟩:=rx;cases y with
  | byt j=>obtain⟨t',rfl⟩:=ry;exact PySem.W.eq_bytes (iO I q Kc)
  | _=>exact absurd (show false=true from hs) cH
 | _=>cases y<;>exact absurd (show false=true from hs) cH
theorem WZ:YK X (qB .NotEq) J0:=by
 intro pins s σ H x y v u Q I rx ry h;obtain⟨hs,q⟩:=h;cases x with
 | non=>
  cases rx;cases y with
  | non=>cases ry;exact PySem.EqNone.ne_none_none (iO I q (by simp))
  | bl j=>cases ry;exact PySem.EqNone.ne_none_bool (iO I q (by simp))
  | int j=>obtain⟨t',rfl⟩:=ry;exact PySem.EqNone.ne_none_int (iO I q (by simp))
  | str j=>obtain⟨t',rfl⟩:=ry;exact PySem.EqNone.ne_none_str (iO I q (by simp))
  | _=>exact absurd (show false=true from hs) cH
 | bl i=>
  cases rx;cases y with
  | non=>cases ry;exact PySem.EqNone.ne_bool_none (iO I q (by simp))
  | bl j=>cases ry;exact ne_bool (iO I q (congrArg not Qh))
  | str j=>obtain⟨t',rfl⟩:=ry;exact PySem.EqMixed.ne_bool_str (iO I q (by simp))
  | _=>exact absurd (show false=true from hs) cH
 | int i=>
  obtain⟨t,rfl⟩:=rx;cases y with
  | non=>cases ry;exact PySem.EqNone.ne_int_none (iO I q (by simp))
  | int j=>obtain⟨t',rfl⟩:=ry;exact ne_int (iO I q (congrArg not Kd))
  | str j=>obtain⟨t',rfl⟩:=ry;exact PySem.EqMixed.ne_int_str (iO I q (by simp))
  | _=>exact absurd (show false=true from hs) cH
 | str i=>
  obtain⟨t,rfl⟩:=rx;cases y with
  | non=>cases ry;exact PySem.EqNone.ne_str_none (iO I q (by simp))
  | bl j=>cases ry;exact PySem.EqMixed.ne_str_bool (iO I q (by simp))
  | int j=>obtain⟨t',rfl⟩:=ry;exact PySem.EqMixed.ne_str_int (iO I q (by simp))
  | str j=>obtain⟨t',rfl⟩:=ry;exact ne_str (iO I q (congrArg not Ke))
  | _=>exact absurd (show false=true from hs) cH
 | byt i=>
  obtain⟨t,rfl⟩:=rx;cases y with
  | byt j=>obtain⟨t',rfl⟩:=ry;exact PySem.W.ne_bytes (iO I q (congrArg not Kc))
  | _=>exact absurd (show false=true from hs) cH
 | _=>cases y<;>exact absurd (show false=true from hs) cH
theorem MR:YK X (qB .Lt) (Vv fun i j=>.bl (decide (i < j))):=Up fun _ _ _ _ _ _ _ q=>lt_int q
theorem MQ:YK X (qB .LtE) (Vv fun i j=>.bl (decide (i≤j))):=Up fun _ _ _ _ _ _ _ q=>le_int q
theorem CD:YK X (qB .Gt) (Vv fun i j=>.bl (decide (j < i))):=Up fun _ _ _ _ _ _ _ q=>gt_int q
theorem Zl:YK X (qB .GtE) (Vv fun i j=>.bl (decide (j≤i))):=Up fun _ _ _ _ _ _ _ q=>ge_int q
theorem dJ (b:Expr) (h:op≠.In:=by decide) (h2:op≠.NotIn:=by decide):CT op b=false:=by
 have e1:(op == CmpOp.In)=false:=by cases op<;>first | rfl | exact absurd rfl h
 have e2:(op == CmpOp.NotIn)=false:=by cases op<;>first | rfl | exact absurd rfl h2
 cases b<;>simp[CT,e1,e2]
theorem qY {op:CmpOp} {r:R2} (ho:YK X (qB op) r) (ha:PE X a ta) (hb:PE X b tb) (hm:CT op b=false):PE X (.Compare a [op] [b] pos) (Zz r ta tb):=by intro pins s σ H Q I h;exact wpAny_Compare1 (Wi ha hb I h fun v u s2 x y H2 I2 rx ry q=>ho pins s2 σ H2 x y v u Q I2 rx ry q) hm
def A6 (t:TE):TT:=fun σ H Q=>t σ H fun x H'=>∃k,x=.bl k∧Q k H'
theorem dA (ho:YK X (qB op) r) (ha:PE X a ta) (hb:PE X b tb) (hm:CT op b=false):PT X (.Compare a [op] [b] pos) (A6 (Zz r ta tb)):=by intro pins s σ H Q I h;refine wpAny_isTrue_Compare1 (kT (ha pins s σ H _ I h) fun v s1 ⟨x,H1,I1,r1,q1⟩=>kT (hb pins s1 σ H1 _ I1 q1) fun u s2 ⟨y,H2,I2,r2,q2⟩=>kT (ho pins s2 σ H2 x y v u _ I2 r1 r2 q2) fun c s3 ⟨z,H3,I3,r3,k,e,q3⟩=>?_) hm;subst e;cases r3;exact nA ⟨H3,I3,q3⟩
theorem RA:(aU:Nat) < 2 ^ 63:=by rw[sizeLine_eq];decide
theorem TD (r:fY [x] us):∃u,us=[u]∧gK x u:=by
 cases r with
 | cons r1 r2=>cases r2;exact⟨_,rfl,r1⟩
theorem sW:CW X (.type "str") (fun xs H Q=>∃i,xs=[.int i]∧i.natAbs.log2 < 1920∧Q (.str (iM i)) H):=by intro pins s σ H xs us Q I r h;obtain⟨i,rfl,hz,q⟩:=h;obtain⟨u,rfl,t,rfl⟩:=TD r;exact PySem.P.str_of_int hz ⟨.str _,H,I.tok _,⟨_,rfl⟩,q⟩
theorem mK:CW X (.builtin "ord") (fun xs H Q=>∃x,xs=[.str x]∧x.length=1∧Q (.int (x.cps.getD 0 0:Nat)) H):=by intro pins s σ H xs us Q I r h;obtain⟨x,rfl,hz,q⟩:=h;obtain⟨u,rfl,t,rfl⟩:=TD r;exact ord_of_one hz ⟨.int _,H,I.tok _,⟨_,rfl⟩,q⟩
end
structure Gy (h:gC) (x dx C:aQ) (mA:Str→Option Value):Prop where
 obj:h.get? x=some (lH C dx)
 ns:h.Ns1 dx mA
 ne:dx≠x
theorem Ng {h:gC} {dx:aQ} {mA:Str→Option Value} (n:h.Ns1 dx mA):∃od,h.get? dx=some od∧∀name,CP name od=some (mA name):=by
 obtain⟨o,es,ep,ho,hd,hk,_,hm⟩:=n;refine⟨o,ho,fun name=>?_⟩;have e:=hm name;unfold nsFind findBy at e;rw[←Array.find?_toList]at e;unfold CP;rw[hd];dsimp only;split
 ·rename_i y q
  rw[q]at e;exact congrArg some e
 ·rename_i q
  rw[q]at e;have a:es.toList.any (·.refKey)=false:=by rw[List.any_eq_false];intro y hy;obtain⟨z,t,hkey⟩:=hk y (Array.mem_toList_iff.mp hy);simp[DictEntry.refKey,hkey]
  have a':¬es.toList.any (·.refKey)=true:=by rw[a];exact cH
  rw[if_neg a'];exact congrArg some e
theorem Gy.look (I:Gy h x dx C mA):∃od,PySem.W.InstAt h x (lH C dx) C (some od)∧∀name,CP name od=some (mA name):=
 let ⟨od,ho,hl⟩:=Ng I.ns
 ⟨od,⟨I.obj,rfl,rfl,ho⟩,hl⟩
section
variable {prog:dF} {w:eV} {A:jT} {E:Value→aV→Prop} {s:aV} {K:aB} {x dx C f:aQ} {mA:Str→Option Value} {name:Str} {v:Value}
theorem Tr (X:K.In s.heap) (I:Gy s.heap x dx C mA) (hg:zD K C name=true) (hh:IM K C=true)
  (ha:iA K (.ref C) name=some none) (hv:mA name=some v) (hv':Lx v=true) (h:Q v {s with toks:=s.toks+1}):
  bL (cB prog w) A (getAttr (.ref x) name expr) Q E s:=by
 obtain⟨od,J,hl⟩:=I.look;exact PySem.W.get_value X J (FJ hg).1 (PySem.W.findObj_own hh ha rfl (by rw[hl,hv])) hv' h
theorem Qv (X:K.In s.heap) (I:Gy s.heap x dx C mA) (hg:zD K C name=true)
  (hf:iA K (.ref C) name=some (some (.ref f))) (ht:AF K (.ref f)=true) (hv:mA name=none) (h:Q (.ref f,[.ref x]) s):
  bL (cB prog w) A (MC (.ref x) name pl) Q E s:=by
 obtain⟨od,J,hl⟩:=I.look;exact PySem.W.method_fn X J (FJ hg).1 (FJ hg).2 hf (beq_iff_eq.mp ht) (by show(CP name od).map (·.isSome)=some false;rw[hl,hv];rfl) h
theorem Vd (X:K.In s.heap) (I:Gy s.heap x dx C mA)
  (hs:iA K (.ref C) "__setattr__"=some (some (.builtin "object.__setattr__"))) (hp:Jv K C=true) (ht:NJ K C name=some none) (hh:IM K C=true)
  (hw:Bx mA ns) (hsz:ns.length≤aU)
  (h:∀h',Gy h' x dx C (fun y=>if y=name then some v else mA y)→xD dx s.heap h'→Q () {s with heap:=h',toks:=s.toks+2}):
  bL (cB prog w) A (setAttr (.ref x) name v) Q E s:=by
 obtain⟨od,J,hl⟩:=I.look;refine PySem.W.set_plain X J hs (PySem.W.osa_open (s:={s with toks:=s.toks+1}) (r:=none) X J hp ht fun b=>?_);obtain⟨cd,hc,hd'⟩:=PySem.W.any_some hh;have hx:s.heap.get? x=some ⟨.ref C,some dx,.plain,#[]⟩:=I.obj;refine aH (bH (aH (aH (wpAny_loadPart hx (aH (PySem.W.Looks.here (s:={s with toks:=s.toks+1}) (PySem.W.looks_clsIn X hc) ?_))))));rw[hd'];refine bH (a:=some dx) (aH (bH (aH ?_)));refine wpAny_nsSet1 (s:={s with toks:=s.toks+1}) I.ns fun h' hn2 hs2=>?_;obtain⟨oD,esD,epD,hoD,hdD,hcD⟩:=hn2.count (PySem.Within.cons name v hw);refine aH (wpAny_lookBehind hoD (by rw[hdD];exact pastItsLine_dict (bI hcD (by rw[aK];omega))) ?_);exact bH (h _ ⟨(hs2.2 _ (uM I.ne)).trans I.obj,hn2,I.ne⟩ hs2)
theorem Rh (X:K.In s.heap) (hm:NI K C=true)
  (hi:iA K (.ref C) "__init__"=some (some (.ref f))) (hf:PySem.W.typeIn K (.ref f)=some (.type "function"))
  (h:vM (cB prog w) (A.under (.builtin "type.__call__" ⟨.ref C::vs,kw⟩)) (.call (.ref f) ⟨.ref (s.heap.objs.size+1)::vs,kw⟩) (PySem.W.InitBack (s.heap.objs.size+1) R) {s with heap:=(s.heap.push iU).push (lH C s.heap.objs.size)}):
  vM (cB prog w) A (.call (.ref C) ⟨vs,kw⟩) R s:=by
 obtain⟨hh,g,d,t,os⟩:=s;exact PySem.W.make_core (PySem.W.makes_of X hm) (PySem.W.looks_findIn X hi) (fun self=>PySem.W.bind_fn X self hf) (.inl rfl) h
end
def pJ (f:Str) (v:V):List (Str×V)→List (Str×V)
 | []=>[(f,v)]
 | (g,x)::r=>if g=f then (g,v)::r else (g,x)::pJ f v r
theorem MM (f g:Str) (v:V):∀fs:List (Str×V),(pJ f v fs).lookup g=if g=f then some v else fs.lookup g
 | []=>by
  show sL g [(f,v)]=_;by_cases h:g=f
  ·  have hb:(g == f)=true:=beq_iff_eq.mpr h;simp only[sL,hb,if_pos h]
  ·  have hb:(g == f)=false:=beq_eq_false_iff_ne.mpr h;simp only[sL,hb,if_neg h]
 | (k,x)::r=>by
  have ih:=MM f g v r;rw[show pJ f v ((k,x)::r)=(if k=f then (k,v)::r else (k,x)::pJ f v r)from rfl];by_cases hk:k=f
  ·  rw[if_pos hk];by_cases h:g=k
     ·have hb:(g == k)=true:=beq_iff_eq.mpr h;simp only[sL,hb,if_pos (h.trans hk)]
     ·have hb:(g == k)=false:=beq_eq_false_iff_ne.mpr h;simp only[sL,hb,if_neg (fun e:g=f=>h (e.trans hk.symm))]
  ·  rw[if_neg hk];by_cases h:g=k
     ·have hb:(g == k)=true:=beq_iff_eq.mpr h;simp only[sL,hb,if_neg (fun e:g=f=>hk (h.symm.trans e))]
     ·have hb:(g == k)=false:=beq_eq_false_iff_ne.mpr h;simp only[sL,hb];exact ih
theorem LI (f:Str) (v:V):∀fs:List (Str×V),f∈(pJ f v fs).map (·.1)∧∀g,g∈fs.map (·.1)→g∈(pJ f v fs).map (·.1)
 | []=>⟨by simp[pJ],fun g h=>by simp at h⟩
 | (k,x)::r=>by
  obtain⟨i1,i2⟩:=LI f v r;rw[show pJ f v ((k,x)::r)=(if k=f then (k,v)::r else (k,x)::pJ f v r)from rfl];by_cases hk:k=f
  ·  rw[if_pos hk];subst hk;exact⟨by simp,fun g h=>by simpa using h⟩
  ·  rw[if_neg hk];refine⟨?_,fun g h=>?_⟩
     ·rw[aP];exact aL _ i1
     ·rw[aP]at h ⊢;rcases aT.mp h with e | e
      ·exact aT.mpr (.inl e)
      ·exact aL _ (i2 g e)
theorem MK (f:Str) (v:V):∀fs:List (Str×V),(pJ f v fs).length≤fs.length+1
 | []=>by simp[pJ]
 | (k,x)::r=>by
  have ih:=MK f v r;rw[show pJ f v ((k,x)::r)=(if k=f then (k,v)::r else (k,x)::pJ f v r)from rfl];by_cases hk:k=f
  ·  rw[if_pos hk,aK,aK];omega
  ·  rw[if_neg hk,aK,aK];omega
theorem DB.some_of (r:DB (some v) o):∃u,o=some u∧gK v u:=by
 cases o with
 | none=>exact(show False from r).elim
 | some u=>exact⟨u,rfl,r⟩
theorem DB.none_of (r:DB none o):o=none:=by
 cases o with
 | none=>rfl
 | some u=>exact(show False from r).elim
theorem Na (r:gK v u):Lx u=true:=by
 cases v with
 | non=>cases(show u=uS from r);rfl
 | bl b=>cases(show u=Lv b from r);rfl
 | int i=>obtain⟨t,e⟩:=(show ∃t,u=AE i t from r);cases e;rfl
 | str x=>obtain⟨t,e⟩:=(show ∃t,u=NG x t from r);cases e;rfl
 | byt b=>obtain⟨t,e⟩:=(show ∃t,u=Value.bytes b t from r);cases e;rfl
 | flt b=>obtain⟨t,e⟩:=(show ∃t,u=Gj b t from r);cases e;rfl
 | ref a=>cases(show u=dC a from r);rfl
 | ty n=>cases(show u=xG n from r);rfl
section
variable {P:dF} {w:eV} {H H':Hp} {h h':gC} {a C dx:aQ} {fs fs':List (Str×V)}
theorem OE (hok:CF P w H h) (e:H a=some (.ins C dx fs)):∃mA,Gy h a dx C mA∧(∀f,DB (fs.lookup f) (mA f))∧Bx mA (fs.map (·.1))∧fs.length≤1000∧H dx=some (.own a):=by obtain⟨d,z,ne,ob,mA,n,r,q⟩:=(show lB P w H h a (.ins C dx fs)from hok a _ e);exact⟨mA,⟨ob,n,ne⟩,r,q,z,d⟩
end
structure Br (K:aB) (C:aQ):Prop where
 pg:zD K C Str.empty=true
 hd:IM K C=true
 po:Jv K C=true
 sa:iA K (.ref C) "__setattr__"=some (some (.builtin "object.__setattr__"))
theorem Br.get {K:aB} {C:aQ} (c:Br K C) (f:Str):zD K C f=true:=c.pg
def nM (K:aB) (C:aQ) (f:Str):Prop:=iA K (.ref C) f=some none
theorem nM.taker {K:aB} {C:aQ} {f:Str} (n:nM K C f):NJ K C f=some none:=by unfold NJ;rw[show iA K (.ref C) f=some none from n];rfl
structure Gw (K:aB) (C:aQ) (m:Str) (f:aQ):Prop where
 at_:iA K (.ref C) m=some (some (.ref f))
 fn:AF K (.ref f)=true
 kp:gG K (.ref f)=true
section
variable {X:Cx} {pins:List (aQ×Obj)} {σ:St} {H:Hp} {s:aV} {a C dx:aQ} {fs:List (Str×V)} {f:Str} {v:V} {A:jT} {E:Value→aV→Prop}
theorem QK (I:dH X pins σ H s) (e:H a=some (.ins C dx fs)) (c:Br X.K C) (n:nM X.K C f) (l:fs.lookup f=some v)
  (h:∀u s',dH X pins σ H s'→gK v u→Q u s'):bL (cB X.prog X.w) A (getAttr (.ref a) f b) Q E s:=by
 obtain⟨mA,O,r,_,_,_⟩:=OE I.hok e;obtain⟨u,hu,ru⟩:=DB.some_of (v:=v) (o:=mA f) (by rw[←l];exact r f);exact Tr I.kIn O (c.get f) c.hd n hu (Na ru) (h u _ (I.tok _) ru)
theorem QL (I:dH X pins σ H s) (e:H a=some (.ins C dx fs)) (c:Br X.K C) (k:Gw X.K C m g) (l:fs.lookup m=none)
  (h:Q (.ref g,[.ref a]) s):bL (cB X.prog X.w) A (MC (.ref a) m pl) Q E s:=by
 obtain⟨mA,O,r,_,_,_⟩:=OE I.hok e;have hn:mA m=none:=DB.none_of (by rw[←l];exact r m);exact Qv I.kIn O (c.get m) k.at_ k.fn hn h
theorem SL (I:dH X pins σ H s) (e:H a=some (.ins C dx fs)) (c:Br X.K C) (n:nM X.K C f) (hl:fs.length < 1000) (ry:gK y u)
  (h:∀s',dH X pins σ (upd H a (.ins C dx (pJ f y fs))) s'→Q () s'):bL (cB X.prog X.w) A (setAttr (.ref a) f u) Q E s:=by
 obtain⟨mA,O,r,wi,_,ho⟩:=OE I.hok e;have hz:(fs.map (·.1)).length≤aU:=by rw[aJ,sizeLine_eq];omega
 refine Vd I.kIn O c.sa c.po n.taker c.hd wi hz fun h' O' sb=>h _ ?_;have hd:∃o,h'.get? dx=some o:=let ⟨o,_,_,e',_⟩:=O'.ns;⟨o,e'⟩;refine I.write (x:=a) (e:=dx) (by rw[e];exact oK) (.inr ho) (fun b q hb z=>(sb.2 b hb).trans z) hd ?_;refine⟨by rw[bK O.ne];exact ho,?_,O.ne,O'.obj,_,O'.ns,fun g=>?_,fun g hg=>?_⟩
 ·have:=MK f y fs;omega
 ·show DB ((pJ f y fs).lookup g) (if g=f then some u else mA g);rw[MM];by_cases q:g=f
  ·rw[if_pos q,if_pos q];exact ry
  ·rw[if_neg q,if_neg q];exact r g
 ·by_cases q:g=f
  ·rw[q];exact(LI f y fs).1
  ·refine(LI f y fs).2 g (wi g fun z=>hg ?_);show(if g=f then some u else mA g)=none;rw[if_neg q];exact z
theorem dH.made (I:dH X pins σ H s):dH X pins σ (upd (upd H s.heap.objs.size (.own (s.heap.objs.size+1))) (s.heap.objs.size+1) (.ins C s.heap.objs.size []))
  {s with heap:=(s.heap.push iU).push (lH C s.heap.objs.size)}:=by
 have e1:(s.heap.push iU).get? s.heap.objs.size=some iU:=bQ s.heap rfl;have e2:((s.heap.push iU).push (lH C s.heap.objs.size)).get? (s.heap.objs.size+1)=some (lH C s.heap.objs.size):=by
  have:=bQ (s.heap.push iU) (o:=lH C s.heap.objs.size) rfl
  rwa [cF]at this
 have e3:(s.heap.push iU).Ns s.heap.objs.size (fun _=>none):=⟨iU,#[],_,e1,rfl,(fun e he=>absurd he (by simp)),fun _=>rfl⟩;have I1:=I.laid (a:=s.heap.objs.size) (o:=.own (s.heap.objs.size+1)) (h':=s.heap.push iU) (t':=s.toks) (fun b u q=>aF _ q) (aR _) ⟨_,e1⟩;refine I1.laid (a:=s.heap.objs.size+1) (o:=.ins C s.heap.objs.size []) (t':=s.toks) (fun b u q=>aF _ q) (ND (cF _ _)) ?_;have ne:s.heap.objs.size≠s.heap.objs.size+1:=eI (lE _);refine⟨by rw[bK ne,aG],aY _,ne,e2,fun _=>none,(Heap.Ns1.of_empty e3).at fun o q=>aF _ q,fun _=>oK,fun y hy=>absurd rfl hy⟩
theorem Tl (hb:CS e f env (gZ e env)=gZ e env) (h:bL (cB prog w) A (gZ e env) (fun o s₁=>bL (cB prog w) A (getAttr o f true) Q E s₁) E s):bL (cB prog w) A (gZ (.Attribute e f pos) env) Q E s:=Attribute_any_ h (by rw[arm_eval_Attribute,hb])
end
def Vj (K:aB) (ta:TE) (f:Str):TE:=fun σ H Q=>ta σ H fun x H1=>∃a C dx fs v,x=.ref a∧H1 a=some (.ins C dx fs)∧Br K C∧nM K C f∧fs.lookup f=some v∧Q v H1
def E8 (K:aB) (ta tv:TE) (f:Str):TS:=fun D σ H=>tv σ H fun y H1=>ta σ H1 fun x H2=>∃a C dx fs,x=.ref a∧H2 a=some (.ins C dx fs)∧Br K C∧nM K C f∧fs.length < 1000∧D.nx σ (upd H2 a (.ins C dx (pJ f y fs)))
def Xz (X:Cx) (op:Operator) (rd:V→V→Hp→VK→Prop):Prop:=∀(pins:List (aQ×Obj)) (s:aV) (σ:St) (H:Hp) (x y:V) (u v:Value) (Q:VK),dH X pins σ H s→gK x u→gK y v→rd x y H Q→bL (cB X.prog X.w) X.A (inplaceOp op u v) (EP X pins σ Q) X.xe s
def Vc (K:aB) (ta tv:TE) (rd:V→V→Hp→VK→Prop) (f:Str):TS:=fun D σ H=>ta σ H fun x H1=>∃a C dx fs v,x=.ref a∧H1 a=some (.ins C dx fs)∧Br K C∧nM K C f∧fs.lookup f=some v∧tv σ H1 fun y H2=>rd v y H2 fun z H3=>∃dx' fs',H3 a=some (.ins C dx' fs')∧fs'.length < 1000∧D.nx σ (upd H3 a (.ins C dx' (pJ f z fs')))
section
variable {X:Cx} {o e value:Expr} {f:Str} {pos pos' tpos:Pos} {ta tv:TE}
theorem cJ (he:PE X e ta) (hb:CS e f X.env (gZ e X.env)=gZ e X.env):PE X (.Attribute e f pos) (Vj X.K ta f):=by intro pins s σ H Q I h;refine Tl hb (kT (he pins s σ H _ I h) fun u s1 ⟨x,H1,I1,rx,a,C,dx,fs,v,ex,ea,c,n,l,q⟩=>?_);subst ex;obtain rfl:u=dC a:=rx;exact QK I1 ea c n l fun u' s2 I2 ru=>⟨v,H1,I2,ru,q⟩
theorem nT (ha:PE X o ta) (hv:PE X value tv) (hs:wM value (some (.Attribute o f pos')) pos.line X.env=pure false):PS X (.Assign [.Attribute o f pos'] value pos) (E8 X.K ta tv f):=by intro pins s σ H D I h;refine plainObj_wpAny_Assign_Attribute (kT (hv pins s σ H _ I h) fun u s1 ⟨y,H1,I1,ry,q⟩=>kT (ha pins s1 σ H1 _ I1 q) fun ov s2 ⟨x,H2,I2,rx,a,C,dx,fs,ex,ea,c,n,l,q2⟩=>?_) hs;subst ex;obtain rfl:ov=dC a:=rx;exact SL I2 ea c n l ry fun s3 I3=>⟨σ,_,I3,q2⟩
theorem LQ (ha:PE X o ta) (hv:PE X value tv) (hop:Xz X op rd):PS X (.AugAssign (.Attribute o f tpos) op value pos) (Vc X.K ta tv rd f):=by intro pins s σ H D I h;refine wpAny_AugAssign_AttributeAny (kT (ha pins s σ H _ I h) fun ov s1 ⟨x,H1,I1,rx,a,C,dx,fs,v,ex,ea,c,n,l,q⟩=>?_);subst ex;obtain rfl:ov=dC a:=rx;refine QK I1 ea c n l fun u s2 I2 ru=>kT (hv pins s2 σ H1 _ I2 q) fun w3 s3 ⟨y,H2,I3,ry,q3⟩=>kT (hop pins s3 σ H2 v y u w3 _ I3 ru ry q3) fun w4 s4 ⟨z,H3,I4,rz,dx',fs',ea',l',q4⟩=>?_;exact SL I4 ea' c n l' rz fun s5 I5=>⟨σ,_,I5,q4⟩
def D7:V→V→Hp→VK→Prop:=fun x y H Q=>∃i j,x=.int i∧y=.int j∧Q (.int (i+j)) H
theorem Ho:Xz X .Add D7:=by rintro pins s σ H x y u v Q I rx ry ⟨i,j,rfl,rfl,q⟩;obtain⟨t,rfl⟩:=(show ∃t,u=AE i t from rx);obtain⟨t',rfl⟩:=(show ∃t',v=AE j t' from ry);exact PyProof.Rows.iadd_int ⟨.int (i+j),H,I.tok _,⟨_,rfl⟩,q⟩
end
section
variable {X:Cx} {pins:List (aQ×Obj)} {σ:St} {H:Hp} {s:aV} {A:jT} {E:Value→aV→Prop} {Q:Value→aV→Prop} {c:Value} {b:Bool}
inductive NM (K:aB) (H:Hp):V→Value→Prop where
 | non:NM K H .non (.type "NoneType")
 | bl (x:Bool):NM K H (.bl x) (.type "bool")
 | int (i:Int):NM K H (.int i) (.type "int")
 | str (x:Str):NM K H (.str x) (.type "str")
 | flt (x:UInt64):NM K H (.flt x) (.type "float")
 | lst {a:aQ} {xs:List V} (e:H a=some (.lst xs)):NM K H (.ref a) (.type "list")
 | frz {a:aQ} {o:Obj} {xs:List V} (e:H a=some (.frz o (.lst xs))):NM K H (.ref a) (.type "list")
 | tup {a:aQ} {xs:List V} (e:H a=some (.tup xs)):NM K H (.ref a) (.type "tuple")
 | dK {a:aQ} {kvs:List (CG×V)} (e:H a=some (.dK kvs)):NM K H (.ref a) (.type "dict")
 | dT {a:aQ} {kvs:List (List CG×V)} (e:H a=some (.dT kvs)):NM K H (.ref a) (.type "dict")
 | ins {a C dx:aQ} {fs:List (Str×V)} (e:H a=some (.ins C dx fs)) (cl:Br K C) (ha:iA K (.ref C) "__class__"=some (some (.builtin "object.__class__")))
  (hn:PySem.W.specialIn K (.builtin "object.__class__") "__get__"=some (some (.builtin "getset_descriptor.__get__"))) (htk:PySem.W.takesIn K (.builtin "object.__class__")=some true)
  (hm:PySem.W.mroIn K C (.type "object")=some true):NM K H (.ref a) (.ref C)
theorem WM (I:dH X pins σ H s) (rx:gK x u) (ty:NM X.K H x t) (e:OS X.K t c=some b) (h:∀tk,Q (.bool b) {s with toks:=tk}):
  bL (cB X.prog X.w) A (call (.builtin "isinstance") [u,c]) Q E s:=by
 cases ty with
 | non=>cases(show u=uS from rx);exact iD PySem.W.kitx_none I.kIn oK e (fun z=>nomatch z) h
 | bl y=>cases(show u=Lv y from rx);exact iD PySem.W.kitx_bool I.kIn oK e (fun z=>nomatch z) h
 | int i=>obtain⟨t,q⟩:=(show ∃t,u=AE i t from rx);cases q;exact iD PySem.W.kitx_int I.kIn oK e (fun z=>nomatch z) h
 | str y=>obtain⟨t,q⟩:=(show ∃t,u=NG y t from rx);cases q;exact iD PySem.W.kitx_str I.kIn oK e (fun z=>nomatch z) h
 | flt y=>obtain⟨t,q⟩:=(show ∃t,u=Gj y t from rx);cases q;exact iD PySem.W.kitx_float I.kIn oK e (fun z=>nomatch z) h
 | @lst a xs ea=>cases(show u=dC a from rx);obtain⟨_,_,n,_,h1⟩:=(show lB X.prog X.w H s.heap a (.lst xs)from I.hok a _ ea);exact iD Ju I.kIn ⟨_,h1,rfl⟩ e (fun z=>nomatch z) h
 | @frz a ob xs ea=>cases(show u=dC a from rx);obtain⟨_,_,_,n,_,h1⟩:=(show lB X.prog X.w H s.heap a (.frz ob (.lst xs))from I.hok a _ ea);exact iD Ju I.kIn ⟨_,h1,rfl⟩ e (fun z=>nomatch z) h
 | @tup a xs ea=>cases(show u=dC a from rx);obtain⟨_,_,_,p⟩:=(show lB X.prog X.w H s.heap a (.tup xs)from I.hok a _ ea);obtain⟨o,h1,h2,_⟩:=p;exact iD PySem.W.kitx_tuple I.kIn ⟨o,h1,h2⟩ e (fun z=>nomatch z) h
 | @dK a kvs ea=>cases(show u=dC a from rx);obtain⟨_,_,vs,_,p⟩:=(show lB X.prog X.w H s.heap a (.dK kvs)from I.hok a _ ea);obtain⟨o,es,ep,h1,h2,_⟩:=p;exact iD Jt I.kIn ⟨o,h1,h2.1⟩ e (fun z=>nomatch z) h
 | @dT a kvs ea=>cases(show u=dC a from rx);obtain⟨_,_,xs,_,o,es,ep,h1,h2,_⟩:=(show lB X.prog X.w H s.heap a (.dT kvs)from I.hok a _ ea);exact iD Jt I.kIn ⟨o,h1,h2.1⟩ e (fun z=>nomatch z) h
 | @ins a C dx fs ea cl ha hn htk hm=>cases(show u=dC a from rx);obtain⟨mA,O,_⟩:=OE I.hok ea;obtain⟨od,J,_⟩:=O.look;exact iD (PySem.W.kitx_own (cl.get _) cl.hd ha hn htk hm) I.kIn J e (fun z=>nomatch z) h
end
structure jE (k:Nat) (A:jT):Prop where
 hd:A.handled=none
 dp:A.depth+3 * k+5 < recursionLimit
 un:A.units+16 * k+200 < Pl
theorem jE.mono (r:jE k A) (h:j≤k):jE j A:=⟨r.hd,by have:=r.dp;omega,by have:=r.un;omega⟩
theorem jE.deeper (r:jE (k+1) A) (env:Env):jE k (A.deeper env):=⟨r.hd,by have:=r.dp;show A.depth+1+3 * k+5 < _;omega,by have:=r.un;show A.units+3+16 * k+200 < _;omega⟩
theorem jE.in1 (r:jE (k+1) A):jE k A.in1:=⟨r.hd,by have:=r.dp;show A.depth+3 * k+5 < _;omega,by have:=r.un;show A.units+1+16 * k+200 < _;omega⟩
theorem Hz {A:jT} {C:aQ} {us:List Value} {kw:List (Str×Value)}:(A.under (.builtin "type.__call__" ⟨.ref C::us,kw⟩)).depth=A.depth+1:=by first | rfl | simp[Bi,Code.weight,Code.isCreation,Code.isGuard,Code.isCaller,Code.frames,Fz,guardIds]
theorem Ia {A:jT} {C:aQ} {us:List Value} {kw:List (Str×Value)}:(A.under (.builtin "type.__call__" ⟨.ref C::us,kw⟩)).units=A.units+1:=by first | rfl | simp[Bi,Code.cUnits,Code.frames,Fz]
theorem jE.make (r:jE (k+1) A) (C:aQ) (us:List Value) (kw:List (Str×Value)):jE k (A.under (.builtin "type.__call__" ⟨.ref C::us,kw⟩)):=⟨r.hd,by have:=r.dp;rw[Hz];omega,by have:=r.un;rw[Ia];omega⟩
theorem jE.depth (r:jE k A):A.depth < recursionLimit:=by have:=r.dp;omega
theorem jE.units (r:jE k A):A.units+64 < Pl:=by have:=r.un;omega
def Fj:TA:=fun _ H Q=>Q [] H
def XO (ta:TE) (tr:TA):TA:=fun σ H Q=>ta σ H fun x H1=>tr σ H1 fun xs H2=>Q (x::xs) H2
section
variable {X:Cx} {e:Expr} {es:List Expr} {te:TE} {t:TA} {pos:Pos}
theorem aD:PA X [] Fj:=fun _ _ _ _ H Q I h=>Pf ⟨[],H,I,.nil,h⟩
theorem aA (ha:PE X e te) (hr:PA X es t) (hs:bO (e::es) X.env=(false,gZ e X.env)::bO es X.env:=by rfl):PA X (e::es) (XO te t):=by intro pos pins s σ H Q I h;rw[hs];show bL _ _ (spliced ((false,gZ e X.env)::jD pos (bO es X.env))) _ _ s;refine IL (kT (ha pins s σ H _ I h) fun u s1 ⟨x,H1,I1,r1,q1⟩=>?_);exact kT (hr pos pins s1 σ H1 _ I1 q1) fun us s2 ⟨xs,H2,I2,r2,q2⟩=>⟨x::xs,H2,I2,.cons r1 r2,q2⟩
def A7 (t:TA):TE:=fun σ H Q=>t σ H fun xs H1=>xs.length≤aU∧∀p,H1 p=none→Q (.ref p) (upd H1 p (.tup xs))
def F5 (t:TA):TE:=fun σ H Q=>t σ H fun xs H1=>xs.length≤aU∧∀p,H1 p=none→Q (.ref p) (upd H1 p (.lst xs))
theorem iP {x1} (h:PA X es t):PE X (.Tuple es x1 pos) (A7 t):=by intro pins s σ H Q I hq;refine wpAny_Tuple_spliced (kT (h pos pins s σ H _ I hq) fun us s1 ⟨xs,H1,I1,r,z,q⟩=>⟨by rw[←r.length];exact z,?_⟩);have hf:H1 s1.heap.objs.size=none:=I1.hok.fresh (aR _);refine⟨.ref s1.heap.objs.size,upd H1 s1.heap.objs.size (.tup xs),I1.laid (t':=s1.toks) (fun b u e=>aF _ e) (aR _) ?_,rfl,q _ hf⟩;exact⟨z,us,r,⟨_,bQ _ rfl,rfl,_,rfl,rfl⟩⟩
theorem eJ (h:PA X es t):PE X (.List es pos) (F5 t):=by intro pins s σ H Q I hq;refine wpAny_List_spliced (kT (h pos pins s σ H _ I hq) fun us s1 ⟨xs,H1,I1,r,z,q⟩=>⟨by rw[←r.length];exact z,?_⟩);have hf:H1 s1.heap.objs.size=none:=I1.hok.fresh (aR _);refine⟨.ref s1.heap.objs.size,upd H1 s1.heap.objs.size (.lst xs),I1.laid (t':=s1.toks) (fun b u e=>aF _ e) (aR _) ?_,rfl,q _ hf⟩;exact⟨z,us,0,r,bQ _ rfl⟩
end
abbrev Sp:=List V→Hp→VK→XK→Prop
abbrev Ps:=List Env→Hp→aV→XK→Value→aV→Prop
structure Gq (P:dF) (w:eV) (K:aB) (mg:Str→Option Value) (base:gC) (A:jT) (outer:List Env) (s:aV) (H:Hp):Prop where
 frames:A.frames=some outer
 mod:B3 K mg base
 bs:∀b o,base.get? b=some o→s.heap.get? b=some o∧H b=none
 bsz:base.objs.size≤s.heap.objs.size
 funs:s.heap.FunFrames base outer
 frf:∀b∈II outer,H b=none
 hok:CF P w H s.heap
 bare:GR s.gens
def CE (outer:List Env) (P:dF) (w:eV) (H:Hp) (s:aV) (Q:VK) (u:Value) (s':aV):Prop:=∃v H',s'.os=s.os∧GR s'.gens∧Un (II outer) [] H H' s.heap s'.heap∧CF P w H' s'.heap∧gK v u∧Q v H'
def CR (CX:Ps) (outer:List Env) (P:dF) (w:eV) (H:Hp) (s:aV) (Q:VK) (E:XK) (r:Result) (s':aV):Prop:=
 match r with
 | .ok (.ret u)=>CE outer P w H s Q u s'
 | .ok _=>False
 | .error e=>CX outer H s E e s'
structure vN (P:dF) (w:eV) (K:aB) (mg:Str→Option Value) (base:gC) (CX:Ps) (k:Nat) (f:aQ) (fd:tM) (ps:List Str) (sp:Sp):Prop where
 len:∀vs H Q E,sp vs H Q E→vs.length=ps.length
 run:∀(A:jT) (outer:List Env) (s:aV) (H:Hp) (args:Args) (us:List Value) (vs:List V) (Q:VK) (E:XK),jE k A→Gq P w K mg base A outer s H→TW s fd args (ps.zip us)→fY vs us→sp vs H Q E→
  vM (cB P w) A (.call (.ref f) args) (CR CX outer P w H s Q E) s
theorem vN.mono {P:dF} {w:eV} {K:aB} {mg:Str→Option Value} {base:gC} {CX:Ps} {j k:Nat} {f:aQ} {fd:tM} {ps:List Str} {sp:Sp} (F:vN P w K mg base CX j f fd ps sp) (h:j≤k):vN P w K mg base CX k f fd ps sp:=⟨F.len,fun A outer s H args us vs Q E hr=>F.run A outer s H args us vs Q E (hr.mono h)⟩
theorem Gq.make {P:dF} {w:eV} {K:aB} {mg:Str→Option Value} {base:gC} {A:jT} {outer:List Env} {s:aV} {H:Hp} (e:Gq P w K mg base A outer s H) (C:aQ) (us:List Value) (kw:List (Str×Value)):Gq P w K mg base (A.under (.builtin "type.__call__" ⟨.ref C::us,kw⟩)) outer s H:=⟨by first | exact e.frames | (simpa [Bi,Code.envs,Fz,pushEnvs] using e.frames),e.mod,e.bs,e.bsz,e.funs,e.frf,e.hok,e.bare⟩
section
variable {X:Cx} {pins:List (aQ×Obj)} {σ:St} {H:Hp} {s s':aV}
theorem dH.env0 (I:dH X pins σ H s):Gq X.prog X.w X.K X.mg X.base X.A X.stack s H:=⟨I.ok.frames,I.ok.mod,I.bs,bI I.ok.bsz I.sz,I.stack,I.stkFree,I.hok,I.bare⟩
theorem dH.after (I:dH X pins σ H s) (h:CE X.stack X.prog X.w H s Q u s'):EP X pins σ Q u s':=by obtain⟨v,H',os,bare,un,hok,r,q⟩:=h;obtain⟨hh,g,d,t,os'⟩:=s';obtain rfl:os'=s.os:=os;exact⟨v,H',I.call (h':=hh) (g':=g) (d':=d) (t':=t) (ch:=[]) un hok bare (fun b z=>absurd z (by simp)),r,q⟩
end
def Lj (sp:Sp) (dvs:List V) (E:XK) (t:TA):TE:=fun σ H Q=>t σ H fun vs H1=>sp (vs++dvs) H1 Q E
def Lk (C:aQ) (m:Str) (sp:Sp) (dvs:List V) (E:XK) (ta:TE) (t:TA):TE:=fun σ H Q=>ta σ H fun x H1=>∃a dx fs,x=.ref a∧H1 a=some (.ins C dx fs)∧fs.lookup m=none∧t σ H1 fun vs H2=>sp (x::(vs++dvs)) H2 Q E
def XQ (C:aQ) (sp:Sp) (dvs:List V) (E:XK) (t:TA):TE:=fun σ H Q=>t σ H fun vs H1=>∀x dx,H1 x=none→H1 dx=none→dx≠x→sp (.ref x::(vs++dvs)) (upd (upd H1 dx (.own x)) x (.ins C dx [])) (fun v H2=>v=.non∧Q (.ref x) H2) E
def sP (K:aB) (fd:tM) (ps:List Str) (ds:List Value):Prop:=∀(s:aV) (us:List Value),K.In s.heap→(us++ds).length=ps.length→TW s fd ⟨us,[]⟩ (ps.zip (us++ds))
theorem sP.all {K:aB} {fd:tM} {ps:List Str} (h:∀us:List Value,us.length=ps.length→bindArgs fd ⟨us,[]⟩=pure (ps.zip us)):sP K fd ps []:=fun s us _ hl=>by rw[cK]at hl ⊢;exact .of_eq (h us hl)
def AJ (CX:Ps) (X:Cx) (E:XK):Prop:=∀(pins:List (aQ×Obj)) (σ:St) (H:Hp) (s:aV) (e:Value) (s':aV),dH X pins σ H s→CX X.stack H s E e s'→X.xe e s'
section
variable {X:Cx} {CX:Ps} {k:Nat} {f C:aQ} {fd:tM} {ps:List Str} {sp:Sp} {dvs:List V} {ds:List Value} {E:XK} {x m:Str} {p pos apos:Pos} {e o:Expr} {es:List Expr} {ta:TE} {t:TA}
theorem Ai (F:vN X.prog X.w X.K X.mg X.base CX k f fd ps sp) (hr:jE k X.A) (hb:sP X.K fd ps ds) (hd:fY dvs ds) (hx:AJ CX X E)
  (I:dH X pins σ H s) (r:fY vs us) (h:sp (vs++dvs) H Q E):bL (cB X.prog X.w) X.A (call (.ref f) us) (EP X pins σ Q) X.xe s:=by
 have r2:fY (vs++dvs) (us++ds):=r.append hd;have hl:(us++ds).length=ps.length:=by rw[←r2.length];exact F.len _ _ _ _ h
 refine OU (zE (F.run X.A X.stack s H ⟨us,[]⟩ (us++ds) (vs++dvs) Q E hr I.env0 (hb s us I.kIn hl) r2 h) fun r s' hq=>?_);cases r with
 | error e=>exact hx pins σ H s e s' I hq
 | ok fl=>
  cases fl with
  | ret u=>exact I.after hq
  | next=>exact eM hq
  | brk=>exact eM hq
  | cont=>exact eM hq
theorem Kw (F:vN X.prog X.w X.K X.mg X.base CX k f fd ps sp) (hr:jE k X.A) (hg:Gl X x) (hm:X.mg x=some (.ref f)) (hk:gG X.K (.ref f)=true) (hb:sP X.K fd ps ds) (hd:fY dvs ds) (hx:AJ CX X E)
  (ha:PA X (e::es) t) (hdb:(x == ("__debug__":Str))=false:=by decide) (he:bO (e::es) X.env=(false,gZ e X.env)::bO es X.env:=by rfl) (hpl:(jD pos (bO es X.env)).any (·.1)=false:=by rfl):
  PE X (.Call (.Name x p) (e::es) [] pos) (Lj sp dvs E t):=by
 intro pins s σ H Q I h;refine hJ (AX I hg hm ?_ hdb);refine nI (h₀:=X.base) I.ok.mod.kin hk (kT (ha pos pins s σ H _ I h) fun us s1 ⟨vs,H1,I1,r,q⟩=>⟨I1.kIn,?_⟩) he hpl;exact Ai F hr hb hd hx I1 r q
theorem Ut (he:PE X o ta) (c:Br X.K C) (hm:Gw X.K C m f) (F:vN X.prog X.w X.K X.mg X.base CX k f fd ps sp) (hr:jE k X.A) (hb:sP X.K fd ps ds) (hd:fY dvs ds) (hx:AJ CX X E) (ha:PA X (e::es) t)
  (hst:bO (e::es) X.env=(false,gZ e X.env)::bO es X.env:=by rfl) (hpl:(jD pos (bO es X.env)).any (·.1)=false:=by rfl)
  (ht:gZ (.Call (.Attribute o m apos) (e::es) [] pos) X.env=(do
   let ov←gZ o X.env
   standAt apos.atName
   let (f,first)←GX [ov] (MC ov m pl)
   UA pos f first (jD pos (bO (e::es) X.env)) (FK pos (uN [] X.env))):=by rfl):
  PE X (.Call (.Attribute o m apos) (e::es) [] pos) (Lk C m sp dvs E ta t):=by
 intro pins s σ H Q I h;refine Bo (pl:=pl) (kT (he pins s σ H _ I h) fun u s1 ⟨x,H1,I1,rx,a,dx,fs,ex,ea,l,q⟩=>?_) ht;subst ex;obtain rfl:u=dC a:=rx;refine QL I1 ea c hm l ?_;refine nI (first:=[.ref a]) (h₀:=X.base) I.ok.mod.kin hm.kp (kT (ha pos pins s1 σ H1 _ I1 q) fun us s2 ⟨vs,H2,I2,r,q2⟩=>⟨I2.kIn,?_⟩) hst hpl;exact Ai (us:=.ref a::us) (vs:=.ref a::vs) F hr hb hd hx I2 (.cons rfl r) q2
theorem Rw (he:PE X o ta) (c:Br X.K C) (hm:Gw X.K C m f) (F:vN X.prog X.w X.K X.mg X.base CX k f fd ps sp) (hr:jE k X.A) (hb:sP X.K fd ps ds) (hd:fY dvs ds) (hx:AJ CX X E)
  (ht:gZ (.Call (.Attribute o m apos) [] [] pos) X.env=(do
   let ov←gZ o X.env
   standAt apos.atName
   let (f,first)←GX [ov] (MC ov m pl)
   UA pos f first (jD pos (bO [] X.env)) (FK pos (uN [] X.env))):=by rfl):
  PE X (.Call (.Attribute o m apos) [] [] pos) (Lk C m sp dvs E ta Fj):=by
 intro pins s σ H Q I h;refine Bo (pl:=pl) (kT (he pins s σ H _ I h) fun u s1 ⟨x,H1,I1,rx,a,dx,fs,ex,ea,l,q⟩=>?_) ht;subst ex;obtain rfl:u=dC a:=rx;refine QL I1 ea c hm l ?_;exact Gb (first:=[.ref a]) I1.kIn hm.kp (Ai (us:=[.ref a]) (vs:=[.ref a]) F hr hb hd hx I1 (.cons rfl .nil) q)
structure Mk (K:aB) (C f:aQ):Prop where
 makes:NI K C=true
 init:iA K (.ref C) "__init__"=some (some (.ref f))
 fn:AF K (.ref f)=true
 kp:gG K (.ref C)=true
theorem Et (M:Mk X.K C f) (F:vN X.prog X.w X.K X.mg X.base CX k f fd ps sp) (hr:jE (k+1) X.A) (hb:sP X.K fd ps ds) (hd:fY dvs ds)
  (hx:AJ CX X E) (I:dH X pins σ H s) (r:fY vs us)
  (h:∀x dx,H x=none→H dx=none→dx≠x→sp (.ref x::(vs++dvs)) (upd (upd H dx (.own x)) x (.ins C dx [])) (fun v H2=>v=.non∧Q (.ref x) H2) E):
  bL (cB X.prog X.w) X.A (call (.ref C) us) (EP X pins σ Q) X.xe s:=by
 have hq:=h (s.heap.objs.size+1) s.heap.objs.size (I.hok.fresh (vV _)) (I.hok.fresh (aR _)) (eI (lE _));have I2:=dH.made (C:=C) I;have r2:fY (V.ref (s.heap.objs.size+1)::(vs++dvs)) (dC (s.heap.objs.size+1)::(us++ds)):=.cons rfl (r.append hd);have hl:(dC (s.heap.objs.size+1)::us++ds).length=ps.length:=by have e:=r2.length;rw[F.len _ _ _ _ hq]at e;exact e.symm
 refine OU (Rh (f:=f) I.kIn M.makes M.init (beq_iff_eq.mp M.fn) (zE (F.run _ X.stack _ _ ⟨dC (s.heap.objs.size+1)::us,[]⟩ (dC (s.heap.objs.size+1)::(us++ds)) _ _ E (hr.make C us []) (I2.env0.make C us []) (hb _ (dC (s.heap.objs.size+1)::us) I2.kIn hl) r2 hq) fun r s' hq'=>?_));cases r with
 | error e=>exact hx pins σ _ _ e s' I2 hq'
 | ok fl=>
  cases fl with
  | ret u=>obtain⟨v,H',I3,rv,ev,q3⟩:=I2.after hq';subst ev;exact⟨rv,⟨V.ref (s.heap.objs.size+1),H',I3,rfl,q3⟩⟩
  | next=>exact eM hq'
  | brk=>exact eM hq'
  | cont=>exact eM hq'
theorem Kx (M:Mk X.K C f) (F:vN X.prog X.w X.K X.mg X.base CX k f fd ps sp) (hr:jE (k+1) X.A) (hg:Gl X x) (hm:X.mg x=some (.ref C)) (hb:sP X.K fd ps ds) (hd:fY dvs ds) (hx:AJ CX X E)
  (ha:PA X (e::es) t) (hdb:(x == ("__debug__":Str))=false:=by decide) (he:bO (e::es) X.env=(false,gZ e X.env)::bO es X.env:=by rfl) (hpl:(jD pos (bO es X.env)).any (·.1)=false:=by rfl):
  PE X (.Call (.Name x p) (e::es) [] pos) (XQ C sp dvs E t):=by
 intro pins s σ H Q I h;refine hJ (AX I hg hm ?_ hdb);refine nI (h₀:=X.base) I.ok.mod.kin M.kp (kT (ha pos pins s σ H _ I h) fun us s1 ⟨vs,H1,I1,r,q⟩=>⟨I1.kIn,?_⟩) he hpl;exact Et M F hr hb hd hx I1 r q
theorem Rv (M:Mk X.K C f) (F:vN X.prog X.w X.K X.mg X.base CX k f fd ps sp) (hr:jE (k+1) X.A) (hg:Gl X x) (hm:X.mg x=some (.ref C)) (hb:sP X.K fd ps ds) (hd:fY dvs ds) (hx:AJ CX X E)
  (hdb:(x == ("__debug__":Str))=false:=by decide):PE X (.Call (.Name x p) [] [] pos) (XQ C sp dvs E Fj):=by
 intro pins s σ H Q I h;refine hJ (AX I hg hm ?_ hdb);exact Gb I.kIn M.kp (Et (us:=[]) M F hr hb hd hx I .nil h)
end
structure EK (N P:List Str) (sc:zB):Prop where
 kind:sc.kind=.function
 co:sc.isCoroutine=false
 gen:sc.isGenerator=false
 nd:N.Nodup
 pre:N.take P.length=P
 par:∀x∈P,sc.names.lookup x=some .local∨sc.names.lookup x=some .cell
 nofree:∀y∈sc.names,y.2≠.free
theorem WC {kindOf:Str→Option mZ} {x:Str}:∀{binds:List (Str×Value)} {m:Str→Option Value},(∀v,(x,v)∉binds)→Pk kindOf binds m x=m x
 | [],_,_=>rfl
 | (n,v)::r,m,h=>by
  unfold Pk;rw[WC fun w hw=>h w (aL _ hw)];split
  ·  have:x≠n:=by rintro rfl;exact h v aM
     simp[this]
  ·  rfl
theorem WA {kindOf:Str→Option mZ} {x:Str}:∀{binds:List (Str×Value)} {m:Str→Option Value},(∀v,(x,v)∉binds)→Pj kindOf binds m x=m x
 | [],_,_=>rfl
 | (n,v)::r,m,h=>by
  unfold Pj;rw[WA fun w hw=>h w (aL _ hw)];split
  ·  rfl
  ·  have:x≠n:=by rintro rfl;exact h v aM
     simp[this]
theorem WB {kindOf:Str→Option mZ} {x:Str} {v:Value}:∀{P:List Str} {vs:List Value} {i:Nat} {m:Str→Option Value},P.Nodup→P[i]?=some x→vs[i]?=some v→kindOf x=some .local→
  Pk kindOf (P.zip vs) m x=some v
 | [],_,_,_,_,h,_,_=>by simp at h
 | _::_,[],_,_,_,_,h,_=>by simp at h
 | p::P,w::vs,0,m,nd,h1,h2,hk=>by simp at h1 h2;subst h1;subst h2;show Pk kindOf ((p,w)::P.zip vs) m p=_;unfold Pk;rw[WC fun v hv=>(eL.mp nd).1 (oU hv).1,if_pos hk];simp
 | p::P,w::vs,i+1,m,nd,h1,h2,hk=>by show Pk kindOf ((p,w)::P.zip vs) m x=_;unfold Pk;exact WB (i:=i) (eL.mp nd).2 (by simpa using h1) (by simpa using h2) hk
theorem VZ {kindOf:Str→Option mZ} {x:Str} {v:Value}:∀{P:List Str} {vs:List Value} {i:Nat} {m:Str→Option Value},P.Nodup→P[i]?=some x→vs[i]?=some v→kindOf x≠some .local→
  Pj kindOf (P.zip vs) m x=some v
 | [],_,_,_,_,h,_,_=>by simp at h
 | _::_,[],_,_,_,_,h,_=>by simp at h
 | p::P,w::vs,0,m,nd,h1,h2,hk=>by simp at h1 h2;subst h1;subst h2;show Pj kindOf ((p,w)::P.zip vs) m p=_;unfold Pj;rw[WA fun v hv=>(eL.mp nd).1 (oU hv).1,if_neg hk];simp
 | p::P,w::vs,i+1,m,nd,h1,h2,hk=>by show Pj kindOf ((p,w)::P.zip vs) m x=_;unfold Pj;exact VZ (i:=i) (eL.mp nd).2 (by simpa using h1) (by simpa using h2) hk
def start (N:List Str) (vs:List V):St:=vs.map some++List.replicate (N.length - vs.length) none
def UL (CX:Ps) (P:dF) (w:eV) (K:aB) (mg:Str→Option Value) (base:gC) (N:List Str) (qual:Str) (scope:zB) (f:aQ) (cd:Value) (A:jT) (outer:List Env) (s:aV) (H:Hp) (E:XK):Cx where
 prog:=P
 w:=w
 K:=K
 mg:=mg
 base:=base
 A:=A.deeper (tQ qual scope s.heap.objs.size f cd)
 N:=N
 s_0:=s
 H_0:=H
 env:=tQ qual scope s.heap.objs.size f cd
 outer:=outer
 stack:=tQ qual scope s.heap.objs.size f cd::outer
 ex:=[]
 calm:=true
 fn:=fun _=>true
 pn:=[]
 xe:=fun e s'=>bL (cB P w) (A.deeper (tQ qual scope s.heap.objs.size f cd)) (leaving (tQ qual scope s.heap.objs.size f cd) e) (fun _ s''=>CX outer H s E e s'') (fun e' s''=>CX outer H s E e' s'') s'
theorem Cg {sc:zB} {n:Nat} {x:Str} (h:sc.names.lookup x=some .cell):∃c,(iB n sc.names []).lookup x=some c:=by have q:=YD sc.names n [] (.inl h);exact VS.mp q
theorem Nd {CX:Ps} {P:dF} {w:eV} {K:aB} {mg:Str→Option Value} {base:gC} {N ps:List Str} {qual:Str} {scope:zB} {f:aQ} {cd:Value} {A:jT} {outer:List Env} {s s1:aV} {H:Hp} {E:XK} {us:List Value} {vs:List V}
  (S:EK N ps scope) (hd:A.handled=none) (e0:Gq P w K mg base A outer s H) (hl:vs.length=ps.length) (r:fY vs us)
  (x:InCallC s s.heap.objs.size (Pk (tQ qual scope s.heap.objs.size f cd).kindOf (ps.zip us) fun _=>none) (iB (s.heap.objs.size+1) scope.names []) (Pj (tQ qual scope s.heap.objs.size f cd).kindOf (ps.zip us) fun _=>none) s1):
  dH (UL CX P w K mg base N qual scope f cd A outer s H E) [] (start N vs) H s1:=by
 have hpl:ps.length≤N.length:=by have:=congrArg sK S.pre;rw[bJ]at this;omega
 obtain⟨h1,tk,rfl,hk⟩:=x.done;have noA:∀b:aQ,b∉(UL CX P w K mg base N qual scope f cd A outer s H E).ex:=fun b z=>absurd (show b∈([]:List aQ)from z) (by simp);refine⟨⟨e0.mod,S.kind,rfl,rfl,aR _,fun y z c h1 h2=>?_,fun y hy=>?_,fun y c _ h=>?_,fun _=>hd,Around.frames_deeper e0.frames,.inr ⟨rfl,rfl⟩,fun b z=>absurd z (noA b),e0.bs,e0.bsz,fun b _ _=>noA b,fun b z=>absurd z (noA b),e0.funs,e0.frf⟩,rfl,e0.bare,Un.kept hk,⟨_,x.toInCall.ns,fun i y v h1 h2 h3=>?_⟩,fun y c h=>⟨_,x.cell y c h⟩,e0.hok.fresh (aR _),fun y c h=>?_,fun p hp=>absurd (show p∈([]:List (aQ×Obj))from hp) (by simp),e0.hok.kept hk,?_⟩
 ·exact name_of_addr x.apart (dP h1) (dP h2)
 ·have hy:scope.names.lookup y=some .cell∨scope.names.lookup y=some .free:=hy;rcases hy with hy | hy
  ·exact Cg hy
  ·exact absurd rfl (S.nofree _ (dP hy))
 ·exact Gg (x.above y c (dP h))
 ·have hi:i < vs.length:=by
   unfold start at h2;by_cases hi:i < vs.length
   ·exact hi
   ·rw[gM (by simpa using hi)]at h2;rw[List.getElem?_replicate]at h2;split at h2<;>cases h2
  have ha:vs[i]?=some v:=by
   unfold start at h2;rw[XY (by simpa using hi),bX]at h2;cases e:vs[i]? with
   | none=>rw[e]at h2;cases h2
   | some a=>rw[e]at h2;cases h2;rfl
  obtain⟨u,hu,rv⟩:=r.get ha;have hp:ps[i]?=some y:=by rw[←S.pre,List.getElem?_take_of_lt (by omega)];exact h1
  have ndP:ps.Nodup:=by rw[←S.pre];exact S.nd.sublist (List.take_sublist _ _)
  refine⟨u,rv,?_⟩;rcases S.par y (bA hp)with k | k
  ·exact .inl ⟨k,WB ndP hp hu k⟩
  ·obtain⟨c,e⟩:=Cg (n:=s.heap.objs.size+1) k;refine .inr ⟨.inl k,c,e,?_⟩;have q:=x.cell y c e;rw[VZ ndP hp hu (by show scope.names.lookup y≠_;rw[k];decide)]at q;exact q
 ·exact e0.hok.fresh (Gg (x.above y c (dP h)))
 ·unfold start;show _=N.length;rw[aC,aJ,List.length_replicate];omega
theorem Ys {CX:Ps} {P:dF} {w:eV} {K:aB} {mg:Str→Option Value} {base:gC} {k:Nat} {f:aQ} {name qual:Str} {params:Arguments} {body:List yL} {scope:zB} {dV kV doc pm cdv ct oc:Value} {an od:Option aQ}
  {osl:Array (Option Value)} {N ps:List Str} {sp:Sp} (lk:K.lookup f=some ⟨oc,od,.func (kK name qual params body scope dV kV doc pm an cdv ct),osl⟩) (hcd:sO K cdv qual=true) (S:EK N ps scope)
  (len:∀vs H Q E,sp vs H Q E→vs.length=ps.length)
  (hbody:∀(A:jT) (outer:List Env) (s:aV) (H:Hp) (vs:List V) (Q:VK) (E:XK),jE k (A.deeper (tQ qual scope s.heap.objs.size f cdv))→sp vs H Q E→∃t,Pp (UL CX P w K mg base N qual scope f cdv A outer s H E) body t∧t {nx:=fun _ H'=>Q .non H',rt:=Q} (start N vs) H):
  vN P w K mg base CX (k+1) f (kK name qual params body scope dV kV doc pm an cdv ct) ps sp:=by
 refine⟨len,fun A outer s H args us vs Q E hr e0 hb r hsp=>?_⟩;have hl:=len _ _ _ _ hsp;have KX:K.In s.heap:=e0.mod.kin.keeps fun b o e=>(e0.bs b o e).1;have lim:s.heap.NoLimit:=e0.mod.nolimit.keeps fun b o e=>(e0.bs b o e).1;have hkind:∀y∈ps.zip us,scope.names.lookup y.1=some .local∨(scope.names.lookup y.1=some .cell∧((iB (s.heap.objs.size+1) scope.names []).lookup y.1).isSome=true):=fun⟨n,v⟩ hy=>by
  rcases S.par n (oU hy).1 with q | q
  ·exact .inl q
  ·exact .inr ⟨q,YD _ _ _ (.inl q)⟩
 refine codeAny_call_function hr.depth (KX _ _ lk) rfl S.co S.gen rfl (PySem.W.codeRec_of KX hcd) (hb _ _ _ _ ?_);refine wpAny_newFunctionEnv_cells S.kind hkind fun env he s1 x=>?_;subst he;refine⟨lim.keeps x.toInCall.keep,codeAny_func ?_⟩;obtain⟨t,ht,hq⟩:=hbody A outer s H vs Q E (hr.deeper _) hsp;have I:dH (UL CX P w K mg base N qual scope f cdv A outer s H E) [] (start N vs) H s1:=Nd S hr.hd e0 hl r x;refine fV (ht [] s1 (start N vs) H _ I hq) (fun fl s' hs=>?_) fun e s' hs=>hs;have fin:∀{σ':St} {H':Hp} {v:V} {u:Value},dH (UL CX P w K mg base N qual scope f cdv A outer s H E) [] σ' H' s'→gK v u→Q v H'→CE outer P w H s Q u s':=fun {σ' H' v u} J rv q=>⟨v,H',J.os,J.bare,J.base,J.hok,rv,q⟩;cases fl with
 | ret u=>obtain⟨v,σ',H',J,rv,q⟩:=hs;exact fin J rv q
 | next=>obtain⟨σ',H',J,q⟩:=hs;exact fin (v:=V.non) (u:=uS) J rfl q
 | brk=>obtain⟨_,_,_,q⟩:=hs;exact eM q
 | cont=>obtain⟨_,_,_,q⟩:=hs;exact eM q
section
variable {X:Cx} {x:Str} {p pos:Pos} {e:Expr} {es:List Expr} {t:TA} {id T:String} {r:List V→Hp→VK→Prop}
def G4 (r:List V→Hp→VK→Prop) (t:TA):TE:=fun σ H Q=>t σ H fun vs H1=>r vs H1 Q
theorem cX (hc:CW X (.builtin id) r) (hg:Gl X x) (hm:X.mg x=none) (hv:vL x=some (.builtin id)) (ha:PA X (e::es) t) (hn:x≠"__name__":=by decide) (hdb:(x == ("__debug__":Str))=false:=by decide)
  (he:bO (e::es) X.env=(false,gZ e X.env)::bO es X.env:=by rfl) (hpl:(jD pos (bO es X.env)).any (·.1)=false:=by rfl):PE X (.Call (.Name x p) (e::es) [] pos) (G4 r t):=by
 intro pins s σ H Q I h;refine hJ (tY I hg hm hv ?_ hn hdb);exact PyProof.Rows.callWith_builtin1 (kT (ha pos pins s σ H _ I h) fun us s1 ⟨vs,H1,I1,r1,q1⟩=>hc pins s1 σ H1 vs us Q I1 r1 q1) he hpl
theorem lK (hc:CW X (.type T) r) (hg:Gl X x) (hm:X.mg x=none) (hv:vL x=some (.type T)) (ha:PA X (e::es) t) (hn:x≠"__name__":=by decide) (hdb:(x == ("__debug__":Str))=false:=by decide)
  (he:bO (e::es) X.env=(false,gZ e X.env)::bO es X.env:=by rfl) (hpl:(jD pos (bO es X.env)).any (·.1)=false:=by rfl):PE X (.Call (.Name x p) (e::es) [] pos) (G4 r t):=by
 intro pins s σ H Q I h;refine hJ (tY I hg hm hv ?_ hn hdb);exact fR (kT (ha pos pins s σ H _ I h) fun us s1 ⟨vs,H1,I1,r1,q1⟩=>hc pins s1 σ H1 vs us Q I1 r1 q1) he hpl
end
end L2
section
namespace HT
open PySem PyProof.Rows
section
variable {prog:dF} {w:eV} {A:jT} {E:Value→aV→Prop} {s:aV}
theorem Tn (ht:Pe s.heap t vs.toArray) (hb:Pe s.heap b ws.toArray) (hv:vs≠[])
  (h1:ws=[]→Q (.ref t) s) (h2:ws≠[]→Q (.ref s.heap.objs.size) {s with heap:=s.heap.push {cls:=.type "tuple",data:=.seq (vs++ws).toArray}})
  (hsz:vs.length+ws.length≤aU):bL (cB prog w) A (FL .Add (.ref t) (.ref b)) Q E s:=by
 obtain⟨⟨cls,dd,data,sl⟩,ho,hc,n,hd⟩:=id ht;obtain⟨⟨cls2,dd2,data2,sl2⟩,ho2,hc2,n2,hd2⟩:=id hb;simp only at hc hd hc2 hd2;subst hc hd hc2 hd2;have e:vs.toArray++ws.toArray=(vs++ws).toArray:=by simp
 by_cases hw:ws=[]
 ·exact concat_meets ⟨_,ho,rfl⟩ ⟨_,ho2,rfl⟩ YE Ly AD zC (yG _ _)
   (tuple_addW1 t b vs.toArray ws.toArray n n2 dd dd2 sl sl2 (by simpa using hv) (by simp[hw])) ⟨ho,ho2,h1 hw⟩
 ·refine concat_meets ⟨_,ho,rfl⟩ ⟨_,ho2,rfl⟩ YE Ly AD zC (yG _ _)
   (tuple_addW2 t b vs.toArray ws.toArray n n2 dd dd2 sl sl2 (by simpa using hv) (by simpa using hw) (by rw[bN,bN];exact hsz)) ⟨ho,ho2,?_⟩
  rw[e];exact h2 hw
def rL (n d:Nat):Option Int→Nat
 | none=>d
 | some v=>if v < 0 then (v+(n:Int)).toNat else min v.toNat n
theorem Eu (n d:Nat):rL n d none=d:=rfl
theorem OL (n d k:Nat):rL n d (some (k:Int))=min k n:=by show(if (k:Int) < 0 then ((k:Int)+(n:Int)).toNat else min (k:Int).toNat n)=min k n;rw[if_neg (by omega),NC]
theorem Xb (n d:Nat) (hd:d≤n) (o:Option Int):rL n d o≤n:=by
 cases o with
 | none=>exact hd
 | some v=>
  show(if v < 0 then (v+(n:Int)).toNat else min v.toNat n)≤n;by_cases hv:v < 0
  ·rw[if_pos hv];omega
  ·rw[if_neg hv];exact Nat.min_le_right _ _
theorem Ka (v:Int) (n d:Nat):(if v < 0 then max (v+(n:Int)) 0 else min v (n:Int))=((rL n d (some v):Nat):Int):=by
 show(if v < 0 then max (v+(n:Int)) 0 else min v (n:Int))=(((if v < 0 then (v+(n:Int)).toNat else min v.toNat n):Nat):Int);by_cases hv:v < 0
 ·simp only[if_pos hv];omega
 ·simp only[if_neg hv];omega
theorem Gz (lo hi:Option Int) (n:Nat):vK lo hi 1 (n:Int)=(((rL n 0 lo:Nat):Int),((rL n n hi:Nat):Int)):=by
 have h1:¬((1:Int) < 0):=by omega
 unfold vK;simp only[h1,if_false];refine Prod.ext ?_ ?_
 ·cases lo with
  | none=>rfl
  | some v=>exact Ka v n 0
 ·cases hi with
  | none=>rfl
  | some v=>exact Ka v n n
theorem Ii (i j:Nat):oV (i:Int) (j:Int) 1=j - i:=by
 unfold oV;have h1:(1:Int) > 0:=by omega
 simp only[h1,if_true,Int.ediv_one];split<;>omega
theorem SM (p:KU v o) (h:Q o s):bL (cB prog w) A (Builtin.Slice.slicePartIndex v) Q E s:=by
 cases p with
 | none=>exact slicePart_none h
 | int i t=>exact slicePart_int h
theorem zW {sl:aQ} {vl vu:Value} {lo hi:Option Int} {n:Nat} {Q:Int×Int×Nat→aV→Prop} (hs:s.heap.IsSliceOf sl vl vu .none) (pl:KU vl lo) (pu:KU vu hi)
  (h:Q (((rL n 0 lo:Nat):Int),1,rL n n hi - rL n 0 lo) s):bL (cB prog w) A (IJ (.ref sl) (pure (n:Int))) Q E s:=by
 obtain⟨os,hos,hcs,hds⟩:=id hs;unfold IJ Builtin.Slice.sliceFields;refine aH (aH (jS hos hds (x:=vl) rfl (aH (jS hos hds (x:=vu) rfl (aH (jS hos hds (x:=.none) rfl (bH ?_)))))));refine aH (slicePart_none ?_);show bL _ _ (if ((1:Int) == 0)=true then _ else _) _ _ s;rw[if_neg (by decide)];refine aH (SM pl (aH (SM pu (aH (bH ?_)))));show bL _ _ (match vK lo hi 1 (n:Int)with | (lo,hi)=>pure (lo,(1:Int),oV lo hi 1)) _ _ s;rw[Gz lo hi n];show bL _ _ (pure (((rL n 0 lo:Nat):Int),(1:Int),oV ((rL n 0 lo:Nat):Int) ((rL n n hi:Nat):Int) 1)) _ _ s;rw[Ii];exact bH h
theorem Rz (xs:Array Value) (i k:Nat):((KP k).filterMap fun(m:Nat)=>xs[((i:Int)+(m:Int) * 1).toNat]?).toArray=((xs.toList.drop i).take k).toArray:=by
 have e:(fun(m:Nat)=>xs[((i:Int)+(m:Int) * 1).toNat]?)=fun m=>xs[i+m]?:=by
  funext m;have:((i:Int)+(m:Int) * 1).toNat=i+m:=by omega
  rw[this]
 rw[e];have:=pick_run xs i k;rw[List.filterMap_map]at this;have e2:((fun x=>xs[x]?)∘fun x=>i+x)=fun m=>xs[i+m]?:=rfl;rw[e2]at this;rw[this]
theorem JJ {t sl:aQ} {items:Array Value} {vl vu:Value} {lo hi:Option Int} {Q:Value→aV→Prop} (ht:Pe s.heap t items) (hs:s.heap.IsSliceOf sl vl vu .none) (pl:KU vl lo) (pu:KU vu hi)
  (hw:¬(rL items.size 0 lo=0∧rL items.size items.size hi=items.size))
  (h:Q (.ref s.heap.objs.size) {s with heap:=s.heap.push {cls:=.type "tuple",data:=.seq ((items.toList.drop (rL items.size 0 lo)).take (rL items.size items.size hi - rL items.size 0 lo)).toArray}})
  (hsz:items.size≤aU):bL (cB prog w) A (CN (.ref t) (.ref sl)) Q E s:=by
 have htake:sizeOk (.seq ((items.toList.drop (rL items.size 0 lo)).take (rL items.size items.size hi - rL items.size 0 lo)).toArray):=by show((items.toList.drop (rL items.size 0 lo)).take (rL items.size items.size hi - rL items.size 0 lo)).toArray.size≤aU;rw[bN,bJ,cW,jB];omega
 have hj:rL items.size items.size hi≤items.size:=Xb _ _ (aR _) hi;obtain⟨os,hos,hcs,hds⟩:=id hs;have hTs:s.TypeIs (.ref sl) "slice":=⟨os,hos,hcs⟩;unfold CN;try with_reducible refine qD ?_
 first | refine aH (bH ?_) | skip
 refine aH (wpAny_sequenceKey ht.typeIs (by decide) ?_);refine aH (kX (name:=jY "__getitem__") ht.typeIs lG (sE lG ht.typeIs entry_tuple_getitem ?_ (args_tuple_getitem _ _)));show bL _ _ (IK (.ref t) >>= _) _ _ s;refine aH (tupleItemsOf_ ht ?_);refine aH (wpAny_typeOf hTs ?_);rw[if_pos (by decide)];refine aH (zW hs pl pu ?_);have hno:¬((((rL items.size 0 lo:Nat):Int) == 0 && (1:Int) == 1 && (rL items.size items.size hi - rL items.size 0 lo) == items.size)=true):=by intro q;rw[aE,aE]at q;have q1:((rL items.size 0 lo:Nat):Int)=0:=eq_of_beq q.1.1;have q2:rL items.size items.size hi - rL items.size 0 lo=items.size:=eq_of_beq q.2;exact hw ⟨by omega,by omega⟩
 show bL _ _ (if (((rL items.size 0 lo:Nat):Int) == 0 && (1:Int) == 1 && (rL items.size items.size hi - rL items.size 0 lo) == items.size)=true then _ else _) _ _ s;rw[if_neg hno,Rz];first
  | exact aH (m:=oX _) (kY (bH ⟨_,rfl,bH h⟩) htake)
  | exact aH (m:=oX _) (kY (aH (bH (bH ⟨_,rfl,bH h⟩))) htake)
  | exact aH (aH (m:=oX _) (kY (bH (bH ⟨_,rfl,bH h⟩)) htake))
  | exact aH (aH (m:=oX _) (kY (bH ⟨_,rfl,bH h⟩) htake))
end
end HT
end
namespace L2
open PySem PySem.Spec PyProof.Rows
open PySem.W (Frag)
abbrev TO:=St→Hp→(Option Int→Hp→Prop)→Prop
def PO (X:Cx) (e:Option Expr) (t:TO):Prop:=∀(pins:List (aQ×Obj)) (s:aV) (σ:St) (H:Hp) (Q:Option Int→Hp→Prop),dH X pins σ H s→t σ H Q→bL (cB X.prog X.w) X.A (evalPart e X.env) (fun u s'=>∃o H',dH X pins σ H' s'∧KU u o∧Q o H') X.xe s
def Vk:TO:=fun _ H Q=>Q none H
def A0 (t:TE):TO:=fun σ H Q=>t σ H fun x H1=>∃i,x=.int i∧Q (some i) H1
theorem Hq:∀{us:List Value},fY (ns.map V.int) us→IntsAre us ns:=by
 induction ns with
 | nil=>intro us r;rw[MA]at r;cases r;exact .nil
 | cons n ns ih=>
  intro us r;rw[aP]at r;cases r with
  | cons r1 r2=>obtain⟨t,e⟩:=r1;subst e;exact .cons n t (ih r2)
section
variable {X:Cx} {e:Expr} {te:TE} {lo hi:Option Expr} {tl th:TO} {pos p2:Pos}
theorem FE:PO X none Vk:=by intro pins s σ H Q I h;rw[evalPart_none];exact bH ⟨none,H,I,.none,h⟩
theorem xY (h:PE X e te):PO X (some e) (A0 te):=by intro pins s σ H Q I hw;rw[evalPart_some];refine kT (h pins s σ H _ I hw) fun u s1 ⟨x,H1,I1,r1,q1⟩=>?_;obtain⟨i,rfl,q⟩:=q1;obtain⟨t,rfl⟩:=r1;exact⟨some i,H1,I1,.int i t,q⟩
def B6 (X:Cx) (r:V→Option Int→Option Int→Hp→VK→Prop):Prop:=∀(pins:List (aQ×Obj)) (s:aV) (σ:St) (H:Hp) (x:V) (v vl vu:Value) (lo hi:Option Int) (sl:aQ) (Q:VK),dH X pins σ H s→gK x v→s.heap.IsSliceOf sl vl vu .none→KU vl lo→KU vu hi→r x lo hi H Q→∃T id,typeLookup (.type T) "__getitem__"=pure (some (.builtin id))∧s.TypeIs v T∧bL (cB X.prog X.w) X.A (CN v (.ref sl)) (EP X pins σ Q) X.xe s
def J4 (r:V→Option Int→Option Int→Hp→VK→Prop) (te:TE) (tl th:TO):TE:=fun σ H Q=>te σ H fun x H1=>tl σ H1 fun l H2=>th σ H2 fun u H3=>r x l u H3 Q
theorem wX (hr:B6 X r) (he:PE X e te) (hl:PO X lo tl) (hu:PO X hi th):PE X (.Subscript e (.Slice lo hi none p2) pos) (J4 r te tl th):=by intro pins s σ H Q I h;refine Subscript_ (kT (he pins s σ H _ I h) fun v s1 ⟨x,H1,I1,r1,q1⟩=>?_);refine wpAny_Slice (kT (hl pins s1 σ H1 _ I1 q1) fun vl s2 ⟨l,H2,I2,pl,q2⟩=>kT (hu pins s2 σ H2 _ I2 q2) fun vu s3 ⟨u,H3,I3,pu,q3⟩=>?_);rw[evalPart_none];refine bH ?_;have I4:dH X pins σ H3 {s3 with heap:=s3.heap.push {cls:=.type "slice",data:=.fields #[vl,vu,.none]}}:=I3.kept (t':=s3.toks) fun b ob q=>aF _ q;obtain⟨T,id,hT,ht,hg⟩:=hr pins {s3 with heap:=s3.heap.push {cls:=.type "slice",data:=.fields #[vl,vu,.none]}} σ H3 x v vl vu l u s3.heap.objs.size Q I4 r1 (Heap.IsSliceOf.new ..) pl pu q3;show bL (cB X.prog X.w) X.A (Lr e (.Slice lo hi none p2) v (.ref s3.heap.objs.size)) (EP X pins σ Q) X.xe {s3 with heap:=s3.heap.push {cls:=.type "slice",data:=.fields #[vl,vu,.none]}};exact tail_any (ops:=[.ref s3.heap.objs.size,v]) ht hT hg (by with_unfolding_all rfl)
def CH (xs:List V) (lo hi:Option Int):List V:=(xs.drop (HT.rL xs.length 0 lo)).take (HT.rL xs.length xs.length hi - HT.rL xs.length 0 lo)
theorem MF (xs:List V) (lo hi:Option Int):(CH xs lo hi).length≤xs.length:=by unfold CH;rw[bJ,cW];omega
def E5 (K:aB):V→Option Int→Option Int→Hp→VK→Prop:=fun x lo hi H Q=>∃a xs,x=.ref a∧fE K H a xs∧¬(HT.rL xs.length 0 lo=0∧HT.rL xs.length xs.length hi=xs.length)∧∀p,H p=none→Q (.ref p) (upd H p (.tup (CH xs lo hi)))
theorem Xe:B6 X (E5 X.K):=by
 intro pins s σ H x v vl vu lo hi sl Q I rx hs pl pu h;obtain⟨a,xs,rfl,hx,hw,q⟩:=h;cases rx;obtain⟨eG,r,ht,hz⟩:=I.tuple hx;have hlen:eG.toArray.size=xs.length:=by rw[bN];exact r.length.symm
 refine⟨"tuple",_,PyProof.Rows.slot_tuple_getitem.lookup,ht.typeIs,?_⟩;refine HT.JJ ht hs pl pu (by rw[hlen];exact hw) ?_ (by rw[hlen];exact hz);rw[hlen];refine⟨.ref s.heap.objs.size,_,I.laid (t':=s.toks) (o:=.tup (CH xs lo hi)) (fun b ob q=>aF _ q) (aR _) ?_,rfl,q _ (I.hok.fresh (aR _))⟩;exact⟨bI (MF xs lo hi) hz,_,(r.drop (HT.rL xs.length 0 lo)).take (HT.rL xs.length xs.length hi - HT.rL xs.length 0 lo),PF.new _ _⟩
def Zr (K:aB):R2:=fun x y H Q=>∃a b xs ys,x=.ref a∧y=.ref b∧fE K H a xs∧fE K H b ys∧xs≠[]∧xs.length+ys.length≤aU∧(ys=[]→Q (.ref a) H)∧(ys≠[]→∀p,H p=none→Q (.ref p) (upd H p (.tup (xs++ys))))
theorem fY.nil_iff (r:fY xs us):us=[]↔xs=[]:=by
 cases r with
 | nil=>simp
 | cons _ _=>simp
theorem Uq:YK X (FL .Add) (Zr X.K):=by intro pins s σ H x y v u Q I rx ry h;obtain⟨a,b,xs,ys,rfl,rfl,ha,hb,hx,hz,q1,q2⟩:=h;cases rx;cases ry;obtain⟨eG,r1,p1,_⟩:=I.tuple ha;obtain⟨its2,r2,p2,_⟩:=I.tuple hb;refine HT.Tn p1 p2 (fun z=>hx (r1.nil_iff.mp z)) (fun z=>⟨.ref a,H,I,rfl,q1 (r2.nil_iff.mp z)⟩) (fun z=>?_) (by rw[←r1.length,←r2.length];exact hz);refine⟨.ref s.heap.objs.size,_,I.laid (t':=s.toks) (o:=.tup (xs++ys)) (fun b ob q=>aF _ q) (aR _) ?_,rfl,q2 (fun w=>z (r2.nil_iff.mpr w)) _ (I.hok.fresh (aR _))⟩;exact⟨by rw[aC];exact hz,_,r1.append r2,PF.new _ _⟩
end
def Xx (n:Nat) (i:Int):Option Nat:=if 0≤i then (if i < n then some i.toNat else none)else if -(n:Int)≤i then some (i+n).toNat else none
def Tj {α:Type} (xs:List α) (i:Int):Option α:=(Xx xs.length i).bind fun j=>xs[j]?
theorem Tw (h:Xx n i=some j):seqIndex? i n=some j∧j < n∧ -(n:Int)≤i∧i < n:=by
 unfold Xx at h;by_cases h0:0≤i
 ·rw[if_pos h0]at h;by_cases h1:i < n
  ·rw[if_pos h1]at h;have e:i.toNat=j:=cO h;exact⟨by rw[seqIndex_of h0 h1,e],by omega,by omega,h1⟩
  ·rw[if_neg h1]at h;cases h
 ·rw[if_neg h0]at h;by_cases h1: -(n:Int)≤i
  ·rw[if_pos h1]at h;have e:(i+n).toNat=j:=cO h;exact⟨by rw[seqIndex_neg (by omega) h1,e],by omega,h1,by omega⟩
  ·rw[if_neg h1]at h;cases h
theorem YM (h:Tj xs i=some v):∃j,seqIndex? i xs.length=some j∧xs[j]?=some v∧j < xs.length∧ -(xs.length:Int)≤i∧i < xs.length:=by
 unfold Tj at h;cases e:Xx xs.length i with
 | none=>rw[e]at h;cases h
 | some j=>rw[e]at h;obtain⟨h1,h2,h3,h4⟩:=Tw e;exact⟨j,h1,h,h2,h3,h4⟩
theorem fZ {α:Type} {xs:List α} {j:Nat} {v:α} (h:xs[j]?=some v):Tj xs (j:Int)=some v:=by
 have hj:j < xs.length:=(aS.mp h).1;have e:Xx xs.length (j:Int)=some j:=by unfold Xx;rw[if_pos (by omega),if_pos (by omega)];simp
 unfold Tj;rw[e];exact h
def Tg (b:Expr):Prop:=∀o i,Bp b false o i=operate [o,i] (CN o i)
def B2 (X:Cx) (r:R2):Prop:=∀(value slice:Expr) (pins:List (aQ×Obj)) (s:aV) (σ:St) (H:Hp) (x y:V) (v u:Value) (Q:VK),dH X pins σ H s→gK x v→gK y u→r x y H Q→Bp slice false v u=operate [v,u] (CN v u)→bL (cB X.prog X.w) X.A (Lr value slice v u) (EP X pins σ Q) X.xe s
def Xr (X:Cx) (id:String) (r:V→List V→Hp→VK→Prop):Prop:=∀(pins:List (aQ×Obj)) (s:aV) (σ:St) (H:Hp) (x:V) (xs:List V) (v:Value) (us:List Value) (Q:VK),dH X pins σ H s→gK x v→fY xs us→r x xs H Q→bL (cB X.prog X.w) X.A (call (.builtin id) (v::us)) (EP X pins σ Q) X.xe s
section
variable {X:Cx} {a b:Expr} {ta tb:TE} {pos:Pos}
theorem fL (hr:B2 X r) (ha:PE X a ta) (hb:PE X b tb) (hs:Tg b):PE X (.Subscript a b pos) (Zz r ta tb):=by intro pins s σ H Q I h;exact Subscript_ (Wi ha hb I h fun v u s2 x y H2 I2 rx ry q=>hr a b pins s2 σ H2 x y v u Q I2 rx ry q (hs _ _))
def D9 (K:aB):R2:=fun x y H Q=>∃p xs i v,x=.ref p∧y=.int i∧gX K H p xs∧Tj xs i=some v∧Q v H
def E2 (K:aB):R2:=fun x y H Q=>∃p xs i v,x=.ref p∧y=.int i∧fE K H p xs∧Tj xs i=some v∧Q v H
def E1:R2:=fun x y H Q=>∃z i c,x=.str z∧y=.int i∧z.length≤aU∧Tj z.cps.toList i=some c∧Q (.str ⟨#[c]⟩) H
theorem qW:B2 X (D9 X.K):=by
 intro value slice pins s σ H x y v u Q I rx ry h hs;obtain⟨p,xs,i,z,rfl,rfl,hq,he,q⟩:=h;cases rx;obtain⟨t,rfl⟩:=ry;obtain⟨eG,r,pl,hz⟩:=I.list hq;obtain⟨j,h1,h2,h3,h4,h5⟩:=YM he;obtain⟨w,ew,rw'⟩:=r.get h2;have hl:=r.length;have hn:=RA;have fin:EP X pins σ Q w s:=⟨z,H,I,rw',q⟩;by_cases h0:0≤i
 ·have hj:i.toNat=j:=by rw[seqIndex_of h0 h5]at h1;exact cO h1
  exact item_listR pl.isList h0 (by omega) (by rw[hj];simpa using ew) fin hs
 ·have hj:(i+(eG.toArray.size:Int)).toNat=j:=by rw[seqIndex_neg (by omega) h4]at h1;rw[bN,←hl];exact cO h1
  exact subscriptTail_builtinR (x:=w) pl.isList.typeIs slot_list_getitem.lookup
   (wpAny_getItem_list_neg (Q:=fun r s'=>r=w∧EP X pins σ Q r s') pl.isList (by omega) (by rw[bN]<;>omega) (by omega) (by rw[hj];simpa using ew) ⟨rfl,fin⟩) hs
theorem fQ:B2 X (E2 X.K):=by
 intro value slice pins s σ H x y v u Q I rx ry h hs;obtain⟨p,xs,i,z,rfl,rfl,hq,he,q⟩:=h;cases rx;obtain⟨t,rfl⟩:=ry;obtain⟨eG,r,pl,hz⟩:=I.tuple hq;obtain⟨j,h1,h2,h3,h4,h5⟩:=YM he;obtain⟨w,ew,rw'⟩:=r.get h2;have hl:=r.length;have hn:=RA;have fin:EP X pins σ Q w s:=⟨z,H,I,rw',q⟩;exact subscriptTail_builtinR (x:=w) pl.typeIs slot_tuple_getitem.lookup
  (getItem_tuple (j:=j) (Q:=fun r s'=>r=w∧EP X pins σ Q r s') pl (by omega) (by omega) (by rw[bN,←hl];exact h1) (by simpa using ew) ⟨rfl,fin⟩) hs
theorem Hv:B2 X E1:=by
 intro value slice pins s σ H x y v u Q I rx ry h hs;obtain⟨z,i,c,rfl,rfl,hz,he,q⟩:=h;obtain⟨t,rfl⟩:=rx;obtain⟨t',rfl⟩:=ry;obtain⟨j,h1,h2,h3,h4,h5⟩:=YM he;have hl:z.cps.toList.length=z.length:=by simp[Str.length]
 rw[hl]at h1 h4 h5;have hn:=RA;exact tail_any (typeIs_str s z t) slot_str_getitem.lookup (getItem_str (c:=c) (by have e1:decide (i < -(2 ^ 63:Int))=false:=decide_eq_false (by omega);have e2:decide (i ≥ 2 ^ 63)=false:=decide_eq_false (by omega);rw[e1,e2,Bool.or_false]) (by rw[h1];simpa using h2) ⟨.str ⟨#[c]⟩,H,I.tok _,⟨_,rfl⟩,q⟩) hs
theorem Aj (lo hi:Option Int) (n:Nat):(xH lo hi none n).1=((HT.rL n 0 lo:Nat):Int)∧(xH lo hi none n).2.1=((HT.rL n n hi:Nat):Int)∧(xH lo hi none n).2.2=1:=by
 refine⟨?_,?_,rfl⟩
 ·cases lo with
  | none=>simp[xH,HT.rL]
  | some i=>
   simp only[xH,HT.rL,Pc,show(1:Int) > 0 by decide,if_true];by_cases h:i < 0
   ·simp only[h,if_true]<;>omega
   ·simp only[h,if_false]<;>omega
 ·cases hi with
  | none=>simp[xH,HT.rL]
  | some i=>
   simp only[xH,HT.rL,Pc,show(1:Int) > 0 by decide,if_true];by_cases h:i < 0
   ·simp only[h,if_true]<;>omega
   ·simp only[h,if_false]<;>omega
theorem UV (eG:List Value) (lo hi:Option Int):slicePick eG.toArray lo hi none=((eG.drop (HT.rL eG.length 0 lo)).take (HT.rL eG.length eG.length hi - HT.rL eG.length 0 lo)).toArray:=by obtain⟨h1,h2,h3⟩:=Aj lo hi eG.toArray.size;unfold slicePick;rw[h1,h2,h3];simp only[sliceRange_one,pick_run,bN]<;>rfl
def E4 (K:aB):V→Option Int→Option Int→Hp→VK→Prop:=fun x lo hi H Q=>∃a xs,x=.ref a∧gX K H a xs∧∀p,H p=none→Q (.ref p) (upd H p (.lst (CH xs lo hi)))
theorem Vf:B6 X (E4 X.K):=by intro pins s σ H x v vl vu lo hi sl Q I rx hs pl pu h;obtain⟨a,xs,rfl,hx,q⟩:=h;cases rx;obtain⟨eG,r,ht,hz⟩:=I.list hx;have hlen:=r.length;refine⟨"list",_,slot_list_getitem.lookup,ht.isList.typeIs,?_⟩;refine wpAny_getItem_list_slice ht.isList hs pl pu .none (by simp) ?_ (by rw[bN]<;>omega);rw[UV,←hlen];refine⟨.ref s.heap.objs.size,_,I.laid (t':=s.toks) (o:=.lst (CH xs lo hi)) (fun b ob q=>aF _ q) (aR _) ?_,rfl,q _ (I.hok.fresh (aR _))⟩;exact⟨bI (MF xs lo hi) hz,_,0,(r.drop (HT.rL xs.length 0 lo)).take (HT.rL xs.length xs.length hi - HT.rL xs.length 0 lo),bQ _ rfl⟩
def zN:V→Bool
 | .non=>true
 | .bl _=>true
 | .int _=>true
 | .str _=>true
 | _=>false
def Pr:V→V→Bool
 | .non,.non=>true
 | .bl a,.bl b=>a == b
 | .bl a,.int b=>(if a then 1 else 0) == b
 | .int a,.bl b=>a == (if b then 1 else 0)
 | .int a,.int b=>a == b
 | .str a,.str b=>a == b
 | _,_=>false
theorem Wm (ry:gK y u) (rx:gK x v) (fy:zN y=true) (fx:zN x=true):TZ A s u v (Pr y x):=by
 cases y with
 | non=>
  cases ry;cases x with
  | non=>cases rx;exact SeqAt.EqAt.same _
  | bl b=>cases rx;exact SeqAt.EqAt.none_bool b
  | int b=>obtain⟨t,rfl⟩:=rx;exact SeqAt.EqAt.none_int b t
  | str b=>obtain⟨t,rfl⟩:=rx;exact SeqAt.EqAt.none_str b t
  | _=>exact absurd (show false=true from fx) cH
 | bl a=>
  cases ry;cases x with
  | non=>cases rx;exact SeqAt.EqAt.bool_none a
  | bl b=>cases rx;exact SeqAt.EqAt.bool_bool a b
  | int b=>obtain⟨t,rfl⟩:=rx;exact SeqAt.EqAt.bool_int a b t
  | str b=>obtain⟨t,rfl⟩:=rx;exact SeqAt.EqAt.bool_str a b t
  | _=>exact absurd (show false=true from fx) cH
 | int a=>
  obtain⟨t',rfl⟩:=ry;cases x with
  | non=>cases rx;exact SeqAt.EqAt.int_none a t'
  | bl b=>cases rx;exact SeqAt.EqAt.int_bool a t' b
  | int b=>obtain⟨t,rfl⟩:=rx;exact SeqAt.EqAt.int_int a t' b t
  | str b=>obtain⟨t,rfl⟩:=rx;exact Bm a t' b t
  | _=>exact absurd (show false=true from fx) cH
 | str a=>
  obtain⟨t',rfl⟩:=ry;cases x with
  | non=>cases rx;exact SeqAt.EqAt.str_none a t'
  | bl b=>cases rx;exact SeqAt.EqAt.str_bool a t' b
  | int b=>obtain⟨t,rfl⟩:=rx;exact Bn a t' b t
  | str b=>obtain⟨t,rfl⟩:=rx;exact SeqAt.EqAt.str_str a t' b t
  | _=>exact absurd (show false=true from fx) cH
 | _=>exact absurd (show false=true from fy) cH
def Ge (x:V) (u:Value):Bool:=match u with
 | .none=>Pr .non x
 | .bool b=>Pr (.bl b) x
 | .int i _=>Pr (.int i) x
 | .str z _=>Pr (.str z) x
 | _=>false
theorem YX (r:gK y u) (f:zN y=true):Ge x u=Pr y x:=by
 cases y with
 | non=>cases r;rfl
 | bl b=>cases r;rfl
 | int i=>obtain⟨t,rfl⟩:=r;rfl
 | str z=>obtain⟨t,rfl⟩:=r;rfl
 | _=>exact absurd (show false=true from f) cH
theorem IV:∀{xs:List V} {us:List Value},fY xs us→xs.all zN=true→us.any (Ge x)=xs.any fun y=>Pr y x
 | _,_,.nil,_=>rfl
 | y::xs,u::us,.cons r t,f=>by rw[cQ,aE]at f;rw[zZ,zZ,YX r f.1,IV t f.2]
theorem zS (rx:gK x v) (fx:zN x=true):∀{xs:List V} {us:List Value},fY xs us→xs.all zN=true→∀u∈us,TZ A s u v (Ge x u)
 | _,_,.nil,_=>fun u hu=>by cases hu
 | y::xs,u::us,.cons r t,f=>fun u' hu=>by
  rw[cQ,aE]at f;rcases aT.mp hu with rfl | hu
  ·rw[YX r f.1];exact Wm r rx f.1 fx
  ·exact zS rx fx t f.2 u' hu
def Td (x:V) (xs:List V):Bool:=xs.any fun y=>Pr y x
def G3 (K:aB) (neg:Bool):R2:=fun x y H Q=>∃p xs,y=.ref p∧(gX K H p xs∨fE K H p xs)∧zN x=true∧xs.all zN=true∧Q (.bl (if neg then !Td x xs else Td x xs)) H
theorem WY:YK X (qB .In) (G3 X.K false):=by
 intro pins s σ H x y v u Q I rx ry h;obtain⟨p,xs,rfl,hq,fx,fs,q⟩:=h;cases ry;rcases hq with hq | hq
 ·obtain⟨eG,r,pl,hz⟩:=I.list hq;refine SeqAt.in_listAt (Ge x) pl.isList (fun w hw=>zS rx fx r fs w (by simpa using hw)) ⟨.bl _,H,I,rfl,?_⟩;rw[show eG.toArray.any (Ge x)=eG.any (Ge x)by simp,IV r fs];exact q
 ·obtain⟨eG,r,pl,hz⟩:=I.tuple hq;refine SeqAt.in_tupleAt (Ge x) pl (fun w hw=>zS rx fx r fs w (by simpa using hw)) ⟨.bl _,H,I,rfl,?_⟩;rw[show eG.toArray.any (Ge x)=eG.any (Ge x)by simp,IV r fs];exact q
theorem JZ:YK X (qB .NotIn) (G3 X.K true):=by
 intro pins s σ H x y v u Q I rx ry h;obtain⟨p,xs,rfl,hq,fx,fs,q⟩:=h;cases ry;rcases hq with hq | hq
 ·obtain⟨eG,r,pl,hz⟩:=I.list hq;refine SeqAt.notIn_listAt (Ge x) pl.isList (fun w hw=>zS rx fx r fs w (by simpa using hw)) ⟨.bl _,H,I,rfl,?_⟩;rw[show eG.toArray.any (Ge x)=eG.any (Ge x)by simp,IV r fs];exact q
 ·obtain⟨eG,r,pl,hz⟩:=I.tuple hq;refine SeqAt.notIn_tupleAt (Ge x) pl (fun w hw=>zS rx fx r fs w (by simpa using hw)) ⟨.bl _,H,I,rfl,?_⟩;rw[show eG.toArray.any (Ge x)=eG.any (Ge x)by simp,IV r fs];exact q
theorem cV:CW X (.builtin "len") (fun xs H Q=>∃p ys,xs=[.ref p]∧(gX X.K H p ys∨fE X.K H p ys)∧Q (.int ys.length) H):=by
 intro pins s σ H xs us Q I r h;obtain⟨p,ys,rfl,hq,q⟩:=h;obtain⟨u,rfl,rx⟩:=TD r;cases rx;have hn:=RA;rcases hq with hq | hq
 ·obtain⟨eG,r',pl,hz⟩:=I.list hq;have hlen:=r'.length;exact Calls.call_len_list pl.isList (by simp only[bN]<;>omega) ⟨.int ys.length,H,I.tok _,⟨s.toks+1,by rw[bN,hlen]⟩,q⟩
 ·obtain⟨eG,r',pl,hz⟩:=I.tuple hq;have hlen:=r'.length;exact len_tuple pl (by simp only[bN]<;>omega) ⟨.int ys.length,H,I.tok _,⟨s.toks+1,by rw[bN,hlen]⟩,q⟩
theorem AN:CW X (.builtin "len") (fun xs H Q=>∃z,xs=[.str z]∧z.length≤aU∧Q (.int z.length) H):=by intro pins s σ H xs us Q I r h;obtain⟨z,rfl,hz,q⟩:=h;obtain⟨u,rfl,t,rfl⟩:=TD r;have hn:=RA;exact len_str (by omega) ⟨.int z.length,H,I.tok _,⟨_,rfl⟩,q⟩
theorem FV:CW X (.type "tuple") (fun xs H Q=>∃p ys,xs=[.ref p]∧((gX X.K H p ys∧∀l,H l=none→Q (.ref l) (upd H l (.tup ys)))∨(fE X.K H p ys∧Q (.ref p) H))):=by
 intro pins s σ H xs us Q I r h;obtain⟨p,ys,rfl,h⟩:=h;obtain⟨u,rfl,rx⟩:=TD r;cases rx;rcases h with⟨hq,q⟩ | ⟨hq,q⟩
 ·obtain⟨eG,r',pl,hz⟩:=I.list hq;have hlen:=r'.length;refine call_tuple_list pl.isList (fun h' kp=>?_) (by simp only[bN]<;>omega);have I1:dH X pins σ H {s with heap:=h'}:=I.kept (t':=s.toks) kp;have I2:dH X pins σ (upd H h'.objs.size (.tup ys)) {s with heap:=h'.push {cls:=.type "tuple",data:=.seq eG.toArray}}:=I1.laid (t':=s.toks) (fun b o e=>aF _ e) (aR _) (show lB X.prog X.w _ _ _ (.tup ys)from⟨hz,eG,r',PF.new _ _⟩);exact⟨.ref h'.objs.size,_,I2,rfl,q _ (I1.hok.fresh (aR _))⟩
 ·obtain⟨eG,r',pl,hz⟩:=I.tuple hq;exact call_tuple_same pl ⟨.ref p,H,I,rfl,q⟩
def G1 (K:aB) (T:String) (x:V) (H:Hp):Prop:=match x with
 | .str _=>T="str"
 | .int _=>T="int"
 | .ref p=>(T="list"∧∃xs,gX K H p xs)∨(T="tuple"∧∃o,K.lookup p=some o∧o.cls=.type "tuple"∧o.dict=none)∨(T="dict"∧((∃kvs,H p=some (.dK kvs))∨∃kvs,H p=some (.dT kvs)))∨(T="set"∧∃S n,H p=some (.set S n))
 | _=>False
theorem Sw (I:dH X pins σ H s) (r:gK x v) (ty:G1 X.K T x H):
  s.TypeIs v T∧∀a,v=.ref a→∃ob,s.heap.get? a=some ob∧ob.dict=none:=by
 cases x with
 | str z=>obtain⟨t,rfl⟩:=r;cases(show T="str" from ty);exact⟨typeIs_str s z t,fun _ e=>nomatch e⟩
 | int i=>obtain⟨t,rfl⟩:=r;cases(show T="int" from ty);exact⟨typeIs_int s i t,fun _ e=>nomatch e⟩
 | ref p=>
  cases r;rcases ty with⟨rfl,xs,hq⟩ | ⟨rfl,o,hk,hc,hd⟩ | ⟨rfl,hk⟩ | ⟨rfl,S,n,hk⟩
  ·obtain⟨eG,_,pl,_⟩:=I.list hq;refine⟨pl.isList.typeIs,fun a e=>?_⟩;cases e;obtain⟨o,n,e,c,hd,_⟩:=pl;exact⟨o,e,hd⟩
  ·refine⟨⟨o,I.kIn p o hk,hc⟩,fun a e=>?_⟩;cases e;exact⟨o,I.kIn _ o hk,hd⟩
  ·have z:∃o,s.heap.get? p=some o∧o.ExactDict:=by
    rcases hk with⟨kvs,hk⟩ | ⟨kvs,hk⟩
    ·obtain⟨_,_,_,_,o,_,_,e,ex,_⟩:=I.hok p _ hk;exact⟨o,e,ex⟩
    ·obtain⟨_,_,_,_,o,_,_,e,ex,_⟩:=I.hok p _ hk;exact⟨o,e,ex⟩
   obtain⟨o,e,ex⟩:=z;refine⟨⟨o,e,ex.1⟩,fun a e2=>?_⟩;cases e2;exact⟨o,e,ex.2.1⟩
  ·obtain⟨o,_,_,_,e,ex,_⟩:=I.hok p _ hk;refine⟨⟨o,e,ex.1⟩,fun a e2=>?_⟩;cases e2;exact⟨o,e,ex.2.1⟩
 | _=>exact eM ty
def F1 (K:aB) (T:String) (r:V→List V→Hp→VK→Prop) (to:TE):TE:=fun σ H Q=>to σ H fun x H1=>G1 K T x H1∧r x [] H1 Q
def J1 (K:aB) (T:String) (r:V→List V→Hp→VK→Prop) (to:TE) (t:TA):TE:=fun σ H Q=>to σ H fun x H1=>G1 K T x H1∧t σ H1 fun xs H2=>r x xs H2 Q
variable {o e:Expr} {es:List Expr} {to:TE} {t:TA} {name:Str} {apos cpos:Pos} {T id:String} {r:V→List V→Hp→VK→Prop}
theorem SE (pa:PlainAttrs T) (slot:Slot T name id) (hty:typeOf (.builtin id)=pure (.type "method_descriptor")) (hm:Xr X id r) (ho:PE X o to)
  (hbase:CS o name X.env (gZ o X.env)=gZ o X.env:=by rfl) (hline:(apos.endLine == cpos.line)=true:=by rfl):PE X (.Call (.Attribute o name apos) [] [] cpos) (F1 X.K T r to):=by
 intro pins s σ H Q I h;refine wpAny_Call_method0_late hbase hline (kT (ho pins s σ H _ I h) fun v s1 ⟨x,H1,I1,r1,ty,q1⟩=>?_);obtain⟨h1,h2⟩:=Sw I1 r1 ty;exact⟨T,id,pa,slot,hty,h1,h2,tL rfl (PySem.evalArgs_none (hm pins s1 σ H1 x [] v [] Q I1 r1 .nil q1))⟩
theorem nG (pa:PlainAttrs T) (slot:Slot T name id) (hty:typeOf (.builtin id)=pure (.type "method_descriptor")) (hm:Xr X id r) (ho:PE X o to) (ha:PA X (e::es) t)
  (hbase:CS o name X.env (gZ o X.env)=gZ o X.env:=by rfl)
  (hfew:((jD cpos (bO (e::es) X.env)).all (fun x=> !x.1) && (FK cpos (uN [] X.env)).all (fun x=>x.1.isSome) && decide ((e::es).length+([]:List Keyword).length+(if ([]:List Keyword).isEmpty then 0 else 1) < 30))=true:=by rfl)
  (hline:(apos.endLine == cpos.line)=true:=by rfl) (hs:bO (e::es) X.env=(false,gZ e X.env)::bO es X.env:=by rfl) (hplain:(jD cpos (bO es X.env)).any (·.1)=false:=by rfl):
  PE X (.Call (.Attribute o name apos) (e::es) [] cpos) (J1 X.K T r to t):=by
 intro pins s σ H Q I h;refine wpAny_Call_method_late hbase hfew hline rfl (kT (ho pins s σ H _ I h) fun v s1 ⟨x,H1,I1,r1,ty,q1⟩=>?_);obtain⟨h1,h2⟩:=Sw I1 r1 ty;refine⟨T,id,pa,slot,hty,h1,h2,?_⟩;have hA:=ha cpos pins s1 σ H1 _ I1 q1;rw[hs]at hA ⊢;refine tL (by show(false || (jD cpos (bO es X.env)).any (·.1))=false;rw[hplain]<;>rfl) (FI ?_);exact kT hA fun us s2 ⟨vs,H2,I2,r2,q2⟩=>hm pins s2 σ H2 x vs v us Q I2 r1 r2 q2
end
def C3 (X:Cx) (id:String) (r:V→List V→Hp→VK→Prop):Prop:=∀(pins:List (aQ×Obj)) (s:aV) (σ:St) (H:Hp) (x:V) (xs:List V) (v:Value) (us:List Value) (Q:VK),dH X pins σ H s→gK x v→fY xs us→r x xs H Q→bL (cB X.prog X.w) X.A (call (.builtin id) (v::us)) (EP X pins σ Q) X.xe s
theorem fY.one:∀{x:V} {us:List Value},fY [x] us→∃u,us=[u]∧gK x u
 | _,_,.cons r .nil=>⟨_,rfl,r⟩
theorem fY.zero:∀{us:List Value},fY [] us→us=[]
 | _,.nil=>rfl
theorem fY.dropLast (h:fY xs us):fY xs.dropLast us.dropLast:=by
 induction h with
 | nil=>exact .nil
 | cons r t ih=>
  cases t with
  | nil=>exact .nil
  | cons q t'=>exact .cons r ih
theorem Hk (l:List α):l.eraseIdx (l.length - 1)=l.dropLast:=by
 induction l with
 | nil=>rfl
 | cons a r ih=>
  cases r with
  | nil=>rfl
  | cons b r=>
   have e:(a::b::r).length - 1=((b::r).length - 1)+1:=by have h1:(a::b::r).length=r.length+2:=rfl;have h2:(b::r).length=r.length+1:=rfl;omega
   rw[e,List.eraseIdx_cons_succ,ih];all_goals rfl
section
variable {X:Cx} {pins:List (aQ×Obj)} {σ:St} {H:Hp} {s:aV} {l b:aQ} {xs ys zs:List V}
theorem dH.lset {eG its':List Value} {n:Nat} {f:Array Value→Array Value} {t':Nat} (I:dH X pins σ H s) (hH:H l=some (.lst xs))
  (e:s.heap.get? l=some {cls:=.type "list",data:=.seq eG.toArray n}) (hf:f eG.toArray=its'.toArray) (hv:fY ys its') (hz:ys.length≤aU):
  dH X pins σ (upd H l (.lst ys)) {s with heap:=s.heap.update l (Obj.mapSeq f),toks:=t'}:=by
 have q:=PySem.IsL.update e f;rw[hf]at q;refine I.write (x:=l) (e:=l) (by rw[hH];exact trivial) (.inl rfl) (fun b' u hb hu=>(dY s.heap (Obj.mapSeq f) (uM hb)).trans hu) ⟨_,q⟩ ?_;exact⟨hz,its',_,hv,q⟩
theorem dH.lnew (I:dH X pins σ H s) (hv:fY ys eG) (hz:ys.length≤aU):dH X pins σ (upd H s.heap.objs.size (.lst ys)) {s with heap:=s.heap.push {cls:=.type "list",data:=.seq eG.toArray},toks:=t'}:=I.laid (fun _ _ q=>aF _ q) (aR _) ⟨hz,eG,0,hv,bQ _ rfl⟩
theorem dH.fresh (I:dH X pins σ H s):H s.heap.objs.size=none:=I.hok.fresh (aR _)
theorem dH.lstM (I:dH X pins σ H s) (hH:H l=some (.lst xs)):xs.length≤aU∧∃(eG:List Value) (n:Nat),fY xs eG∧xs.length=eG.length∧s.heap.get? l=some {cls:=.type "list",data:=.seq eG.toArray n}:=by obtain⟨z,eG,n,r,e⟩:=I.hok l _ hH;exact⟨z,eG,n,r,r.length,e⟩
theorem Rn (h:n≤aU):wE n=false:=by unfold wE;exact decide_eq_false (by omega)
end
section
variable {X:Cx}
def Va:V→List V→Hp→VK→Prop:=fun x vs H Q=>∃l xs y,x=.ref l∧vs=[y]∧H l=some (.lst xs)∧xs.length < aU∧Q .non (upd H l (.lst (xs++[y])))
theorem gF:C3 X "list.append" Va:=by intro pins s σ H x vs v us Q I rx rv h;obtain⟨l,xs,y,rfl,rfl,hH,hz,q⟩:=h;cases rx;obtain⟨u,rfl,ru⟩:=rv.one;obtain⟨z,eG,n,r,hl,e⟩:=I.lstM hH;refine Gm bR ⟨_,e,rfl⟩ F.entry_list_append (F.args_list_append_2 _ _) (PySem.list_append l eG.toArray n u (by rw[bN];omega)) ⟨e,?_⟩;refine⟨.non,_,I.lset (its':=eG++[u]) hH e (by simp) (r.append (.cons ru .nil)) ?_,rfl,q⟩;rw[aC,cR];omega
def Vb:V→List V→Hp→VK→Prop:=fun x vs H Q=>∃l b xs zs,x=.ref l∧vs=[.ref b]∧H l=some (.lst xs)∧H b=some (.lst zs)∧xs.length+zs.length≤aU∧Q .non (upd H l (.lst (xs++zs)))
theorem zT:C3 X "list.extend" Vb:=by
 intro pins s σ H x vs v us Q I rx rv h;obtain⟨l,b,xs,zs,rfl,rfl,hH,hB,hz,q⟩:=h;cases rx;obtain⟨u,rfl,ru⟩:=rv.one;cases ru;obtain⟨z,eG,n,r,hl,e⟩:=I.lstM hH;obtain⟨z2,its2,n2,r2,hl2,e2⟩:=I.lstM hB;have hsz:eG.toArray.size+its2.toArray.size≤aU:=by rw[bN,bN];omega
 have hlong:¬(!eG.toArray.isEmpty && wE (eG.toArray.size+its2.toArray.size))=true:=by rw[Rn hsz,Bool.and_false];exact cH
 refine Gm kC ⟨_,e,rfl⟩ F.entry_list_extend (F.args_list_extend_2 _ _)
  (AutoSeq1.list_extend_list_list_0 l eG.toArray n b its2.toArray n2 hlong (by rw[bN];omega) (by omega)) ⟨e,e2,?_⟩
 refine⟨.non,_,I.lset (its':=eG++its2) hH e (by simp) (r.append r2) ?_,rfl,q⟩;rw[aC];omega
def E3:V→List V→Hp→VK→Prop:=fun x vs H Q=>∃l xs y,x=.ref l∧vs=[]∧H l=some (.lst xs)∧xs[xs.length - 1]?=some y∧Q y (upd H l (.lst xs.dropLast))
theorem Rk:C3 X "list.pop" E3:=by
 intro pins s σ H x vs v us Q I rx rv h;obtain⟨l,xs,y,rfl,rfl,hH,hy,q⟩:=h;cases rx;have hus:=rv.zero;subst hus;obtain⟨z,eG,n,r,hl,e⟩:=I.lstM hH;obtain⟨u,hu,ru⟩:=r.get hy;have hy':eG.toArray[eG.toArray.size - 1]?=some u:=by show eG.toArray[eG.length - 1]?=some u;rw[←Array.getElem?_toList,←hl];exact hu
 refine Gm GS ⟨_,e,rfl⟩ F.entry_list_pop (F.args_list_pop_1 _) (MeetsSeq.list_pop_last l eG.toArray n u hy' (by rw[bN];omega)) ⟨e,?_⟩;refine⟨y,_,I.lset (its':=eG.dropLast) hH e ?_ r.dropLast ?_,ru,q⟩
 ·show eG.toArray.eraseIdxIfInBounds (eG.toArray.size - 1)=eG.dropLast.toArray;rw[bN,List.eraseIdxIfInBounds_toArray,Hk]
 ·rw[List.length_dropLast];omega
def D8:R2:=fun x y H Q=>∃l b xs zs,x=.ref l∧y=.ref b∧H l=some (.lst xs)∧H b=some (.lst zs)∧xs.length+zs.length≤aU∧∀p,H p=none→Q (.ref p) (upd H p (.lst (xs++zs)))
theorem uE:YK X (FL .Add) D8:=by
 intro pins s σ H x y v u Q I rx ry h;obtain⟨l,b,xs,zs,rfl,rfl,hH,hB,hz,q⟩:=h;cases rx;cases ry;obtain⟨z,eG,n,r,hl,e⟩:=I.lstM hH;obtain⟨z2,its2,n2,r2,hl2,e2⟩:=I.lstM hB;refine PySem.P.add_list e e2 ?_ (by rw[bN,bN];omega);have ea:eG.toArray++its2.toArray=(eG++its2).toArray:=by simp
 rw[ea];exact⟨.ref _,_,I.lnew (t':=s.toks) (r.append r2) (by rw[aC];omega),rfl,q _ I.fresh⟩
end
section
variable {X:Cx}
theorem Kk {ys:List V} (f:ys.all zN=true) {j:Nat} {z:V} (h:ys[j]?=some z):zN z=true:=cD.mp f z (bA h)
end
mutual
inductive Dp (K:aB) (H:Hp):V→yK→Prop
 | non:Dp K H .non .none
 | bl (b:Bool):Dp K H (.bl b) (.bool b)
 | int (i:Int):Dp K H (.int i) (.int i)
 | str (x:Str):Dp K H (.str x) (.str x)
 | lst {a:aQ} {xs:List V} {ds:List yK}:gX K H a xs→IR K H xs ds→Dp K H (.ref a) (.list ds)
 | tup {a:aQ} {xs:List V} {ds:List yK}:fE K H a xs→IR K H xs ds→Dp K H (.ref a) (.tuple ds)
inductive IR (K:aB) (H:Hp):List V→List yK→Prop
 | nil:IR K H [] []
 | cons {v:V} {vs:List V} {d:yK} {ds:List yK}:Dp K H v d→IR K H vs ds→IR K H (v::vs) (d::ds)
end
section
variable {X:Cx} {pins:List (aQ×Obj)} {σ:St} {H:Hp} {s:aV}
mutual
theorem Dp.reads (I:dH X pins σ H s):∀(d:yK) (v:V) (u:Value),Dp X.K H v d→gK v u→∃as,Reads s.heap u d as
 | .none,_,_,h,r=>by cases h;cases r;exact⟨_,Reads.none⟩
 | .bool b,_,_,h,r=>by cases h;cases r;exact⟨_,Reads.bool b⟩
 | .int i,_,_,h,r=>by cases h;obtain⟨t,rfl⟩:=r;exact⟨_,Reads.int i t⟩
 | .str x,_,_,h,r=>by cases h;obtain⟨t,rfl⟩:=r;exact⟨_,Reads.str x t⟩
 | .list ds,_,_,h,r=>by
  cases h with
  | lst hs ha=>cases r;obtain⟨eG,rv,⟨o,n,ho,hc,_,hd⟩,_⟩:=I.list hs;obtain⟨as,hr⟩:=Dp.readsAll I ds _ eG ha rv;exact⟨_,Reads.list ho hc hd hr⟩
 | .tuple ds,_,_,h,r=>by
  cases h with
  | tup hs ha=>cases r;obtain⟨eG,rv,⟨o,ho,hc,n,hd⟩,_⟩:=I.tuple hs;obtain⟨as,hr⟩:=Dp.readsAll I ds _ eG ha rv;exact⟨_,Reads.tuple ho hc hd hr⟩
 | .dict _,_,_,h,_=>by cases h
theorem Dp.readsAll (I:dH X pins σ H s):∀(ds:List yK) (vs:List V) (us:List Value),IR X.K H vs ds→fY vs us→∃as,ReadsAll s.heap us ds as
 | [],_,_,h,r=>by cases h;cases r;exact⟨_,ReadsAll.nil⟩
 | d::ds,_,_,h,r=>by
  cases h with
  | cons h1 h2=>
   cases r with
   | cons r1 r2=>obtain⟨as,q1⟩:=Dp.reads I d _ _ h1 r1;obtain⟨bs,q2⟩:=Dp.readsAll I ds _ _ h2 r2;exact⟨_,ReadsAll.cons q1 q2⟩
end
end
section
variable {X:Cx}
def Wz (K:aB):R2:=fun x y H Q=>∃d e,Dp K H x d∧Dp K H y e∧SeqAt.shaped d=true∧SeqAt.shaped e=true∧Q (.bl (kG d e)) H
theorem ZW (hu:X.A.units+64 < Pl):YK X (qB .Eq) (Wz X.K):=by intro pins s σ H x y v u Q I rx ry h;obtain⟨d,e,hd,he,sd,se,q⟩:=h;obtain⟨as,r1⟩:=Dp.reads I d x v hd rx;obtain⟨bs,r2⟩:=Dp.reads I e y u he ry;exact SeqAt.compareEq_shaped r1 r2 sd se hu ⟨.bl _,H,I,rfl,q⟩
end
abbrev Pt (h:gC) (c:aQ) (v:Option Value):Prop:=h.IsCell c v
def E7 (scope sc:zB):zB:={scope with names:=scope.names.map fun(n,k)=>if (k == .free && sc.kind == .function && sc.names.lookup n == some .cell)then (n,.cell)else (n,k)}
def jL (cells:List (Str×aQ)):List (Str×mZ)→List (Str×aQ)→List (Str×aQ)
 | [],acc=>acc
 | (n,k)::r,acc=>if k == .free then jL cells r ((n,(cells.lookup n).getD 0)::acc)else jL cells r acc
theorem IZ (env:Env) (f:Str×mZ→List (Str×aQ)→Sem (ForInStep (List (Str×aQ))))
  (hf:∀n k c,f (n,k) c=if k == .free then (do let a←cellOf env n;pure (.yield ((n,a)::c)))else pure (.yield c)):
  ∀(names:List (Str×mZ)) (acc:List (Str×aQ)),(∀y∈names,y.2=.free→∃c,env.cells.lookup y.1=some c)→forIn names acc f=pure (jL env.cells names acc)
 | [],acc,_=>by rw[VP];rfl
 | (n,k)::r,acc,h=>by
  rw[TM,hf];have ih:=fun acc=>IZ env f hf r acc fun y hy=>h y (aL _ hy);unfold jL;by_cases hk:(k == tR)=true
  ·  rw[if_pos hk,if_pos hk];obtain⟨c,hc⟩:=h (n,k) aM (by simpa using hk);have e:cellOf env n=pure c:=by unfold cellOf;rw[hc]
     rw[e];have e2:(env.cells.lookup n).getD 0=c:=by rw[hc];rfl
     rw[e2];exact ih _
  ·  rw[if_neg hk,if_neg hk];exact ih _
theorem He (h:∀y∈scope.names,y.2=.free→∃c,env.cells.lookup y.1=some c):closureFor scope env=pure (jL env.cells scope.names []):=by simp only[closureFor];rw[IZ env _ (fun n k c=>rfl) scope.names [] h];rfl
theorem HN:∀{l:List (Str×α)} {n:Str} {c:α},(n,c)∈l→∃c',l.lookup n=some c'
 | (k,v)::r,n,c,h=>by
  rw[jQ];cases hb:n == k with
  | true=>exact⟨_,rfl⟩
  | false=>
     rcases aT.mp h with e | h
     ·cases e;simp at hb
     ·exact HN h
theorem xR:∀{names:List (Str×mZ)} {acc:List (Str×aQ)} {n:Str} {c:aQ},(n,c)∈jL cells names acc→(n,c)∈acc∨((n,.free)∈names∧c=(cells.lookup n).getD 0)
 | [],_,_,_,h=>.inl h
 | (m,k)::r,acc,n,c,h=>by
  unfold jL at h;split at h
  ·  rename_i hk
     have hk:k=.free:=by simpa using hk
     rcases xR h with h | ⟨h1,h2⟩
     ·rcases aT.mp h with e | h
      ·cases e;exact .inr ⟨hk▸aM,rfl⟩
      ·exact .inl h
     ·exact .inr ⟨aL _ h1,h2⟩
  ·  rcases xR h with h | ⟨h1,h2⟩
     ·exact .inl h
     ·exact .inr ⟨aL _ h1,h2⟩
theorem DF:∀{names:List (Str×mZ)} {acc:List (Str×aQ)} {p:Str×aQ},p∈acc→p∈jL cells names acc
 | [],_,_,h=>h
 | (m,k)::r,acc,p,h=>by
  unfold jL;split
  ·  exact DF (aL _ h)
  ·  exact DF h
theorem DG:∀{names:List (Str×mZ)} {acc:List (Str×aQ)} {n:Str},(n,.free)∈names→(n,(cells.lookup n).getD 0)∈jL cells names acc
 | (m,k)::r,acc,n,h=>by
  unfold jL;rcases aT.mp h with e | h
  ·  cases e;exact DF aM
  ·  split
     ·exact DG h
     ·exact DG h
theorem zK:∀{names:List (Str×mZ)} {h:gC} {acc:List (Str×aQ)} {x:Str} {c:aQ},(x,c)∈iB h.objs.size names acc→
  (x,c)∈acc∨((x,.cell)∈names∧h.objs.size≤c∧Pt (AB h names) c none)
 | [],_,_,_,_,h=>.inl h
 | (n,k)::r,h,acc,x,c,hm=>by
  unfold iB at hm;unfold AB;split at hm
  ·  rename_i hk
     rw[if_pos hk];have hk:k=.cell:=by simpa using hk
     rw[←cF h {cls:=.type "cell",data:=.cell none}]at hm;rcases zK hm with hm | ⟨h1,h2,h3⟩
     ·rcases aT.mp hm with e | hm
      ·cases e;exact .inr ⟨hk▸aM,aR _,_,IG r _ _ _ (bQ _ rfl),rfl⟩
      ·exact .inl hm
     ·rw[cF]at h2;exact .inr ⟨aL _ h1,AA h2,h3⟩
  ·  rename_i hk
     rw[if_neg hk];rcases zK hm with hm | ⟨h1,h2,h3⟩
     ·exact .inl hm
     ·exact .inr ⟨aL _ h1,h2,h3⟩
theorem EL:∀{names:List (Str×mZ)} {n:Nat} {acc:List (Str×aQ)} {p:Str×aQ},p∈acc→p∈iB n names acc
 | [],_,_,_,h=>h
 | (m,k)::r,n,acc,p,h=>by
  unfold iB;split
  ·  exact EL (aL _ h)
  ·  exact EL h
theorem KY:∀{names:List (Str×mZ)} {n:Nat} {acc:List (Str×aQ)} {x:Str},(x,.cell)∈names→∃c,(x,c)∈iB n names acc
 | (m,k)::r,n,acc,x,h=>by
  unfold iB;rcases aT.mp h with e | h
  ·  cases e;exact⟨n,EL aM⟩
  ·  split
     ·exact KY h
     ·exact KY h
theorem KZ:∀{names:List (Str×mZ)} {h:gC} {acc:List (Str×aQ)} {x y:Str} {c:aQ},(∀p∈acc,p.2 < h.objs.size)→(∀x y c,(x,c)∈acc→(y,c)∈acc→x=y)→
  (x,c)∈iB h.objs.size names acc→(y,c)∈iB h.objs.size names acc→x=y
 | [],_,_,_,_,_,_,hi,h1,h2=>hi _ _ _ h1 h2
 | (n,k)::r,h,acc,x,y,c,hl,hi,h1,h2=>by
  unfold iB at h1 h2;split at h1
  ·  rename_i hk
     rw[if_pos hk]at h2;rw[←cF h {cls:=.type "cell",data:=.cell none}]at h1 h2;refine KZ (h:=h.push _) (fun p hp=>?_) (fun x y c a b=>?_) h1 h2
     ·rw[cF];rcases aT.mp hp with rfl | hp
      ·exact lE _
      ·exact NE (hl p hp)
     ·rcases aT.mp a with e | a<;>rcases aT.mp b with e' | b
      ·cases e;cases e';rfl
      ·cases e;exact absurd (hl _ b) (fN _)
      ·cases e';exact absurd (hl _ a) (fN _)
      ·exact hi _ _ _ a b
  ·  rename_i hk
     rw[if_neg hk]at h2;exact KZ hl hi h1 h2
theorem Do {M:Model} {A:jT} {E:Value→aV→Prop} {s:aV} {scope:zB} {globals:aQ} {closure:List (Str×aQ)} {qual:Str} {func:Option aQ} {code:Value} {around:Env} {builtins:aQ} {Q:Env→aV→Prop}
  (h:Q (newEnv scope s.heap.objs.size globals (iB (s.heap.objs.size+1) scope.names closure) qual func code (some around) builtins) {s with heap:=AB (s.heap.push {cls:=.type "dict",data:=.dict #[]}) scope.names}):
  bL M A (newFunctionEnv scope globals closure [] qual func code (some around) builtins) Q E s:=by
 simp only[newFunctionEnv,Jn,if_true];refine aH (wpAny_alloc ?_);refine aH (wpAny_layCells _ (fun n k c=>rfl) scope.names closure _ _ ?_);rw[show({s with heap:=s.heap.push {cls:=.type "dict",data:=.dict #[]}}:aV).heap.objs.size=s.heap.objs.size+1 from cF ..];rw[VP];exact aH (bH (bH h))
theorem DN {sc:zB}:∀{names:List (Str×mZ)} {x:Str} {k:mZ},
  (names.map fun(n,k)=>if (k == tR && sc.kind == .function && sc.names.lookup n == some .cell)then (n,TN)else (n,k)).lookup x=some k→
  ∃k',names.lookup x=some k'∧(k=k'∨(k'=.free∧k=.cell))
 | [],_,_,h=>by simp at h
 | (n,k₀)::r,x,k,h=>by
  have ih:=@DN sc r x k;have h':sL x ((if (k₀ == tR && sc.kind == .function && sc.names.lookup n == some .cell)=true then (n,TN)else (n,k₀))::(r.map _))=some k:=h;cases hx:x == n with
  | true=>
     simp only[jQ,hx];by_cases hc:(k₀ == tR && sc.kind == .function && sc.names.lookup n == some .cell)=true
     ·rw[if_pos hc]at h';simp only[jQ,hx]at h';cases h';simp only[aE,beq_iff_eq]at hc;exact⟨k₀,rfl,.inr ⟨hc.1.1,rfl⟩⟩
     ·rw[if_neg hc]at h';simp only[jQ,hx]at h';cases h';exact⟨_,rfl,.inl rfl⟩
  | false=>
     simp only[jQ,hx];by_cases hc:(k₀ == tR && sc.kind == .function && sc.names.lookup n == some .cell)=true
     ·rw[if_pos hc]at h';simp only[jQ,hx]at h';exact ih h'
     ·rw[if_neg hc]at h';simp only[jQ,hx]at h';exact ih h'
structure Bz (N:List Str) (sc scope:zB) (own:List (Str×Nat)):Prop where
 kind:scope.kind=.function
 uniq:∀y∈scope.names,scope.names.lookup y.1=some y.2
 ix:∀p∈own,N[p.2]?=some p.1
 free:∀y∈scope.names,y.2=.free→sc.names.lookup y.1=some .cell∨sc.names.lookup y.1=some .free
 own:∀y∈scope.names,y.2=.local∨y.2=.cell→y.1∈own.map (·.1)∨y.1∉N
def nD (σ:St):List Nat→St
 | []=>σ
 | v::vs=>(nD σ vs).set v none
theorem EF (σ:St):∀vs:List Nat,(nD σ vs).length=σ.length
 | []=>rfl
 | v::vs=>by unfold nD;rw[List.length_set,EF σ vs]
theorem LY:∀{vs:List Nat},(nD σ vs)[i]?=some (some x)→σ[i]?=some (some x)∧i∉vs
 | [],h=>⟨h,by simp⟩
 | v::vs,h=>by
  unfold nD at h;by_cases hi:v=i
  ·subst hi;by_cases hv:v < (nD σ vs).length
   ·rw[oJ hv]at h;cases h
   ·rw[EG (by simpa using hv)]at h;cases h
  ·rw[vR hi]at h;obtain⟨h1,h2⟩:=LY h;exact⟨h1,by simp only[aT,not_or];exact⟨fun e=>hi e.symm,h2⟩⟩
abbrev Cx.blk (X:Cx) (s:aV) (H:Hp) (scope:zB) (cenv:Env) (fp:List aQ):Cx:={X with s_0:=s,H_0:=H,env:=cenv,outer:=X.stack,ex:=fp,fn:=fun x=>scope.names.lookup x == some .cell,pn:=[],xe:=fun _ _=>False}
section
variable {X:Cx} {pins:List (aQ×Obj)} {σ:St} {H:Hp} {s:aV}
theorem Cf {scope:zB} {own:List (Str×Nat)} {fp:List aQ} (I:dH X pins σ H s) (ok:Bz X.N X.env.scope scope own) (hN:X.N.Nodup) (hfp:∀b∈fp,DA X pins H b∧b < s.heap.objs.size):
  dH (X.blk s H scope (rB scope (iB (s.heap.objs.size+1) scope.names (jL X.env.cells scope.names [])) s.heap.objs.size X.env) fp) [] (nD σ (own.map (·.2))) H {s with heap:=AB (s.heap.push {cls:=.type "dict",data:=.dict #[]}) scope.names}:=by
 have hfree:∀y∈scope.names,y.2=.free→∃c,X.env.cells.lookup y.1=some c:=fun y hy e=>by
  rcases ok.free y hy e with k | k
  ·exact I.ok.has _ (.inl k)
  ·exact I.ok.has _ (.inr k)
 generalize hcenv:rB scope (iB (s.heap.objs.size+1) scope.names (jL X.env.cells scope.names [])) s.heap.objs.size X.env=cenv;have kp:∀b o,s.heap.get? b=some o→(AB (s.heap.push {cls:=.type "dict",data:=.dict #[]}) scope.names).get? b=some o:=fun b o e=>IG _ _ _ _ (aF _ e);have hL:cenv.locals=s.heap.objs.size:=by rw[←hcenv];rfl
 have hcl:cenv.cells=iB (s.heap.objs.size+1) scope.names (jL X.env.cells scope.names []):=by rw[←hcenv];rfl
 have hsc:cenv.scope=E7 scope X.env.scope:=by rw[←hcenv];rfl
 rw[←cF s.heap {cls:=.type "dict",data:=.dict #[]}]at hcl;have cm:∀{y c},(y,c)∈jL X.env.cells scope.names []→X.env.cells.lookup y=some c∧c < s.heap.objs.size:=fun {y c} hm=>by
  rcases xR hm with hm | ⟨h1,rfl⟩
  ·cases hm
  ·obtain⟨c,hc⟩:=hfree _ h1 rfl;rw[hc];obtain⟨w,z⟩:=I.cell _ _ hc;exact⟨rfl,z.lt⟩
 have mem:∀{y c},cenv.cells.lookup y=some c→(X.env.cells.lookup y=some c∧c < s.heap.objs.size)∨(s.heap.objs.size+1≤c∧Pt (AB (s.heap.push {cls:=.type "dict",data:=.dict #[]}) scope.names) c none):=fun {y c} e=>by
  rw[hcl]at e;rcases zK (dP e)with hm | ⟨_,h2,h3⟩
  ·exact .inl (cm hm)
  ·rw[cF]at h2;exact .inr ⟨h2,h3⟩
 have look:∀{y},scope.names.lookup y=some .free→∃c,cenv.cells.lookup y=some c∧X.env.cells.lookup y=some c:=fun {y} hl=>by
  have hy:(y,tR)∈scope.names:=dP hl;obtain⟨c',e'⟩:=HN (EL (names:=scope.names) (n:=(s.heap.push {cls:=.type "dict",data:=.dict #[]}).objs.size) (DG (cells:=X.env.cells) (acc:=[]) hy));rw[←hcl]at e';refine⟨c',e',?_⟩;rw[hcl]at e';rcases zK (dP e')with hm | ⟨h1,_,_⟩
  ·exact(cm hm).1
  ·have:=ok.uniq _ h1;rw[hl]at this;cases this
 have okB:(X.blk s H scope cenv fp).Ok:=by
  refine⟨I.ok.mod,by show cenv.scope.kind=_;rw[hsc];exact ok.kind,by show cenv.globals=_;rw[←hcenv];exact I.ok.glob,by show cenv.builtins=_;rw[←hcenv];exact I.ok.blt,by show s.heap.objs.size≤cenv.locals;rw[hL];exact aR _,fun y z c e1 e2=>?_,fun y hy=>?_,fun y c z e=>?_,I.ok.hd,I.ok.frames,.inl rfl,fun b hb=>⟨?_,fun y c e z=>?_⟩,I.bs,bI I.ok.bsz I.sz,fun b o e hb=>?_,fun b hb z=>?_,I.stack,I.stkFree⟩
  ·have e1:cenv.cells.lookup y=some c:=e1;have e2:cenv.cells.lookup z=some c:=e2;rw[hcl]at e1 e2;refine KZ (fun p hp=>?_) (fun y z c a b=>I.ok.inj y z c (cm a).1 (cm b).1) (dP e1) (dP e2);rw[cF];exact NE (cm (y:=p.1) (c:=p.2) hp).2
  ·show ∃c,cenv.cells.lookup y=some c;have key:∀k,cenv.kindOf y=some k→(k=.cell∨k=.free)→∃c,cenv.cells.lookup y=some c:=fun k hk hk'=>by
    unfold Env.kindOf at hk;rw[hsc]at hk;obtain⟨k',e,r⟩:=DN hk;have:k'=.cell∨k'=.free:=by
     rcases r with rfl | ⟨rfl,_⟩
     ·exact hk'
     ·exact .inr rfl
    rcases this with rfl | rfl
    ·obtain⟨c,hm⟩:=KY (n:=(s.heap.push {cls:=.type "dict",data:=.dict #[]}).objs.size) (acc:=jL X.env.cells scope.names []) (dP e);obtain⟨c',e'⟩:=HN hm;exact⟨c',by rw[hcl];exact e'⟩
    ·obtain⟨c,h1,_⟩:=look e;exact⟨c,h1⟩
   rcases hy with hy | hy
   ·exact key _ hy (.inl rfl)
   ·exact key _ hy (.inr rfl)
  ·have z:(scope.names.lookup y == some TN)=true:=z;have z:scope.names.lookup y=some .cell:=by simpa using z
   have e:cenv.cells.lookup y=some c:=e;rw[hcl]at e;rcases zK (dP e)with hm | ⟨_,h2,_⟩
   ·rcases xR hm with hm | ⟨h1,_⟩
    ·cases hm
    ·have q:=ok.uniq _ h1;rw[z]at q;cases q
   ·rw[cF]at h2;exact AA h2
  ·show b≠cenv.locals;rw[hL];exact eI (hfp b hb).2
  ·have e:cenv.cells.lookup y=some c:=e;rcases mem e with⟨h1,_⟩ | ⟨h1,_⟩
   ·exact(hfp b hb).1.2.2.2.2.1 y c h1 z
   ·have h2:s.heap.objs.size+1≤b:=by rw[←z];exact h1
    exact absurd (bZ (hfp b hb).2 (AA h2)) (fN _)
  ·rcases(hfp b hb).1.2.2.2.1 with z | z
   ·exact I.ok.noex b o e z
   ·exact absurd (bZ (bY e) (bI I.ok.bsz z)) (fN _)
  ·rcases aT.mp (I.stkSub b z)with z | z
   ·exact(hfp b hb).1.2.1 z
   ·exact(hfp b hb).1.2.2.1 z
 refine⟨okB,rfl,I.bare,Un.kept kp,⟨fun _=>none,?_,fun i y av e1 e2 e3=>?_⟩,fun y c e=>?_,?_,fun y c e=>?_,fun p hp=>?_,I.hok.kept kp,by rw[EF];exact I.len⟩
 ·show Heap.Ns _ cenv.locals _;rw[hL];exact Heap.Ns.keeps (Heap.Ns.new ..) fun b o e=>IG _ _ _ _ e
 ·obtain⟨e2,hne⟩:=LY e2;have hfr:scope.names.lookup y=some .free∧(cenv.kindOf y=some .cell∨cenv.kindOf y=some .free):=by
   have key:∀k,cenv.scope.names.lookup y=some k→k=.local∨k=.cell∨k=.free→scope.names.lookup y=some .free∧(cenv.kindOf y=some .cell∨cenv.kindOf y=some .free):=fun k hk hk'=>by
    have hk0:=hk;rw[hsc]at hk;obtain⟨k',e,r⟩:=DN hk;have no:¬(k'=.local∨k'=.cell):=fun hh=>by
     rcases ok.own _ (dP e) hh with e' | e'
     ·obtain⟨p,hp,hpy⟩:=aX.mp e';have e3:=ok.ix p hp;have:p.1=y:=hpy;rw[this]at e3;exact hne (aX.mpr ⟨p,hp,RE hN e3 e1⟩)
     ·exact e' (bA e1)
    rcases r with rfl | ⟨rfl,rfl⟩
    ·rcases hk' with rfl | rfl | rfl
     ·exact absurd (.inl rfl) no
     ·exact absurd (.inr rfl) no
     ·exact⟨e,.inr hk0⟩
    ·exact⟨e,.inl hk0⟩
   have e3:Xw cenv.scope y:=e3;rcases e3 with e3 | e3 | e3
   ·exact key _ e3 (.inl rfl)
   ·exact key _ e3 (.inr (.inl rfl))
   ·exact key _ e3 (.inr (.inr rfl))
  obtain⟨m,hn,hl⟩:=I.loc;have hvis:Xw X.env.scope y:=(ok.free _ (dP hfr.1) rfl).elim (fun k=>.inr (.inl k)) (fun k=>.inr (.inr k));obtain⟨w,r,q⟩:=hl i y av e1 e2 hvis;refine⟨w,r,.inr ⟨hfr.2,?_⟩⟩;obtain⟨c,h1,h2⟩:=look hfr.1;rcases q with⟨k,_⟩ | ⟨_,c',e',z⟩
  ·have k:X.env.scope.names.lookup y=some .local:=k;rcases ok.free _ (dP hfr.1) rfl with k' | k'<;>rw[show X.env.scope.names.lookup y=_ from k']at k<;>cases k
  ·rw[h2]at e';cases e';exact⟨c,h1,z.keeps kp⟩
 ·have e:cenv.cells.lookup y=some c:=e;rcases mem e with⟨h1,_⟩ | ⟨_,z⟩
  ·obtain⟨w,z⟩:=I.cell y c h1;exact⟨w,z.keeps kp⟩
  ·exact⟨_,z⟩
 ·show H cenv.locals=none;rw[hL];exact I.hok.fresh (aR _)
 ·have e:cenv.cells.lookup y=some c:=e;rcases mem e with⟨h1,_⟩ | ⟨h1,_⟩
  ·exact I.freeC y c h1
  ·exact I.hok.fresh (AA h1)
 ·exact absurd (show p∈([]:List (aQ×Obj))++[]from hp) (by simp)
theorem Wg (I:dH X pins σ H s) (hD:H D=some (.lst xs)) (hz:xs.length < aU) (r:gK y v)
  (h:∀s',dH X pins σ (upd H D (.lst (xs++[y]))) s'→Q .none s'):bL (cB X.prog X.w) X.A (call (.builtin "list.append") [.ref D,v]) Q E s:=by
 obtain⟨hz',eG,n,ri,e⟩:=I.hok D _ hD;have hl:=ri.length;refine append_at (hsz:=by rw[bN];omega) e fun h' sb ho'=>?_;refine h {s with heap:=h'} (I.write (t':=s.toks) (by rw[hD];trivial) (.inl rfl) (fun b u hb q=>(sb.2 b hb).trans q) ⟨_,ho'⟩ ⟨by rw[aC];exact hz,eG++[v],n+1,ri.append (.cons r .nil),?_⟩);rw[ho'];simp
def B5 (X:Cx) (ifs:List Expr) (t:TT):Prop:=∀(pins:List (aQ×Obj)) (s:aV) (σ:St) (H:Hp) (Q:Bool→Hp→Prop),dH X pins σ H s→t σ H Q→bL (cB X.prog X.w) X.A (forIn ifs true fun c r=>if r=true then do let ok←isTrue c X.env (gZ c X.env);pure (qL ok)else pure (qL r)) (TP X pins σ Q) X.xe s
def A8:TT:=fun _ H Q=>Q true H
theorem xZ:B5 X [] A8:=fun _ _ _ H _ I h=>wpAny_tests_nil ⟨H,I,h⟩
end
theorem Oo (h:bL M A t Q (fun _ _=>False) s) (hQ:∀a s,Q a s→Q' a s):bL M A t Q' E s:=fV h hQ fun _ _ z=>eM z
theorem YQ (I:Nat→aV→Prop)
  (turn:∀n s,I n s→bL (cB prog w) A (CU it) (fun r s₁=>match r with
   | none=>R (.ok .next) s₁
   | some v=>bL (cB prog w) A (IE target it v) (fun _ s₁'=>bL (cB prog w) A (assign target env v) (fun _ s₂=>
    bL (cB prog w) A (forIn ifs true fun c r=>if r=true then do let ok←isTrue c env (gZ c env);pure (qL ok)else pure (qL r)) (fun ok s₃=>
     if ok=true then bL (cB prog w) A (gZ elt env) (fun x s₄=>bL (cB prog w) A (call (.builtin "list.append") [acc,x]) (fun _ s₅=>∃m,m < n∧I m s₅) (Gd (cB prog w) A env fun e s'=>R (.error e) s') s₄) (Gd (cB prog w) A env fun e s'=>R (.error e) s') s₃
     else ∃m,m < n∧I m s₃) (Gd (cB prog w) A env fun e s'=>R (.error e) s') s₂) (Gd (cB prog w) A env fun e s'=>R (.error e) s') s₁') (Gd (cB prog w) A env fun e s'=>R (.error e) s') s₁) (Gd (cB prog w) A env fun e s'=>R (.error e) s') s)
  (n:Nat) (h:I n s):
  vM (cB prog w) A (.compLoop (.ListComp elt [⟨target,iter,ifs,0⟩] scope pos) 0 it acc env) R s:=by
 refine codeAny_loop rfl I (fun n s hI=>?_) n h;show bL _ A ((compTurn (.ListComp elt [⟨target,iter,ifs,0⟩] scope pos) 0 it acc env).onRaise (fun x=>do noteFrame x env;theTreesLotGoes x)) _ _ s;refine wpAny_noted ?_;rw[compTurn_list];refine aH (wpAny_standAt (aH (fV (turn n s hI) (fun r s₁ h₁=>?_) fun _ _ h'=>h')));cases r with
 | none=>exact bH h₁
 | some v=>
  refine aH (fV h₁ (fun _ s₁' h₁'=>?_) fun _ _ h'=>h');refine aH (fV h₁' (fun _ s₂ h₂=>aH (fV h₂ (fun ok s₃ h₃=>?_) fun _ _ h'=>h')) fun _ _ h'=>h');cases ok with
  | false=>exact bH ⟨rfl,h₃⟩
  | true=>exact aH (aH (fV h₃ (fun x s₄ h₄=>aH (fV h₄ (fun _ s₅ h₅=>bH (bH ⟨rfl,h₅⟩)) fun _ _ h'=>h')) fun _ _ h'=>h'))
section
variable {X:Cx}
def B8 (wi:TI) (g:TG) (tt:TT) (te:TE) (vs:List Nat):TE:=fun σ H Q=>wi σ H fun J H1=>∀D,H1 D=none→∃W:Nat→Nat→Hp→Prop,(∃m,W 0 m (upd H1 D (.lst [])))∧∀i m H,W i m H→(J.stop i H∧Q (.ref D) H)∨(J.go i H∧∃Nx:Hp→Prop,(∀H',Nx H'→∃m',m' < m∧W (i+1) m' H')∧∀x H',J.yld i H x H'→g x (nD σ vs) H' fun σ2 H2=>nD σ2 vs=nD σ vs∧tt σ2 H2 fun b H3=>if b=true then te σ2 H3 fun y H4=>∃acc,H4 D=some (.lst acc)∧acc.length < aU∧Nx (upd H4 D (.lst (acc++[y])))else Nx H3)
theorem Kp {pins:List (aQ×Obj)} {s:aV} {σ:St} {H:Hp} {Q:VK} {elt tg iter:Expr} {ifs:List Expr} {scope:zB} {own:List (Str×Nat)} {pos pos':Pos} {wi:TI} {g:TG} {tt:TT} {te:TE} {use:Option (Value→Sem Unit)} {Qf:Value→aV→Prop}
  (hc:X.calm=true) (hN:X.N.Nodup) (I:dH X pins σ H s) (hi:PI X tg iter wi) (ok:Bz X.N X.env.scope scope own)
  (hg:∀(s:aV) (H:Hp) (C:aQ) (cl:List (Str×aQ)) (fp:List aQ),PG (X.blk s H scope (rB scope cl C X.env) fp) tg g) (ht:∀(s:aV) (H:Hp) (C:aQ) (cl:List (Str×aQ)) (fp:List aQ),B5 (X.blk s H scope (rB scope cl C X.env) fp) ifs tt)
  (he:∀(s:aV) (H:Hp) (C:aQ) (cl:List (Str×aQ)) (fp:List aQ),PE (X.blk s H scope (rB scope cl C X.env) fp) elt te) (hs:∀x,CM iter X.env x=pure x)
  (h:B8 wi g tt te (own.map (·.2)) σ H Q)
  (hRR:∀D C s' m H',dH X pins σ H' s'→Q (.ref D) H'→s'.heap.Ns C m→DA X pins H' C→compPost (cB X.prog X.w) X.A X.xe use Qf (.ref D) C (.ok .next) s'):
  bL (cB X.prog X.w) X.A (comprehension (.ListComp elt [⟨tg,iter,ifs,0⟩] scope pos) scope X.env pos' (newList []) false (gZ iter X.env) use) Qf X.xe s:=by
 have hfree:∀y∈scope.names,y.2=.free→∃c,X.env.cells.lookup y.1=some c:=fun y hy e=>by
  rcases ok.free y hy e with k | k
  ·exact I.ok.has _ (.inl k)
  ·exact I.ok.has _ (.inr k)
 refine wpAny_comprehension_free (use:=use) rfl hs (He hfree) ok.kind (fun y hy e=>by rw[ok.uniq y hy,e])
  (kT (hi pins s σ H _ I h) fun xv s1 hx=>kT hx fun itv s2 h2=>?_)
 obtain⟨it,fp,tn,J,H2,e,I2,T,st2,f2,q⟩:=h2;subst e;refine kY (Do ?_) (by show 0≤aU;decide);generalize hD:s2.heap.objs.size=D;have hDn:H2 D=none:=I2.hok.fresh (ND hD);obtain⟨W,⟨m0,w0⟩,turn⟩:=q D hDn;generalize hs3:({s2 with heap:=s2.heap.push {cls:=.type "list",data:=.seq ([]:List Value).toArray}}:aV)=s3;have I3:dH X pins σ (upd H2 D (.lst [])) s3:=by rw[←hs3];refine I2.laid (t':=s2.toks) (fun b o e=>aF _ e) (ND hD) ⟨aY _,[],0,.nil,?_⟩;rw[←hD];exact bQ _ rfl
 have h3:s3.heap=s2.heap.push {cls:=.type "list",data:=.seq ([]:List Value).toArray}:=by rw[←hs3]
 have sz:∀b∈fp,b < s2.heap.objs.size:=fun b hb=>by obtain⟨o,e,_⟩:=T.obj _ _ st2 b hb;exact bY e
 have f3:∀b∈fp,DA X pins (upd H2 D (.lst [])) b∧b < s3.heap.objs.size:=fun b hb=>by have hlt:=sz b hb;refine⟨⟨?_,(f2 b hb).2⟩,by rw[h3,cF];exact NE hlt⟩;rw[bK (by rw[←hD];exact eI hlt)];exact(f2 b hb).1
 have st3:tn 0 s3.heap:=T.keep _ _ _ st2 fun b _ o e=>by rw[h3];exact aF _ e
 have I4:=Cf I3 ok hN f3;have pg:=hg s3 (upd H2 D (.lst [])) s3.heap.objs.size (iB (s3.heap.objs.size+1) scope.names (jL X.env.cells scope.names [])) fp;have pt:=ht s3 (upd H2 D (.lst [])) s3.heap.objs.size (iB (s3.heap.objs.size+1) scope.names (jL X.env.cells scope.names [])) fp;have pe:=he s3 (upd H2 D (.lst [])) s3.heap.objs.size (iB (s3.heap.objs.size+1) scope.names (jL X.env.cells scope.names [])) fp;show vM _ _ (.compStart (.ListComp elt [⟨tg,iter,ifs,0⟩] scope pos) 0 (.ref it) (.ref D) (rB scope (iB (s3.heap.objs.size+1) scope.names (jL X.env.cells scope.names [])) s3.heap.objs.size X.env)) (compPost (cB X.prog X.w) X.A X.xe use Qf (.ref D) s3.heap.objs.size) {s3 with heap:=AB (s3.heap.push {cls:=.type "dict",data:=.dict #[]}) scope.names};have nfp:∀b∈fp,(upd H2 D (.lst [])) b=none:=fun b hb=>(f3 b hb).1.1;generalize hce:rB scope (iB (s3.heap.objs.size+1) scope.names (jL X.env.cells scope.names [])) s3.heap.objs.size X.env=ce at I4 pg pt pe ⊢;have cL:ce.locals=s3.heap.objs.size:=by subst hce;rfl
 generalize hH3:upd H2 D (.lst [])=H3 at I3 I4 pg pt pe w0 nfp f3;generalize hs4:({s3 with heap:=AB (s3.heap.push {cls:=.type "dict",data:=.dict #[]}) scope.names}:aV)=s4 at I4 ⊢;have st4:tn 0 s4.heap:=T.keep _ _ _ st3 fun b _ o e=>by rw[←hs4];exact IG _ _ _ _ (aF _ e)
 have stat:∀{σ':St} {H':Hp} {s':aV},dH (X.blk s3 H3 scope ce fp) [] σ' H' s'→(∀b∈fp,H' b=none)→∀b∈fp,DA (X.blk s3 H3 scope ce fp) [] H' b:=fun {σ' H' s'} I' hn b hb=>⟨hn b hb,(I'.ok.exf b hb).1,I'.ok.exfs b hb,.inl hb,fun x c e=>(I'.ok.exf b hb).2 x c e,fun p hp=>absurd (show p∈([]:List (aQ×Obj))++[]from hp) (by simp)⟩;have Nh:vM (cB X.prog X.w) X.A (.compLoop (.ListComp elt [⟨tg,iter,ifs,0⟩] scope pos) 0 (.ref it) (.ref D) ce) (compPost (cB X.prog X.w) X.A X.xe use Qf (.ref D) s3.heap.objs.size) s4:=by
  refine YQ (fun n s'=>∃i H',dH (X.blk s3 H3 scope ce fp) [] (nD σ (own.map (·.2))) H' s'∧tn i s'.heap∧(∀b∈fp,H' b=none)∧W i n H') ?_ m0 ⟨0,H3,I4,st4,nfp,w0⟩;rintro n s5 ⟨i,H5,I5,st5,n5,w5⟩;rcases turn i n H5 w5 with⟨stop,qq⟩ | ⟨go,Nx,hNx,step⟩
  ·have td:=T.done (X.blk s3 H3 scope ce fp) rfl rfl rfl hc i [] s5 _ H5 (fun _ _=>False) I5 (stat I5 n5) st5 stop;refine Oo td fun r s6 ⟨hr,I6⟩=>?_;subst hr;have I7:dH X pins σ H5 s6:=I3.call' (ch:=fp) I6.os I6.base I6.hok I6.bare fun b hb=>⟨(f3 b hb).1.2.2.2.1,(f3 b hb).1.2.1,(f3 b hb).1.2.2.2.2.1,(f3 b hb).1.2.2.2.2.2⟩;have nC:H5 s3.heap.objs.size=none:=by have z:H5 ce.locals=none:=I6.free;rw[cL]at z;exact z
   obtain⟨m,hn,_⟩:=I6.loc;have hn:s6.heap.Ns ce.locals m:=hn;rw[cL]at hn;exact hRR D s3.heap.objs.size s6 m H5 I7 qq hn (I3.fpOk (aR _) nC)
  ·have ti:=T.item (X.blk s3 H3 scope ce fp) rfl rfl rfl hc i [] s5 _ H5 (fun _ _=>False) I5 (stat I5 n5) st5 go;refine Oo ti fun r s6 ⟨u,hr,h6⟩=>?_;subst hr;refine Oo h6 fun _ s7 ⟨x,H7,I7,r7,y7,st7,n7⟩=>?_;have I7':=I7.pinned (stat I7 n7) (T.obj _ _ st7);refine Oo (pg _ s7 _ H7 x u _ I7' r7 (step x H7 y7)) fun _ s8 ⟨σ8,H8,I8,hw8,q8⟩=>?_;refine Oo (pt _ s8 σ8 H8 _ I8 q8) fun b s9 ⟨H9,I9,q9⟩=>?_;have fin:∀{s':aV} {H':Hp},dH (X.blk s3 H3 scope ce fp) ([]++SF fp s7.heap) σ8 H' s'→Nx H'→∃m,m < n∧∃i H',dH (X.blk s3 H3 scope ce fp) [] (nD σ (own.map (·.2))) H' s'∧tn i s'.heap∧(∀b∈fp,H' b=none)∧W i m H':=fun {s' H'} I' nx=>by
    obtain⟨m',hm,w'⟩:=hNx H' nx;have pin':∀b∈fp,∀o,s7.heap.get? b=some o→s'.heap.get? b=some o∧H' b=none:=fun b hb o e=>
     let z:=I'.pin (b,o) (cS _ (cS _ (rJ hb e)))
     ⟨z.1,z.2.1⟩
    have hl:(nD σ (own.map (·.2))).length=σ8.length:=by rw[←hw8,EF]
    refine⟨m',hm,i+1,H',(I'.unpinned (pins:=[])).weak hl (fun j v e=>?_),T.keep _ _ _ st7 fun b hb o e=>(pin' b hb o e).1,fun b hb=>?_,w'⟩
    ·rw[←hw8]at e;exact(LY e).1
    ·obtain⟨o,e,_⟩:=T.obj _ _ st7 b hb;exact(pin' b hb o e).2
   cases b with
   | false=>simp only[gL,if_false]at q9 ⊢;exact fin I9 q9
   | true=>simp only[if_true]at q9 ⊢;refine Oo (pe _ s9 σ8 H9 _ I9 q9) fun z s10 ⟨yv,H10,I10,r10,acc,hD10,hz10,nx⟩=>?_;exact Wg (X:=X.blk s3 H3 scope ce fp) I10 hD10 hz10 r10 fun s11 I11=>fin I11 nx
 exact codeAny_compStart_list Nh (T.self X.A 0 _ _ _ st4 Nh)
theorem XC (hc:X.calm=true) (hN:X.N.Nodup) (hi:PI X tg iter wi) (ok:Bz X.N X.env.scope scope own)
  (hg:∀(s:aV) (H:Hp) (C:aQ) (cl:List (Str×aQ)) (fp:List aQ),PG (X.blk s H scope (rB scope cl C X.env) fp) tg g) (ht:∀(s:aV) (H:Hp) (C:aQ) (cl:List (Str×aQ)) (fp:List aQ),B5 (X.blk s H scope (rB scope cl C X.env) fp) ifs tt)
  (he:∀(s:aV) (H:Hp) (C:aQ) (cl:List (Str×aQ)) (fp:List aQ),PE (X.blk s H scope (rB scope cl C X.env) fp) elt te) (hs:∀x,CM iter X.env x=pure x:=by intro _;rfl):
  PE X (.ListComp elt [⟨tg,iter,ifs,0⟩] scope pos) (B8 wi g tt te (own.map (·.2))):=by
 intro pins s σ H Q I h;rw[eval_ListComp];refine Kp hc hN I hi ok hg ht he hs h fun D C s' m H' I' q hn f=>⟨m,hn,fun h'' sb=>?_⟩;obtain⟨f0,f1,f2,f3,f4,f5⟩:=f;exact⟨.ref D,H',I'.turned (t':=s'.toks) (fun b o hb e=>(sb.2 b hb).trans e) f0 f1 f3 f4 f5,rfl,q⟩
theorem Em (hc:X.calm=true) (hN:X.N.Nodup) (hy:X.N[i]?=some y) (hyl:X.env.scope.names.lookup y=some .local)
  (hsw:wM (.ListComp elt [⟨tg,iter,ifs,0⟩] scope pos) (some (.Name y py)) spos.line X.env=pure true) (hi:PI X tg iter wi) (ok:Bz X.N X.env.scope scope own)
  (hg:∀(s:aV) (H:Hp) (C:aQ) (cl:List (Str×aQ)) (fp:List aQ),PG (X.blk s H scope (rB scope cl C X.env) fp) tg g) (ht:∀(s:aV) (H:Hp) (C:aQ) (cl:List (Str×aQ)) (fp:List aQ),B5 (X.blk s H scope (rB scope cl C X.env) fp) ifs tt)
  (he:∀(s:aV) (H:Hp) (C:aQ) (cl:List (Str×aQ)) (fp:List aQ),PE (X.blk s H scope (rB scope cl C X.env) fp) elt te) (hs:∀x,CM iter X.env x=pure x:=by intro _;rfl):
  PS X (.Assign [.Name y py] (.ListComp elt [⟨tg,iter,ifs,0⟩] scope pos) spos) (Zu (B8 wi g tt te (own.map (·.2))) (QJ i)):=by
 intro pins s σ H D I h;rw[exec_Assign_Name_used _ _ _ _ hsw];refine aH (wpAny_standAt (aH ?_));show bL _ X.A (do let _←comprehension (.ListComp elt [⟨tg,iter,ifs,0⟩] scope pos) scope X.env (firstIterPos [⟨tg,iter,ifs,0⟩] pos) (newList []) false (gZ iter X.env) (some (assign (.Name y py) X.env))) _ _ s;have h:B8 wi g tt te (own.map (·.2)) σ H (fun x H1=>QJ i x σ H1 D.nx):=h;refine aH (kT (Kp (Qf:=fun _ s'=>SP X pins D .next s') hc hN I hi ok hg ht he hs h fun L C s' m H' I' q hn f=>?_) fun _ s' hq=>bH (bH hq));show bL _ _ (assign (.Name y py) X.env (.ref L)) _ _ _;refine wpAny_assign_Name (XM (v:=V.ref L) I' hN hy (.inl hyl) rfl (fun s2 I2 ⟨a,sb,ha⟩=>?_) (.inr hyl));obtain⟨f0,f1,f2,f3,f4,f5⟩:=f;have haC:C≠a:=by
  rcases ha with z | z
  ·rw[z];exact f1
  ·exact fun e=>f4 y a z e.symm
 refine⟨m,hn.sameBut sb haC,fun h3 sb3=>?_⟩;exact⟨_,H',I2.turned (t':=s2.toks) (fun b o hb e=>(sb3.2 b hb).trans e) f0 f1 f3 f4 f5,q⟩
theorem Li (hk:env.scope.kind=.function) (hy:env.scope.names.lookup y=some .local) (hl:(py.line == pos.line)=true)
  (ha:(scope.names.any fun(n,k)=>n == y && (k == .local || k == .cell))=false):wM (.ListComp elt gs scope pos) (some (.Name y py)) l env=pure true:=by
 have ky:env.kindOf y=some .local:=hy;have hb:env.blockKind=.function:=by unfold Env.blockKind;rw[hk];rfl
 unfold wM;simp only[hb,ky,ha,Expr.pos,hl];rfl
end
theorem Ub {K:aB} {a:aQ} {xs:List V} {g:TG} {tt:TT} {te:TE} {vs:List Nat} {σ:St} {H1:Hp} {D:aQ} {Qd:Hp→Prop} (Pv:Nat→Hp→Prop) (h0:Pv 0 (upd H1 D (.lst []))) (hl:∀i H,i≤xs.length→Pv i H→gX K H a xs)
  (hs:∀i x H,xs[i]?=some x→Pv i H→g x (nD σ vs) H fun σ2 H2=>nD σ2 vs=nD σ vs∧tt σ2 H2 fun b H3=>if b=true then te σ2 H3 fun y H4=>∃acc,H4 D=some (.lst acc)∧acc.length < aU∧Pv (i+1) (upd H4 D (.lst (acc++[y])))else Pv (i+1) H3) (hd:∀H,Pv xs.length H→Qd H):
  ∃W:Nat→Nat→Hp→Prop,(∃m,W 0 m (upd H1 D (.lst [])))∧∀i m H,W i m H→
   ((Vp K a).stop i H∧Qd H)∨((Vp K a).go i H∧∃Nx:Hp→Prop,(∀H',Nx H'→∃m',m' < m∧W (i+1) m' H')∧∀x H',(Vp K a).yld i H x H'→g x (nD σ vs) H' fun σ2 H2=>nD σ2 vs=nD σ vs∧tt σ2 H2 fun b H3=>if b=true then te σ2 H3 fun y H4=>∃acc,H4 D=some (.lst acc)∧acc.length < aU∧Nx (upd H4 D (.lst (acc++[y])))else Nx H3):=by
 refine⟨fun i m H=>m=xs.length - i∧i≤xs.length∧Pv i H,⟨xs.length,by simp,aY _,h0⟩,?_⟩;rintro i m H ⟨rfl,hi,p⟩;have q:=hl i H hi p;by_cases hlt:i < xs.length
 ·refine .inr ⟨⟨xs,xs[i],q,by simp[hlt]⟩,Pv (i+1),fun H' p'=>⟨xs.length - (i+1),by omega,rfl,hlt,p'⟩,fun x H' y=>?_⟩;obtain⟨e,y⟩:=y;subst e;exact hs i x _ (y xs q) p
 ·have e:i=xs.length:=by omega
  subst e;exact .inl ⟨⟨xs,q,aR _⟩,hd H p⟩
theorem Hy {K:aB} {a:aQ} {xs:List V} {g:TG} {tt:TT} {te:TE} {vs:List Nat} {σ:St} {H1:Hp} {D:aQ} {Qd:Hp→Prop} (Pv:Nat→Hp→Prop) (h0:Pv 0 (upd H1 D (.lst []))) (hl:∀i H,i≤xs.length→Pv i H→fE K H a xs)
  (hs:∀i x H,xs[i]?=some x→Pv i H→g x (nD σ vs) H fun σ2 H2=>nD σ2 vs=nD σ vs∧tt σ2 H2 fun b H3=>if b=true then te σ2 H3 fun y H4=>∃acc,H4 D=some (.lst acc)∧acc.length < aU∧Pv (i+1) (upd H4 D (.lst (acc++[y])))else Pv (i+1) H3) (hd:∀H,Pv xs.length H→Qd H):
  ∃W:Nat→Nat→Hp→Prop,(∃m,W 0 m (upd H1 D (.lst [])))∧∀i m H,W i m H→
   ((Pw K a).stop i H∧Qd H)∨((Pw K a).go i H∧∃Nx:Hp→Prop,(∀H',Nx H'→∃m',m' < m∧W (i+1) m' H')∧∀x H',(Pw K a).yld i H x H'→g x (nD σ vs) H' fun σ2 H2=>nD σ2 vs=nD σ vs∧tt σ2 H2 fun b H3=>if b=true then te σ2 H3 fun y H4=>∃acc,H4 D=some (.lst acc)∧acc.length < aU∧Nx (upd H4 D (.lst (acc++[y])))else Nx H3):=by
 refine⟨fun i m H=>m=xs.length - i∧i≤xs.length∧Pv i H,⟨xs.length,by simp,aY _,h0⟩,?_⟩;rintro i m H ⟨rfl,hi,p⟩;have q:=hl i H hi p;by_cases hlt:i < xs.length
 ·refine .inr ⟨⟨xs,xs[i],q,by simp[hlt]⟩,Pv (i+1),fun H' p'=>⟨xs.length - (i+1),by omega,rfl,hlt,p'⟩,fun x H' y=>?_⟩;obtain⟨e,y⟩:=y;subst e;exact hs i x _ (y xs q) p
 ·have e:i=xs.length:=by omega
  subst e;exact .inl ⟨⟨xs,q,aR _⟩,hd H p⟩
def Yl (N:List Str) (sc scope:zB) (own:List (Str×Nat)):Bool:=
 (match scope.kind with | .function=>true | _=>false) && (scope.names.all fun y=>decide (scope.names.lookup y.1=some y.2)) && (own.all fun p=>decide (N[p.2]?=some p.1)) &&
  (scope.names.all fun y=>match y.2 with
   | .free=>(match sc.names.lookup y.1 with | some .cell=>true | some .free=>true | _=>false)
   | .local=>decide (y.1∈own.map (·.1)) || decide (y.1∉N)
   | .cell=>decide (y.1∈own.map (·.1)) || decide (y.1∉N)
   | _=>true)
theorem uU (h:Yl N sc scope own=true):Bz N sc scope own:=by
 unfold Yl at h;simp only[aE,cD,decide_eq_true_eq]at h;obtain⟨⟨⟨h1,h2⟩,h3⟩,h4⟩:=h;refine⟨?_,h2,h3,fun y hy e=>?_,fun y hy e=>?_⟩
 ·split at h1
  ·assumption
  ·cases h1
 ·have q:=h4 y hy;simp only[e]at q;split at q<;>first | exact .inl (by assumption) | exact .inr (by assumption) | cases q
 ·have q:=h4 y hy;rcases e with e | e<;>(simp only[e,gN,decide_eq_true_eq]at q;exact q)
section
variable {κ:Type} [DecidableEq κ]
def qJ (kvs:List (κ×V)) (k:κ):Option V:=(kvs.find? fun kv=>decide (kv.1=k)).map (·.2)
def DV (kvs:List (κ×V)) (k:κ) (v:V):List (κ×V):=if (kvs.any fun kv=>decide (kv.1=k))=true then kvs.map (fun kv=>if kv.1=k then (kv.1,v)else kv)else kvs++[(k,v)]
theorem Sx:qJ ([]:List (κ×V)) k=none:=rfl
theorem oG {p:κ×V} {r:List (κ×V)} {k:κ} (e:p.1=k):qJ (p::r) k=some p.2:=by simp[qJ,jG,e]
theorem oF {p:κ×V} {r:List (κ×V)} {k:κ} (e:¬p.1=k):qJ (p::r) k=qJ r k:=by simp[qJ,jG,e]
theorem KJ (k:κ):∀kvs:List (κ×V),(kvs.any fun kv=>decide (kv.1=k))=(qJ kvs k).isSome
 | []=>rfl
 | p::r=>by
  rw[zZ];by_cases e:p.1=k
  ·simp only[oG e,decide_eq_true e,Bool.true_or,Jn]
  ·rw[oF e,decide_eq_false e,Bool.false_or];exact KJ k r
theorem Fp (k j:κ) (y:V):∀kvs:List (κ×V),qJ (kvs.map fun kv=>if kv.1=k then (kv.1,y)else kv) j=(qJ kvs j).map fun x=>if j=k then y else x
 | []=>rfl
 | p::r=>by
  have ih:=Fp k j y r;rw[aP];by_cases h:p.1=k
  ·rw[if_pos h];by_cases e:p.1=j
   ·rw[oG (p:=(p.1,y)) e,oG e,kF,if_pos (e.symm.trans h)]
   ·rw[oF (p:=(p.1,y)) e,oF e,ih]
  ·rw[if_neg h];by_cases e:p.1=j
   ·rw[oG (p:=p) e,oG e,kF,if_neg (fun z=>h (e.trans z))]
   ·rw[oF (p:=p) e,oF e,ih]
theorem XT (k j:κ) (y:V):∀kvs:List (κ×V),qJ kvs k=none→qJ (kvs++[(k,y)]) j=if j=k then some y else qJ kvs j
 | [],_=>by
  by_cases e:k=j
  ·rw[if_pos e.symm];exact oG (p:=(k,y)) e
  ·rw[if_neg (fun z=>e z.symm)];exact oF (p:=(k,y)) e
 | p::r,hn=>by
  rw[iR];have hk:¬p.1=k:=fun z=>by rw[oG z]at hn;cases hn
  rw[oF hk]at hn;have ih:=XT k j y r hn;by_cases e:p.1=j
  ·rw[oG e,oG e,if_neg (fun z=>hk (e.trans z))]
  ·rw[oF e,oF e,ih]
theorem Sy (kvs:List (κ×V)) (k j:κ) (y:V):qJ (DV kvs k y) j=if j=k then some y else qJ kvs j:=by
 unfold DV;by_cases a:(kvs.any fun kv=>decide (kv.1=k))=true
 ·rw[if_pos a,Fp];rw[KJ]at a;by_cases e:j=k
  ·obtain⟨x,hx⟩:=VS.mp a;rw[if_pos e,e,hx,kF,if_pos rfl]
  ·rw[if_neg e];cases qJ kvs j with
   | none=>rfl
   | some x=>rw[kF,if_neg e]
 ·rw[if_neg a];refine XT k j y kvs ?_;rw[KJ]at a;cases q:qJ kvs k with
  | none=>rfl
  | some x=>rw[q]at a;exact(a rfl).elim
theorem ML (kvs:List (κ×V)) (k:κ) (v:V):(DV kvs k v).length≤kvs.length+1:=by
 unfold DV;split
 ·rw[aJ];omega
 ·rw[aC,aK,gO];omega
theorem DB.isSome_eq (r:DB o u):o.isSome=u.isSome:=by
 cases o with
 | none=>cases u with
  | none=>rfl
  | some _=>exact(show False from r).elim
 | some _=>cases u with
  | none=>exact(show False from r).elim
  | some _=>rfl
theorem KV.val {kvs:List (κ×V)} {vs:List (κ×Value)} (r:KV kvs vs) (k:κ):DB (qJ kvs k) (valueAt vs k):=by
 unfold KV at r;induction r with
 | nil=>exact oK
 | @cons p q ps qs h t ih=>
  obtain⟨h1,h2⟩:=h;by_cases e:p.1=k
  ·have e':q.1=k:=h1.symm.trans e;have b:valueAt (q::qs) k=some q.2:=by simp[valueAt,jG,e']
   rw[oG e,b];exact h2
  ·have e':¬q.1=k:=fun z=>e (h1.trans z);have b:valueAt (q::qs) k=valueAt qs k:=by simp[valueAt,jG,e']
   rw[oF e,b];exact ih
theorem KV.any (r:KV kvs vs) (k:κ):(kvs.any fun kv=>decide (kv.1=k))=vs.any fun kv=>decide (kv.1=k):=by
 unfold KV at r;induction r with
 | nil=>rfl
 | cons h t ih=>rw[zZ,zZ,ih,h.1]
theorem KV.repl (r:KV kvs vs) (k:κ) (ry:gK y u):
  KV (kvs.map fun kv=>if kv.1=k then (kv.1,y)else kv) (vs.map fun kv=>if kv.1=k then (kv.1,u)else kv):=by
 unfold KV at r ⊢;induction r with
 | nil=>exact .nil
 | @cons p q ps qs h t ih=>
  rw[aP,aP];refine .cons ?_ ih;obtain⟨h1,h2⟩:=h;by_cases e:p.1=k
  ·rw[if_pos e,if_pos (h1.symm.trans e)];exact⟨h1,ry⟩
  ·rw[if_neg e,if_neg (fun z=>e (h1.trans z))];exact⟨h1,h2⟩
theorem KV.put (r:KV kvs vs) (k:κ) (ry:gK y u):KV (DV kvs k y) (stored vs k u):=by
 unfold DV stored;rw[r.any k];by_cases e:(vs.any fun kv=>decide (kv.1=k))=true
 ·rw[if_pos e,if_pos e];exact r.repl k ry
 ·rw[if_neg e,if_neg e];exact Paired.snoc r ⟨rfl,ry⟩
theorem KV.length (r:KV kvs vs):kvs.length=vs.length:=GU r
end
theorem Cy (r:gK (kV k) u):(lS P w).is k u=true:=by
 cases k with
 | inl i=>obtain⟨t,e⟩:=(show ∃t,u=AE i t from r);subst e;exact Dj P w i t
 | inr x=>obtain⟨t,e⟩:=(show ∃t,u=NG x t from r);subst e;exact Dk P w x t
theorem WN:∀{ks:List CG} {us:List Value},fY (ks.map kV) us→ItemsAre (lS P w) ks us
 | [],_,r=>by rw[MA]at r;cases r;exact .nil
 | k::ks,_,r=>by
  rw[aP]at r;cases r with
  | cons h t=>exact .cons (Cy h) (WN t)
abbrev KT (H:Hp):List (List CG×V)→List (List CG×aQ×Value)→Prop:=gY fun p q=>p.1=q.1∧H q.2.1=some (.tup (p.1.map kV))∧gK p.2 q.2.2
theorem KT.val {H:Hp} {kvs:List (List CG×V)} {xs:List (List CG×aQ×Value)} (r:KT H kvs xs) (k:List CG):DB (qJ kvs k) ((Gk xs k).map (·.2)):=by
 induction r with
 | nil=>exact oK
 | @cons p q ps qs h t ih=>
  obtain⟨h1,_,h2⟩:=h;by_cases e:p.1=k
  ·have e':q.1=k:=h1.symm.trans e;have b:Gk (q::qs) k=some q.2:=by simp[Gk,jG,e']
   rw[oG e,b];exact h2
  ·have e':¬q.1=k:=fun z=>e (h1.trans z);have b:Gk (q::qs) k=Gk qs k:=by simp[Gk,jG,e']
   rw[oF e,b];exact ih
theorem KT.repl (r:KT H kvs xs) (k:List CG) (ry:gK y u):
  KT H (kvs.map fun kv=>if kv.1=k then (kv.1,y)else kv) (xs.map (putAt k u)):=by
 induction r with
 | nil=>exact .nil
 | @cons p q ps qs h t ih=>
  rw[aP,aP];refine .cons ?_ ih;obtain⟨h1,h2,h3⟩:=h;unfold putAt;by_cases e:p.1=k
  ·rw[if_pos e,if_pos (h1.symm.trans e)];exact⟨h1,h2,ry⟩
  ·rw[if_neg e,if_neg (fun z=>e (h1.trans z))];exact⟨h1,h2,h3⟩
theorem KT.put (r:KT H kvs xs) (k:List CG) (hb:H b=some (.tup (k.map kV))) (ry:gK y u):
  KT H (DV kvs k y) (storedH xs k b u):=by
 have e:(kvs.any fun kv=>decide (kv.1=k))=(Gk xs k).isSome:=by rw[KJ,(r.val k).isSome_eq,Option.isSome_map]
 unfold DV storedH;rw[e];by_cases q:(Gk xs k).isSome=true
 ·rw[if_pos q,if_pos q];exact r.repl k ry
 ·rw[if_neg q,if_neg q];exact Paired.snoc r ⟨rfl,hb,ry⟩
theorem KT.keeps (r:KT H kvs xs) (ht:∀b ys,H b=some (.tup ys)→H' b=some (.tup ys)):KT H' kvs xs:=Paired.mapP r fun _ _ z=>⟨z.1,ht _ _ z.2.1,z.2.2⟩
section
variable {P:dF} {w:eV} {H:Hp} {h:gC} {a:aQ}
theorem Vw (ok:CF P w H h) (e:Rd H a u):lB P w H h a u:=e.ok ok
theorem Qk (ok:CF P w H h) (e:Rd H a (.dK kvs)):kvs.length≤aU∧(a == oY)=false∧∃vs,KV kvs vs∧h.DictOf (lS P w) a vs:=show lB P w H h a (.dK kvs)from Vw ok e
theorem Yo (ok:CF P w H h) (e:H a=some (.dK kvs)):kvs.length≤aU∧(a == oY)=false∧∃vs,KV kvs vs∧h.DictOf (lS P w) a vs:=Qk ok (.inl e)
theorem Hx (ok:CF P w H h) (e:H a=some (.tup (ks.map kV))):(YG (lS P w)).is h ks a:=by obtain⟨_,eG,r,o,h1,h2,n,h3⟩:=(show lB P w H h a (.tup (ks.map kV))from ok a _ e);exact⟨o,eG.toArray,n,h1,h2,h3.1,by simpa using WN r⟩
theorem Qn (ok:CF P w H h) (e:Rd H a (.dT kvs)):kvs.length≤aU∧(a == oY)=false∧
  ∃xs,KT H kvs xs∧h.DictOfH (YG (lS P w)) a xs:=by
 obtain⟨z,y,xs,r,o,es,ep,h1,h2,h3,h4,h5⟩:=(show lB P w H h a (.dT kvs)from Vw ok e);refine⟨z,y,xs,r,o,es,ep,h1,h2,h3,h4,fun x hx=>?_,h5⟩;have all:∀{l:List (List CG×V)} {m:List (List CG×aQ×Value)},KT H l m→∀x∈m,(YG (lS P w)).is h x.1 x.2.1:=by
  intro l m q;induction q with
  | nil=>intro x hx;exact nomatch hx
  | @cons p q ps qs hq t ih=>
   intro x hx;rcases aT.mp hx with e | hx
   ·subst e;exact Hx ok (by rw[←hq.1];exact hq.2.1)
   ·exact ih x hx
 exact all r x hx
theorem Yp (ok:CF P w H h) (e:H a=some (.dT kvs)):kvs.length≤aU∧(a == oY)=false∧∃xs,KT H kvs xs∧h.DictOfH (YG (lS P w)) a xs:=Qn ok (.inl e)
end
def Gp (H:Hp) (a:aQ) (y:V) (r:Option V):Prop:=(∃kvs k,Rd H a (.dK kvs)∧y=kV k∧r=qJ kvs k)∨∃kvs k b,Rd H a (.dT kvs)∧y=.ref b∧H b=some (.tup (k.map kV))∧r=qJ kvs k
def Lz (H:Hp) (a:aQ) (y v:V) (H':Hp):Prop:=(∃kvs k,H a=some (.dK kvs)∧y=kV k∧kvs.length < aU∧H'=upd H a (.dK (DV kvs k v)))∨∃kvs k b,H a=some (.dT kvs)∧y=.ref b∧H b=some (.tup (k.map kV))∧kvs.length < aU∧H'=upd H a (.dT (DV kvs k v))
theorem Gp.t (e:H a=some (.dT kvs)) (eb:H b=some (.tup (k.map kV))):Gp H a (.ref b) (qJ kvs k):=.inr ⟨kvs,k,b,.inl e,rfl,eb,rfl⟩
theorem Lz.t (e:H a=some (.dT kvs)) (eb:H b=some (.tup (k.map kV))) (hl:kvs.length < aU):Lz H a (.ref b) v (upd H a (.dT (DV kvs k v))):=.inr ⟨kvs,k,b,e,rfl,eb,hl,rfl⟩
section
variable {X:Cx} {pins:List (aQ×Obj)} {σ:St} {H:Hp} {s:aV} {a:aQ} {y v:V} {u r:Value} {o:Option V} {A:jT} {E:Value→aV→Prop}
theorem dH.big (I:dH X pins σ H s):oY < s.heap.objs.size:=by have h:jR < s.heap.objs.size:=(I.mod.glob.keeps I.bk).lt;exact Nat.lt_trans (by decide) h
theorem Ms (hu:A.units+1 < Pl) (I:dH X pins σ H s) (g:Gp H a y (some v)) (ry:gK y u) (h:∀w' s',dH X pins σ H s'→gK v w'→Q w' s'):
  bL (cB X.prog X.w) A (CN (.ref a) u) Q E s:=by
 rcases g with⟨kvs,k,e,ey,l⟩ | ⟨kvs,k,b,e,ey,eb,l⟩
 ·subst ey;obtain⟨z,hd,vs,rel,dd⟩:=Qk I.hok e;obtain⟨w',hw,rw'⟩:=DB.some_of (v:=v) (o:=valueAt vs k) (by rw[l];exact rel.val k);exact wpAny_getItem_of (Cy ry) dd.mapOf hw (h w' _ (I.tok _) rw')
 ·subst ey;cases(show u=dC b from ry);obtain⟨z,hd,xs,rel,dd⟩:=Qn I.hok e;obtain⟨w',hw,rw'⟩:=DB.some_of (v:=v) (o:=(Gk xs k).map (·.2)) (by rw[l];exact rel.val k);obtain⟨p,hp,hp2⟩:=aO.mp hw;refine wpAny_getItem_heap (tupleKind_room_in1 hu) (Hx I.hok eb) dd hp ?_;rw[hp2];exact h w' _ (I.tok _) rw'
theorem Kb (I:dH X pins σ H s) (mu:Ye (H a)) (hs:xD a s.heap h') (he:∃q,h'.get? a=some q) (new:lB X.prog X.w (upd H a ob) h' a ob):dH X pins σ (upd H a ob) {s with heap:=h',toks:=t'}:=I.write (x:=a) (e:=a) mu (.inl rfl) (fun b q hb z=>(hs.2 b hb).trans z) he new
theorem Wk (z:kvs.length≤aU) (hd:(a == oY)=false) (rel:KV kvs vs) (dd:h'.DictOf (lS P w) a vs):lB P w H' h' a (.dK kvs):=⟨z,hd,vs,rel,dd⟩
theorem Mt (hu:A.units+1 < Pl) (I:dH X pins σ H s) (g:Lz H a y v H') (ry:gK y u) (rv:gK v r) (h:∀s',dH X pins σ H' s'→Q () s'):
  bL (cB X.prog X.w) A (setItem (.ref a) u r) Q E s:=by
 rcases g with⟨kvs,k,e,ey,l,eH⟩ | ⟨kvs,k,b,e,ey,eb,l,eH⟩
 ·subst ey eH;obtain⟨z,hd,vs,rel,dd⟩:=Yo I.hok e;have hz:vs.length≤aU:=by rw[←rel.length];exact z
  have hl:(DV kvs k v).length≤aU:=by have:=ML kvs k v;omega
  refine wpAny_setItem_pairs (hsz:=hz) (Cy ry) dd fun h' dd' hs=>h _ ?_;have he:∃q,h'.get? a=some q:=let ⟨q,_,_,hq,_⟩:=dd';⟨q,hq⟩;exact Kb I (by rw[e];exact oK) hs he (Wk hl hd (rel.put k rv) dd')
 ·subst ey eH;cases(show u=dC b from ry);obtain⟨z,hd,xs,rel,dd⟩:=Yp I.hok e;have hz:xs.length≤aU:=by rw[←GU rel];exact z
  have hl:(DV kvs k v).length≤aU:=by have:=ML kvs k v;omega
  refine wpAny_setItem_heap (hsz:=hz) (tupleKind_room_in1 hu) (Hx I.hok eb) dd fun h' dd' hs=>h _ ?_;obtain⟨q,es,ep,hq,h2,h3,h4,_,h5⟩:=dd';refine Kb I (by rw[e];exact oK) hs ⟨q,hq⟩ ⟨hl,hd,_,(rel.put k eb rv).keeps fun c ys ec=>?_,q,es,ep,hq,h2,h3,h4,h5⟩;rw[bK (kH ec e (fun z=>nomatch z))];exact ec
end
def Wb (i:Expr):Prop:=∀ov iv,Bp i false ov iv=operate [ov,iv] (CN ov iv)
theorem Lh {prog:dF} {w:eV} {A:jT} {E:Value→aV→Prop} {s:aV} {env:Env} {value slice:Expr} {pos:Pos} {T id:String} {Q:Value→aV→Prop}
  (hl:typeLookup (.type T) "__getitem__"=pure (some (.builtin id))) (hs:Wb slice)
  (h:bL (cB prog w) A (gZ value env) (fun o s₁=>bL (cB prog w) A (gZ slice env) (fun i s₂=>s₂.TypeIs o T∧bL (cB prog w) A (CN o i) Q E s₂) E s₁) E s):
  bL (cB prog w) A (gZ (.Subscript value slice pos) env) Q E s:=by
 refine Subscript_ (fV h (fun o s₁ h₁=>fV h₁ (fun i s₂ h₂=>?_) fun _ _ x=>x) fun _ _ x=>x);obtain⟨hT,h₂⟩:=h₂;unfold Lr;refine aH ?_;rw[getitemInPython_of_ne hT.not_modules];refine aH (wpAny_specialOf hT hl ?_);have fin:bL (cB prog w) A (Bp slice false o i) (fun r s₃=>bL (cB prog w) A (letTemporaryGo value o r >>= fun _=>pure r) Q E s₃) E s₂:=by rw[hs o i];exact wpAny_operating (fV h₂ (fun r s₃ h₃=>aH (wpAny_letTemporaryGo (bH h₃))) fun _ _ x=>x)
 first
  | exact bH (aH fin)
  | exact aH (bH (aH fin))
  | exact aH fin
theorem Cj (I:dH X pins σ H s) (g:Gp H a y o):s.TypeIs (.ref a) "dict":=by
 rcases g with⟨kvs,k,e,_,_⟩ | ⟨kvs,k,b,e,_,_,_⟩
 ·obtain⟨_,_,vs,_,dd⟩:=Qk I.hok e;exact dd.typeIs
 ·obtain⟨_,_,xs,_,dd⟩:=Qn I.hok e;exact dd.typeIs
def Zv (td ty:TE):TE:=fun σ H Q=>td σ H fun x H1=>ty σ H1 fun y H2=>∃a v,x=.ref a∧Gp H2 a y (some v)∧Q v H2
def Zs (td ty tv:TE):TS:=fun D σ H=>tv σ H fun v H1=>td σ H1 fun x H2=>ty σ H2 fun y H3=>∃a H4,x=.ref a∧Lz H3 a y v H4∧D.nx σ H4
section
variable {X:Cx} {o i e value:Expr} {pos pos' tpos:Pos} {td ty tv:TE}
theorem OJ (hu:X.A.units+1 < Pl) (ho:PE X o td) (hi:PE X i ty) (hs:Wb i):PE X (.Subscript o i pos) (Zv td ty):=by intro pins s σ H Q I h;refine Lh PySem.F.slot_dict_getitem.lookup hs (kT (ho pins s σ H _ I h) fun u s1 ⟨x,H1,I1,rx,q1⟩=>kT (hi pins s1 σ H1 _ I1 q1) fun iv s2 ⟨y,H2,I2,ry,a,v,ex,g,q2⟩=>?_);subst ex;obtain rfl:u=dC a:=rx;exact⟨Cj I2 g,Ms hu I2 g ry fun w' s3 I3 rw'=>⟨v,H2,I3,rw',q2⟩⟩
theorem Ux (hu:X.A.units+1 < Pl) (ho:PE X o td) (hi:PE X i ty) (hv:PE X value tv) (hs:wM value (some (.Subscript o i pos')) pos.line X.env=pure false):
  PS X (.Assign [.Subscript o i pos'] value pos) (Zs td ty tv):=by
 intro pins s σ H D I h;refine wpAny_Assign_Subscript (kT (hv pins s σ H _ I h) fun r s1 ⟨v,H1,I1,rv,q1⟩=>kT (ho pins s1 σ H1 _ I1 q1) fun u s2 ⟨x,H2,I2,rx,q2⟩=>kT (hi pins s2 σ H2 _ I2 q2) fun iv s3 ⟨y,H3,I3,ry,a,H4,ex,g,q3⟩=>?_) hs;subst ex;obtain rfl:u=dC a:=rx;exact Mt hu I3 g ry rv fun s4 I4=>⟨σ,H4,I4,q3⟩
end
theorem Qm (h:gC) (hb:oY < h.objs.size):lB P w H (h.push {cls:=.type "dict",data:=.dict #[]}) h.objs.size (.dT []):=⟨aY _,beq_eq_false_iff_ne.mpr (uM (eI hb)),[],.nil,_,#[],0,bQ _ rfl,⟨rfl,rfl,rfl⟩,rfl,rfl,FQ⟩
def Xh:TE:=fun _ H Q=>∀p,H p=none→Q (.ref p) (upd H p (.dT []))
section
variable {X:Cx} {pos:Pos}
theorem Ru:PE X (.Dict [] [] pos) Xh:=fun pins s σ H Q I h=>wpAny_Dict_empty ⟨.ref s.heap.objs.size,_,I.laid (a:=s.heap.objs.size) (o:=.dT []) (t':=s.toks) (fun _ _ q=>aF _ q) (aR _) (Qm s.heap I.big),rfl,h _ (I.hok.fresh (aR _))⟩
end
theorem PM:vL "reversed"=some (.type "reversed"):=by decide+kernel
section
variable {X:Cx} {pins:List (aQ×Obj)} {σ:St} {H:Hp} {s:aV} {h':gC}
theorem dH.turnedL {t':Nat} {ch:List aQ} (I:dH X pins σ H s) (k:∀b o,b∉ch→s.heap.get? b=some o→h'.get? b=some o) (hf:∀b∈ch,DA X pins H b):dH X pins σ H {s with heap:=h',toks:=t'}:=by
 have nit:∀b u,H b=some u→b∉ch:=fun b u e z=>by have q:=(hf b z).1;rw[q]at e;cases e
 refine I.step (g':=s.gens) (d':=s.drawn) (ch:=ch) (fun b hb=>⟨(hf b hb).2.2.2.1,(hf b hb).2.1,(hf b hb).2.2.2.2.1,(hf b hb).2.2.2.2.2⟩) (fun b o _ _ hc e _=>k b o hc e) (fun b o _ _ hc e _=>⟨o.slots,k b o hc e⟩)
  (fun _ _ _ _ n=>n) (fun b o hc e=>⟨o,k b o hc e⟩) (fun _ _ e=>e) (fun _ _ _ e=>e) (fun b ps e=>⟨#[],by rw[e];simp⟩) (fun m hm=>?_) (fun b u e=>?_) I.bare
 ·obtain⟨o,es,ep,ho,r⟩:=hm;exact⟨o,es,ep,k _ o (fun z=>(hf _ z).2.1 rfl) ho,r⟩
 ·refine(I.hok b u e).stay (fun c v hc q=>k c v ?_ q) (fun _ q=>q) fun _ _ q=>q;rcases hc with z | z
  ·rw[z];exact nit b u e
  ·exact nit c _ z
theorem dH.turnedNew {t':Nat} {ch:List aQ} {T:aQ} {ob:HO} (I:dH X pins σ H s) (k:∀b o,b∉ch→s.heap.get? b=some o→h'.get? b=some o) (hf:∀b∈ch,DA X pins H b) (hT:s.heap.objs.size≤T)
  (new:lB X.prog X.w (upd H T ob) h' T ob):dH X pins σ (upd H T ob) {s with heap:=h',toks:=t'}:=by
 have hn:H T=none:=I.hok.fresh hT;have nit:∀b u,H b=some u→b∉ch:=fun b u e z=>by have q:=(hf b z).1;rw[q]at e;cases e
 refine I.step (g':=s.gens) (d':=s.drawn) (ch:=ch) (fun b hb=>⟨(hf b hb).2.2.2.1,(hf b hb).2.1,(hf b hb).2.2.2.2.1,(hf b hb).2.2.2.2.2⟩) (fun b o _ _ hc e _=>k b o hc e) (fun b o _ _ hc e _=>⟨o.slots,k b o hc e⟩)
  (fun b o _ e n=>?_) (fun b o hc e=>⟨o,k b o hc e⟩) (fun b xs e=>?_) (fun b o u e=>?_) (fun b ps e=>⟨#[],?_⟩) (fun m hm=>?_) (fun b u e=>?_) I.bare
 ·rw[bK (eI (bZ (bY e) hT))];exact n
 ·rw[bK (dL e hn)];exact e
 ·rw[bK (dL e hn)];exact e
 ·rw[bK (dL e hn),e];simp
 ·obtain⟨o,es,ep,ho,r⟩:=hm;exact⟨o,es,ep,k _ o (fun z=>(hf _ z).2.1 rfl) ho,r⟩
 ·by_cases hb:b=T
  ·subst hb;rw[aG]at e;cases e;exact new
  ·rw[bK hb]at e;refine(I.hok b u e).stay (fun c v hc q=>k c v ?_ q) (fun c q=>by rw[bK (dL q hn)];exact q) fun c xs q=>by rw[bK (dL q hn)];exact q
   rcases hc with z | z
   ·rw[z];exact nit b u e
   ·exact nit c _ z
end
section
variable {X:Cx}
theorem Ab (I:dH X pins σ H s) (o:Obj)
  (T:UK X.prog X.w X.K tg J [s.heap.objs.size] s.heap.objs.size tn) (st:tn 0 (s.heap.push o)) (q:R J H):C4 X pins σ tg R (.ref s.heap.objs.size) {s with heap:=s.heap.push o,toks:=tk}:=by
 refine⟨s.heap.objs.size,[s.heap.objs.size],tn,J,H,rfl,I.kept fun b ob e=>aF _ e,T,st,fun b hb=>?_,q⟩;have e:b=s.heap.objs.size:=by simpa using hb
 subst e;exact I.fpOk (aR _) (I.hok.fresh (aR _))
end
def Yb (lo c:Int) (n:Nat):It:=⟨fun i _=>i < n,fun i H x H'=>H'=H∧x=.int (lo+(i:Nat) * c),fun i _=>n≤i⟩
theorem Fn {P:dF} {w:eV} {K:aB} {tg:Expr} (it:aQ) (lo c:Int) (n:Nat):UK P w K tg (Yb lo c n) [it] it (fun i h=>Bl h it (lo+(i:Nat) * c) ((n:Int) - (i:Nat)) c) where
 mem:=by simp
 obj:=fun i h st b hb=>by
  have e:b=it:=by simpa using hb
  subst e;exact⟨_,st,fun v z=>nomatch z⟩
 keep:=fun i h h' st k=>k it (by simp) _ st
 item:=by intro X hP hw hK hc i pins s σ H E I hf st hg;subst hP hw hK;obtain⟨f0,f1,f2,f3,f4,f5⟩:=hf it (by simp);have W:=Walks.range (prog:=X.prog) (w:=X.w) (I.ok.hd hc) it lo c n;refine W.item i s _ _ hg st fun v h' tk hv st' kk=>?_;obtain⟨t,rfl⟩:=hv;have I1:dH X pins σ H {s with heap:=h',toks:=tk}:=I.turned (fun b o hb e=>kk b o (by simpa using hb) e) f0 f1 f3 f4 f5;exact⟨_,rfl,WL (s:={s with heap:=h',toks:=tk}) (n:="range_iterator") st' rfl rfl (by decide) ⟨.int (lo+(i:Nat) * c),H,I1,⟨t,rfl⟩,⟨rfl,rfl⟩,st',fun b hb=>(hf b hb).1⟩⟩
 done:=by intro X hP hw hK hc i pins s σ H E I hf st hg;subst hP hw hK;obtain⟨f0,f1,f2,f3,f4,f5⟩:=hf it (by simp);exact wpAny_pyNext_range_end (I.ok.hd hc) st (by have:n≤i:=hg;omega) fun h' eb=>⟨rfl,I.turned (t':=s.toks) (fun b o hb e=>eb b o hb e) f0 f1 f3 f4 f5⟩
 self:=fun A i s Q E st h=>wpAny_pyIter_rangeiter st h
def Yf (i j c:Int) (n:Nat):Prop:=c≠0∧c.natAbs < 1073741824∧Builtin.Range.small i j c=true∧wL i j c=n
theorem Yf.neg (ha: -(2 ^ 62)≤i) (ha':i < 2 ^ 62) (hb: -(2 ^ 62)≤j) (hb':j < 2 ^ 62):Yf i j (-1) (i - j).toNat:=⟨by decide,by decide,PySem.W.small_down ha ha' hb hb',PySem.W.rangeSize_downNat i j⟩
def Yy (ta:TA):TI:=fun σ H R=>ta σ H fun vs H1=>∃(i j c:Int) (n:Nat),vs=[.int i,.int j,.int c]∧Yf i j c n∧R (Yb i c n) H1
section
variable {X:Cx} {tg:Expr}
theorem XD (hg:Gl X "range") (hm:X.mg "range"=none) (ha:PA X [a,b,c] ta)
  (hs:bO [a,b,c] X.env=(false,gZ a X.env)::bO [b,c] X.env:=by rfl) (hpl:(jD pos (bO [b,c] X.env)).any (·.1)=false:=by rfl):
  PI X tg (.Call (.Name "range" p) [a,b,c] [] pos) (Yy ta):=by
 intro pins s σ H R I h;refine Pd (tY I hg hm boot_range (fR (kT (ha pos pins s σ H _ I h) fun us s1 ⟨vs,H1,I1,r1,q1⟩=>?_) hs hpl));obtain⟨i,j,k,n,e,⟨c0,c1,c2,c3⟩,q⟩:=q1;subst e;cases r1 with
 | cons r rr=>
  cases rr with
  | cons r' rr=>
   cases rr with
   | cons r'' rr=>
    cases rr;obtain⟨t,rfl⟩:=r;obtain⟨t',rfl⟩:=r';obtain⟨t'',rfl⟩:=r'';refine call_range_3 c0 ?_ (.inl (PyProof.noPylong_small c1));refine wpAny_pyIter_range (IsRange.new ..) c2 ?_;have I2:dH X pins σ H1 {s1 with heap:=s1.heap.push {cls:=.type "range",data:=.fields #[.int i t,.int j t',.int k t'']}}:=I1.kept (t':=s1.toks) fun b o e=>aF _ e;refine Ab (tk:=s1.toks) I2 _ (Fn _ i k n) ?_ q;have e1:i+((0:Nat):Int) * k=i:=by simp
    have e2:(n:Int) - ((0:Nat):Int)=wL i j k:=by rw[c3];simp
    show Bl _ _ (i+((0:Nat):Int) * k) ((n:Int) - ((0:Nat):Int)) k;rw[e1,e2];exact bQ _ rfl
end
theorem QI {lo c:Int} {n:Nat} {g:TG} {tb:TS} {D:HC} {σ:St} {H:Hp} (Pv:Nat→St→Hp→Prop) (h0:Pv 0 σ H)
  (hs:∀i σ H,i < n→Pv i σ H→g (.int (lo+(i:Nat) * c)) σ H fun σ2 H2=>tb {D with nx:=Pv (i+1),ct:=Pv (i+1),bk:=D.nx} σ2 H2) (hd:∀σ H,Pv n σ H→D.nx σ H):
  ∃W:Nat→Nat→St→Hp→Prop,(∃m,W 0 m σ H)∧∀i m σ H,W i m σ H→
   ((Yb lo c n).stop i H∧D.nx σ H)∨((Yb lo c n).go i H∧∃N:St→Hp→Prop,(∀σ' H',N σ' H'→∃m',m' < m∧W (i+1) m' σ' H')∧∀x H',(Yb lo c n).yld i H x H'→g x σ H' fun σ2 H2=>tb {D with nx:=N,ct:=N,bk:=D.nx} σ2 H2):=by
 refine⟨fun i m σ H=>m=n - i∧i≤n∧Pv i σ H,⟨n,by simp,aY _,h0⟩,?_⟩;rintro i m σ H ⟨rfl,hi,p⟩;by_cases hlt:i < n
 ·refine .inr ⟨hlt,Pv (i+1),fun σ' H' p'=>⟨n - (i+1),by omega,rfl,hlt,p'⟩,fun x H' y=>?_⟩;obtain⟨e,y⟩:=y;subst e y;exact hs i σ _ hlt p
 ·have e:i=n:=by omega
  subst e;exact .inl ⟨aR _,hd σ H p⟩
def Yd (K:aB) (a:aQ) (n:Nat):It:=⟨fun i H=>i < n∧∃(xs:List V) (x:V),gX K H a xs∧xs[n - 1 - i]?=some x,fun i H x H'=>H'=H∧∀xs,gX K H a xs→xs[n - 1 - i]?=some x,fun i _=>n≤i⟩
theorem Su {P:dF} {w:eV} {K:aB} {tg:Expr} (a it:aQ) (n:Nat):UK P w K tg (Yd K a n) [it] it (fun i h=>i≤n∧h.IsRevIter it a ((n:Int) - 1 - (i:Nat))) where
 mem:=by simp
 obj:=fun i h st b hb=>by
  have e:b=it:=by simpa using hb
  subst e;obtain⟨_,o,e,c,d⟩:=st;exact⟨o,e,fun v z=>by rw[d]at z;cases z⟩
 keep:=fun i h h' st k=>⟨st.1,st.2.at fun o e=>k it (by simp) o e⟩
 item:=by
  intro X hP hw hK hc i pins s σ H E I hf st hg;subst hP hw hK;obtain⟨hin,xs,x,hq,hx⟩:=hg;obtain⟨eG,rv,p,hz⟩:=I.list hq;obtain⟨u,hu,ru⟩:=rv.get hx;obtain⟨f0,f1,f2,f3,f4,f5⟩:=hf it (by simp);obtain⟨_,hit⟩:=st;have e1:(n:Int) - 1 - ((i:Nat):Int)=((n - 1 - i:Nat):Int):=by omega
  rw[e1]at hit;refine wpAny_pyNext_rev_item hit p.isList (x:=u) (by simpa using hu) fun h' st' sb=>?_;have e2:((n - 1 - i:Nat):Int) - 1=(n:Int) - 1 - ((i+1:Nat):Int):=by omega
  rw[e2]at st';have I1:dH X pins σ H {s with heap:=h'}:=I.turned (t':=s.toks) (fun b o hb e=>(sb.2 b hb).trans e) f0 f1 f3 f4 f5;obtain⟨o,e,c,d⟩:=id st';exact⟨u,rfl,WL (s:={s with heap:=h'}) e c d (by decide) ⟨x,H,I1,ru,⟨rfl,fun ys hy=>by rw[I.list_inj hy hq];exact hx⟩,⟨hin,st'⟩,fun b hb=>(hf b hb).1⟩⟩
 done:=by
  intro X hP hw hK hc i pins s σ H E I hf st hg;subst hP hw hK;obtain⟨f0,f1,f2,f3,f4,f5⟩:=hf it (by simp);obtain⟨hin,hit⟩:=st;have hge:n≤i:=hg;have e1:(n:Int) - 1 - ((i:Nat):Int)= -1:=by omega
  rw[e1]at hit;exact wpAny_pyNext_rev_end (I.ok.hd hc) hit fun h' eb=>⟨rfl,I.turned (t':=s.toks) (fun b o hb e=>eb b o hb e) f0 f1 f3 f4 f5⟩
 self:=fun A i s Q E st h=>wpAny_pyIter_revIter st.2 h
def D0 (K:aB) (ta:TA):TI:=fun σ H R=>ta σ H fun vs H1=>∃(a:aQ) (xs:List V),vs=[.ref a]∧gX K H1 a xs∧R (Yd K a xs.length) H1
section
variable {X:Cx} {tg:Expr}
theorem Ei {e:Expr} {ta:TA} {p pos:Pos} (hg:Gl X "reversed") (hm:X.mg "reversed"=none) (ha:PA X [e] ta) (hs:bO [e] X.env=[(false,gZ e X.env)]:=by rfl):PI X tg (.Call (.Name "reversed" p) [e] [] pos) (D0 X.K ta):=by
 intro pins s σ H R I h;refine Pd (tY I hg hm PM (fR (kT (ha pos pins s σ H _ I h) fun us s1 ⟨vs,H1,I1,r1,q1⟩=>?_) hs rfl));obtain⟨a,xs,e,hq,q⟩:=q1;subst e;cases r1 with
 | cons r rr=>
  cases rr;cases r;obtain⟨eG,rv,p',hz⟩:=I1.list hq;have hl:=rv.length;have e1:((eG.toArray.size:Nat):Int) - 1=(xs.length:Int) - 1 - ((0:Nat):Int):=by simp only[bN];omega
  refine call_reversed_list p'.isList (wpAny_pyIter_revIter (l:=a) (i:=((eG.toArray.size:Nat):Int) - 1) ⟨_,bQ _ rfl,rfl,rfl⟩ ?_);refine Ab (tk:=s1.toks) I1 _ (Su a _ xs.length) ⟨aY _,?_⟩ q;rw[←e1];exact⟨_,bQ _ rfl,rfl,rfl⟩
end
def Vq (x:Str):It:=⟨fun i _=>i < x.cps.size,fun i H v H'=>H'=H∧∃c,x.cps[i]?=some c∧v=.str ⟨#[c]⟩,fun i _=>x.cps.size≤i⟩
theorem Fo {P:dF} {w:eV} {K:aB} {tg:Expr} (it:aQ) (x:Str) (t:Tok) (ty:String) (hty:ty="str_ascii_iterator"∨ty="str_iterator"):
  UK P w K tg (Vq x) [it] it (fun i h=>h.IsStrIter it ty x t i) where
 mem:=by simp
 obj:=fun i h st b hb=>by
  have e:b=it:=by simpa using hb
  subst e;obtain⟨o,e,c,d⟩:=st;exact⟨o,e,fun v z=>by rw[d]at z;cases z⟩
 keep:=fun i h h' st k=>let ⟨o,ho,r⟩:=st;⟨o,k it (by simp) o ho,r⟩
 item:=by
  intro X hP hw hK hc i pins s σ H E I hf st hg;subst hP hw hK;obtain⟨f0,f1,f2,f3,f4,f5⟩:=hf it (by simp);have W:Walks X.prog X.w X.A it [it] [it] x.cps.size (SignAt x) (fun i h=>h.IsStrIter it ty x t i):=by
   rcases hty with e | e
   ·rw[e];exact Walks.strAscii (I.ok.hd hc) it x t
   ·rw[e];exact Walks.strWide (I.ok.hd hc) it x t
  have hno:["enumerate","zip","dict_itemiterator","dict_reverseitemiterator","odict_iterator","itertools.zip_longest","itertools.pairwise"].contains ty=false:=by
   rcases hty with e | e
   ·rw[e];decide
   ·rw[e];decide
  refine W.item i s _ _ hg st fun v h' tk hv st' kk=>?_;obtain⟨c,u,hcx,rfl⟩:=hv;have I1:dH X pins σ H {s with heap:=h',toks:=tk}:=I.turned (fun b o hb e=>kk b o (by simpa using hb) e) f0 f1 f3 f4 f5;obtain⟨oi,e,cc,dd⟩:=id st';exact⟨_,rfl,WL (s:={s with heap:=h',toks:=tk}) e cc dd hno ⟨.str ⟨#[c]⟩,H,I1,⟨u,rfl⟩,⟨rfl,c,hcx,rfl⟩,st',fun b hb=>(hf b hb).1⟩⟩
 done:=by
  intro X hP hw hK hc i pins s σ H E I hf st hg;subst hP hw hK;obtain⟨f0,f1,f2,f3,f4,f5⟩:=hf it (by simp);have hx:x.cps[i]?=none:=Array.getElem?_eq_none hg;rcases hty with e | e
  ·rw[e]at st;exact wpAny_pyNext_ascii_end (I.ok.hd hc) st hx fun h' eb=>⟨rfl,I.turned (t':=s.toks) (fun b o hb e=>eb b o hb e) f0 f1 f3 f4 f5⟩
  ·rw[e]at st;exact wpAny_pyNext_wide_end (I.ok.hd hc) st hx fun h' eb=>⟨rfl,I.turned (t':=s.toks) (fun b o hb e=>eb b o hb e) f0 f1 f3 f4 f5⟩
 self:=fun A i s Q E st h=>by
  rcases hty with e | e
  ·rw[e]at st;exact wpAny_pyIter_striter_ascii st h
  ·rw[e]at st;exact wpAny_pyIter_striter_wide st h
def D1 (te:TE):TI:=fun σ H R=>te σ H fun v H1=>∃x,v=.str x∧R (Vq x) H1
theorem Ry {X:Cx} {tg e:Expr} {te:TE} (he:PE X e te):PI X tg e (D1 te):=by
 intro pins s σ H R I h;refine kT (he pins s σ H _ I h) fun v s1 ⟨y,H1,I1,r1,x,ex,q⟩=>?_;subst ex;obtain⟨t,rfl⟩:=r1;cases ha:x.cps.all (· < 128)
 ·exact wpAny_pyIter_wide ha (Ab (tk:=s1.toks) I1 _ (Fo _ x t "str_iterator" (.inr rfl)) ⟨_,bQ _ rfl,rfl,rfl⟩ q)
 ·exact wpAny_pyIter_ascii ha (Ab (tk:=s1.toks) I1 _ (Fo _ x t "str_ascii_iterator" (.inl rfl)) ⟨_,bQ _ rfl,rfl,rfl⟩ q)
def Yc (K:aB) (a:aQ):It:=⟨fun i H=>∃(xs:List V) (x:V),gX K H a xs∧xs[i]?=some x,fun i H v H'=>∃T x,v=.ref T∧H T=none∧H'=upd H T (.tup [.int (i:Nat),x])∧∀xs,gX K H a xs→xs[i]?=some x,fun i H=>∃xs:List V,gX K H a xs∧xs.length≤i⟩
theorem Oq {P:dF} {w:eV} {K:aB} {elts:List Expr} {kk:Nat} {tpos:Pos} (a e it:aQ):
  UK P w K (.Tuple elts kk tpos) (Yc K a) [e,it] e (fun i h=>(∃old,IsEnum h e it ((i:Nat):Int) old)∧h.IsListIter it a i∧e≠it) where
 mem:=by simp
 obj:=fun i h st b hb=>by
  obtain⟨⟨old,he⟩,⟨o,ho,hc,hd⟩,_⟩:=st;have e':b=e∨b=it:=by simpa using hb
  rcases e' with z | z
  ·rw[z];exact⟨_,he,fun v q=>nomatch q⟩
  ·rw[z];exact⟨o,ho,fun v q=>by rw[hd]at q;cases q⟩
 keep:=fun i h h' st k=>let ⟨⟨old,he⟩,hi,hne⟩:=st;⟨⟨old,k e (by simp) _ he⟩,hi.at fun o q=>k it (by simp) o q,hne⟩
 item:=by
  intro X hP hw hK hc i pins s σ H E I hf st hg;subst hP hw hK;obtain⟨⟨old,he⟩,hit,hne⟩:=st;obtain⟨xs,x,hq,hx⟩:=hg;obtain⟨eG,rv,p,hz⟩:=I.list hq;obtain⟨u,hu,ru⟩:=rv.get hx;have hel:e < s.heap.objs.size:=bY he;have hil:it < s.heap.objs.size:=by obtain⟨_,q,_⟩:=hit;exact bY q
  refine wpAny_pyNext_enum_item he hit p.isList (x:=u) (by simpa using hu) hne fun h' ho hit' hT hsz hk=>?_;refine⟨_,rfl,wpAny_letOwnedTupleGo_enum (s:={s with heap:=h',toks:=s.toks+1}) ho fun h'' he' sb=>?_⟩;have hT2:h''.get? s.heap.objs.size=some {cls:=.type "tuple",data:=.seq #[.int i s.toks,u]}:=(sb.2 _ (CO hel)).trans hT;have new:lB X.prog X.w (upd H s.heap.objs.size (.tup [.int (i:Nat),x])) h'' s.heap.objs.size (.tup [.int (i:Nat),x]):=⟨by show 2≤aU;decide,[.int i s.toks,u],.cons ⟨_,rfl⟩ (.cons ru .nil),⟨_,hT2,rfl,_,rfl,rfl⟩⟩;have I1:dH X pins σ (upd H s.heap.objs.size (.tup [.int (i:Nat),x])) {s with heap:=h'',toks:=s.toks+1}:=I.turnedNew (ch:=[e,it]) (fun b ob hb q=>(sb.2 b (fun z=>hb (by simp[z]))).trans (hk b ob (fun z=>hb (by simp[z])) (fun z=>hb (by simp[z])) q)) hf (aR _) new;refine⟨.ref s.heap.objs.size,_,I1,rfl,⟨_,x,rfl,I.hok.fresh (aR _),rfl,fun ys hy=>by rw[I.list_inj hy hq];exact hx⟩,⟨⟨u,?_⟩,hit'.at fun o q=>(sb.2 it (uM hne)).trans q,hne⟩,fun b hb=>?_⟩
  ·have e1:((i+1:Nat):Int)=(i:Int)+1:=by omega
   rw[e1];exact he'
  ·have hb':b < s.heap.objs.size:=by
    have e':b=e∨b=it:=by simpa using hb
    rcases e' with z | z
    ·rw[z];exact hel
    ·rw[z];exact hil
   rw[bK (eI hb')];exact(hf b hb).1
 done:=by intro X hP hw hK hc i pins s σ H E I hf st hg;subst hP hw hK;obtain⟨⟨old,he⟩,hit,hne⟩:=st;obtain⟨xs,hq,hx⟩:=hg;obtain⟨eG,rv,p,hz⟩:=I.list hq;obtain⟨f0,f1,f2,f3,f4,f5⟩:=hf it (by simp);have hl:=rv.length;exact wpAny_pyNext_enum_end (I.ok.hd hc) he hit p.isList (by simp;omega) fun h' eb=>⟨rfl,I.turned (t':=s.toks) (fun b o hb q=>eb b o hb q) f0 f1 f3 f4 f5⟩
 self:=fun A i s Q E st h=>let ⟨⟨_,he⟩,_⟩:=st;wpAny_pyIter_enum he h
def Yv (K:aB) (ta:TA):TI:=fun σ H R=>ta σ H fun vs H1=>∃a xs,vs=[.ref a]∧gX K H1 a xs∧R (Yc K a) H1
theorem Kz {X:Cx} {e:Expr} {ta:TA} {p pos tpos:Pos} {elts:List Expr} {kk:Nat} (hg:Gl X "enumerate") (hm:X.mg "enumerate"=none) (ha:PA X [e] ta) (hs:bO [e] X.env=[(false,gZ e X.env)]:=by rfl):
  PI X (.Tuple elts kk tpos) (.Call (.Name "enumerate" p) [e] [] pos) (Yv X.K ta):=by
 intro pins s σ H R I h;refine Pd (tY I hg hm boot_enumerate (fR (kT (ha pos pins s σ H _ I h) fun us s1 ⟨vs,H1,I1,r1,q1⟩=>?_) hs rfl));obtain⟨a,xs,ex,hq,q⟩:=q1;subst ex;cases r1 with
 | cons r rr=>
  cases rr;cases r;obtain⟨eG,rv,p',hz⟩:=I1.list hq;refine call_enumerate_list p'.isList fun h' he hit hsz hk=>wpAny_pyIter_enum he ?_;have I2:dH X pins σ H1 {s1 with heap:=h'}:=I1.kept (t':=s1.toks) hk;refine⟨s1.heap.objs.size+1,[s1.heap.objs.size+1,s1.heap.objs.size],_,_,H1,rfl,I2,Oq a (s1.heap.objs.size+1) s1.heap.objs.size,⟨⟨.none,he⟩,hit,Nat.succ_ne_self _⟩,fun b hb=>?_,q⟩;have e':b=s1.heap.objs.size+1∨b=s1.heap.objs.size:=by simpa using hb
  have hle:s1.heap.objs.size≤b:=by
   rcases e' with z | z
   ·rw[z];exact OQ _ _
   ·rw[z];exact aR _
  exact I1.fpOk hle (I1.hok.fresh hle)
theorem WD:vL "zip"=some (.type "zip"):=by decide+kernel
end L2
section
namespace TL
open PySem PySem.Builtin PySem.Builtin.Str PySem.StrLaws
abbrev tl (x:Str):List Nat:=x.cps.toList
theorem XR (x y:Str):tl (x++y)=tl x++tl y:=by show(x++y).cps.toList=_;rw[Str.cps_append,Array.toList_append]
def QR (S:List Nat):List (List Nat)→List Nat
 | []=>[]
 | [p]=>p
 | p::q::r=>p++(S++QR S (q::r))
theorem Ll (y:Str):∀parts:List Str,tl (Lu y parts)=QR (tl y) (parts.map tl)
 | []=>rfl
 | [_]=>rfl
 | x::z::r=>by show tl (x++y++Lu y (z::r))=tl x++(tl y++QR (tl y) ((z::r).map tl));rw[XR,XR,Ll y (z::r),fH]
theorem Tx (y:Str) (parts:List Str):Txt.join y parts=Lu y parts:=glued_eq_join y parts
def Ie (n:Nat):List Nat:=(xF 10 n).map VO
theorem Xm (n:Nat):tl (jY (iM ((n:Nat):Int)))=Ie n:=PySem.W.KIN.signs_num n
theorem FY:∀d:Nat,d < 10→(Bv d).toNat=48+d:=by decide
theorem Uj (h:n < 10):Ie n=[48+n]:=by unfold Ie;rw[Fx h];show [(Bv n).toNat]=_;rw[FY n h]
theorem Nl (h:10≤n):Ie n=Ie (n / 10)++[48+n % 10]:=by have hm:n % 10 < 10:=YA n (by decide);have t:xF 10 (n / 10)++xF 10 (n % 10)=xF 10 (10 * (n / 10)+n % 10):=Nat.toDigits_append_toDigits (by decide) (by omega) hm;rw[Nat.div_add_mod]at t;show(xF 10 n).map VO=_;rw[←t,aW,Fx hm];show(xF 10 (n / 10)).map VO++[(Bv (n % 10)).toNat]=_;rw[FY _ hm]<;>rfl
end TL
end
namespace L2
open PySem PySem.Spec PyProof.Rows
open PySem.W (Frag)
theorem BO:∀{ys:List Str} {us:List Value},fY (ys.map V.str) us→StrsAre us ys
 | [],_,.nil=>.nil
 | y::ys,_,.cons r t=>by obtain⟨k,rfl⟩:=r;exact .cons y k (BO t)
section
variable {X:Cx}
theorem Ui:Xr X "str.join" (fun x xs H Q=>∃a p,∃ys:List Str,x=.str a∧xs=[.ref p]∧(gX X.K H p (ys.map V.str)∨fE X.K H p (ys.map V.str))∧
  (ys.map (·.length)).sum+ys.length * a.length≤16777216∧Q (.str (Txt.join a ys)) H):=by
 intro pins s σ H x xs v us Q I rx rs h;obtain⟨a,p,ys,rfl,rfl,hp,hz,h⟩:=h;obtain⟨t,rfl⟩:=rx;cases rs with
 | cons r1 rs=>
  cases rs;cases r1;rcases hp with hp | hp
  ·obtain⟨eG,r,⟨o,n,ho,hc,_,hd⟩,_⟩:=I.list hp;exact PyProof.Rows.join_list (items:=eG.toArray) ⟨o,ho,hc,n,hd⟩ (by rw[wJ];exact BO r) hz fun t' k=>⟨.str _,H,I.tok k,⟨t',rfl⟩,h⟩
  ·obtain⟨eG,r,ht,_⟩:=I.tuple hp;exact PyProof.Rows.join_tuple (items:=eG.toArray) ht (by rw[wJ];exact BO r) hz fun t' k=>⟨.str _,H,I.tok k,⟨t',rfl⟩,h⟩
theorem G9 {id:String} {C:Str→Prop} {g:Str→V} (rule:∀(a:Str) (t:Tok) (s:aV) (Q:Value→aV→Prop),C a→(∀(u:Value) (k:Nat),gK (g a) u→Q u {s with toks:=k})→
  bL (cB X.prog X.w) X.A (call (.builtin id) [.str a t]) Q X.xe s):Xr X id (fun x xs H Q=>∃a,x=.str a∧xs=[]∧C a∧Q (g a) H):=by
 intro pins s σ H x xs v us Q I rx rs h;obtain⟨a,rfl,rfl,hc,h⟩:=h;obtain⟨t,rfl⟩:=rx;cases rs;exact rule a t s _ hc fun u k r=>⟨g a,H,I.tok k,r,h⟩
theorem HP:Xr X "str.isdigit" (fun x xs H Q=>∃a,x=.str a∧xs=[]∧True∧Q (.bl (GV a)) H):=G9 (C:=fun _=>True) (g:=fun a=>.bl (GV a)) fun _ _ s _ _ h=>PySem.SC.isdigit (h _ s.toks rfl)
theorem YO:CW X (.type "int") (fun xs H Q=>∃a n,xs=[.str a]∧PySem.intText? a=some n∧a.length≤640∧Q (.int n) H):=by
 intro pins s σ H xs us Q I rs h;obtain⟨a,n,rfl,hn,hl,h⟩:=h;cases rs with
 | cons r1 rs=>cases rs;obtain⟨t,rfl⟩:=r1;exact PySem.W.KIN.call_text hn hl ⟨.int n,H,I.tok _,⟨_,rfl⟩,h⟩
end
def Km (s:yL) (j:Nat):yL:=match s with
 | .ClassDef _ _ _ body _ _ _ _ _ _ _=>body.getD j (.Pass ⟨0,0,0,0⟩)
 | _=>.Pass ⟨0,0,0,0⟩
def vY (s:yL):Arguments:=match s with
 | .FunctionDef _ a _ _ _ _ _ _ _ _=>a
 | _=>{posonlyargs:=[],args:=[],vararg:=none,kwonlyargs:=[],kw_defaults:=[],kwarg:=none,defaults:=[]}
def uO (s:yL):List yL:=match s with
 | .FunctionDef _ _ b _ _ _ _ _ _ _=>b
 | _=>[]
def gW (s:yL):zB:=match s with
 | .FunctionDef _ _ _ _ _ _ sc _ _ _=>sc
 | _=>{kind:=.function,names:=[],isGenerator:=false,isCoroutine:=false}
abbrev E0:XK:=fun _ _ _=>False
structure Gr (K:aB) (x qual:Str) (st:yL) (f:aQ) (fd:tM):Prop where
 ex:∃(oc:Value) (od:Option aQ) (kV doc pm:Value) (an:Option aQ) (cdv ct:Value) (osl:Array (Option Value)),
  fd=kK x qual (vY st) (uO st) (gW st) .none kV doc pm an cdv ct∧K.lookup f=some ⟨oc,od,.func fd,osl⟩∧sO K cdv qual=true
 kp:gG K (.ref f)=true
section
variable {P:dF} {w:eV} {K:aB} {mg:Str→Option Value} {base:gC}
theorem Gr.binds {x qual:Str} {st:yL} {f:aQ} {fd:tM} {ps:List Str} (F:Gr K x qual st f fd)
  (h:∀(kV doc pm:Value) (an:Option aQ) (cdv ct:Value) (us:List Value),us.length=ps.length→bindArgs (kK x qual (vY st) (uO st) (gW st) .none kV doc pm an cdv ct) ⟨us,[]⟩=pure (ps.zip us)):sP K fd ps []:=by
 obtain⟨oc,od,kV,doc,pm,an,cdv,ct,osl,rfl,lk,hcd⟩:=F.ex;exact .all (h kV doc pm an cdv ct)
theorem Hn {x qual:Str} {st:yL} {f:aQ} {oc:Value} {od an:Option aQ} {osl:Array (Option Value)} {kV doc pm cdv ct:Value} (l:K.lookup f=some ⟨oc,od,.func (kK x qual (vY st) (uO st) (gW st) .none kV doc pm an cdv ct),osl⟩) (c:sO K cdv qual=true) (k:gG K (.ref f)=true):Gr K x qual st f (kK x qual (vY st) (uO st) (gW st) .none kV doc pm an cdv ct):=⟨⟨oc,od,kV,doc,pm,an,cdv,ct,osl,rfl,l,c⟩,k⟩
end
theorem Vt (hr:jE k A):A.units+1 < Pl:=gP (Pb (by decide:1≤64) _) hr.units
section
variable {X:Cx}
theorem pv (i:Nat) (hN:X.N[i]?=some x:=by rfl) (hv:Xw X.env.scope x:=by first | exact bP rfl | exact Or.inr (bP rfl) | exact Or.inr (Or.inr rfl)) (hd:(x == ("__debug__":Str))=false:=by decide) (hcd:(x == ("__classdict__":Str))=false:=by decide):PE X (.Name x pos) (Jb i):=Wx hN hv hd hcd
end
theorem xK {A B:Prop} (h:B):if false=true then A else B:=by rw[if_neg cH];exact h
theorem sY {A B:Prop} (h:A):if true=true then A else B:=by rw[if_pos rfl];exact h
theorem nB {c A B:Prop} [Decidable c] (h1:c→A) (h2:¬c→B):if c then A else B:=by
 by_cases h:c
 ·rw[if_pos h];exact h1 h
 ·rw[if_neg h];exact h2 h
def aZ (H H':Hp):Prop:=∀b o,H b=some o→H' b=some o
theorem aZ.refl (H:Hp):aZ H H:=fun _ _ h=>h
theorem aZ.trans (a:aZ H H1) (b:aZ H1 H2):aZ H H2:=fun c o h=>b c o (a c o h)
theorem aZ.seq {K:aB} {H H':Hp} {a:aQ} {xs:List V} (e:aZ H H') (h:gX K H a xs):gX K H' a xs:=by
 rcases h with(h | ⟨o,h⟩) | h
 ·exact .inl (.inl (e _ _ h))
 ·exact .inl (.inr ⟨o,e _ _ h⟩)
 ·exact .inr h
open PySem.W (WData Codec OpenSpec Well WellAll ReadsW ReadsAllW)
mutual
inductive Dw (K:aB) (H:Hp):V→WData→Prop
 | non:Dw K H .non .none
 | bl (b:Bool):Dw K H (.bl b) (.bool b)
 | int (i:Int):Dw K H (.int i) (.int i)
 | str (x:Str):Dw K H (.str x) (.str x)
 | byt (b:Array UInt8):Dw K H (.byt b) (.bytes b.toList)
 | lst {a:aQ} {xs:List V} {ds:List WData}:gX K H a xs→CY K H xs ds→Dw K H (.ref a) (.list ds)
 | tup {a:aQ} {xs:List V} {ds:List WData}:fE K H a xs→CY K H xs ds→Dw K H (.ref a) (.tuple ds)
inductive CY (K:aB) (H:Hp):List V→List WData→Prop
 | nil:CY K H [] []
 | cons {v:V} {vs:List V} {d:WData} {ds:List WData}:Dw K H v d→CY K H vs ds→CY K H (v::vs) (d::ds)
end
theorem Ki {K:aB} {H:Hp}:∀ns:List Int,CY K H (ns.map V.int) (ns.map WData.int)
 | []=>.nil
 | n::r=>.cons (.int n) (Ki r)
theorem Kn {K:aB} {H:Hp}:∀(ns:List Int) (xs:List V),CY K H xs (ns.map WData.int)→xs=ns.map V.int
 | [],xs,h=>by cases h;rfl
 | n::r,xs,h=>by
  cases h with
  | cons h1 h2=>cases h1;rw[Kn r _ h2]<;>rfl
section
variable {P:dF} {w:eV} {K:aB} {H:Hp} {h:gC} {R:Lw} {cl:Str→Option aQ}
theorem Xf (hok:CF P w H h) (KX:K.In h) (q:gX K H a xs):∃(eG:List Value) (o:Obj) (n:Nat),fY xs eG∧h.get? a=some o∧o.cls=.type "list"∧o.data=.seq eG.toArray n:=by
 rcases q with q | ⟨o,eG,n,e,hc,_,hd,_,hv⟩
 ·obtain⟨_,eG,n,hv,e⟩:=(show lB P w H h a (.lst xs)from q.ok hok);exact⟨eG,_,n,hv,e,rfl,rfl⟩
 ·exact⟨eG.toList,o,n,hv,KX _ _ e,hc,by simp[hd]⟩
theorem Xg (hok:CF P w H h) (KX:K.In h) (q:fE K H a xs):∃(eG:List Value) (o:Obj) (n:Nat),fY xs eG∧h.get? a=some o∧o.cls=.type "tuple"∧o.data=.seq eG.toArray n:=by
 rcases q with q | ⟨o,eG,n,e,hc,hd,_,hv⟩
 ·obtain⟨_,eG,hv,o,e,hc,n,hd⟩:=(show lB P w H h a (.tup xs)from q.ok hok);exact⟨eG,o,n,hv,e,hc,hd.1⟩
 ·exact⟨eG.toList,o,n,hv,KX _ _ e,hc.1,by simp[hd]⟩
mutual
theorem Dw.reads (hok:CF P w H h) (KX:K.In h):∀(d:WData) (v:V) (u:Value),Dw K H v d→gK v u→∃as,ReadsW R cl h u d as
 | .none,_,_,x,r=>by cases x;cases r;exact⟨_,ReadsW.none⟩
 | .bool b,_,_,x,r=>by cases x;cases r;exact⟨_,ReadsW.bool b⟩
 | .int i,_,_,x,r=>by cases x;obtain⟨t,rfl⟩:=r;exact⟨_,ReadsW.int i t⟩
 | .str s,_,_,x,r=>by cases x;obtain⟨t,rfl⟩:=r;exact⟨_,ReadsW.str s t⟩
 | .bytes b,_,_,x,r=>by cases x;obtain⟨t,rfl⟩:=r;exact⟨_,ReadsW.bytes _ t⟩
 | .list ds,_,_,x,r=>by
  cases x with
  | lst hs ha=>cases r;obtain⟨eG,o,n,rv,ho,hc,hd⟩:=Xf hok KX hs;obtain⟨as,hr⟩:=Dw.readsAll hok KX ds _ eG ha rv;exact⟨_,ReadsW.list ho hc hd hr⟩
 | .tuple ds,_,_,x,r=>by
  cases x with
  | tup hs ha=>cases r;obtain⟨eG,o,n,rv,ho,hc,hd⟩:=Xg hok KX hs;obtain⟨as,hr⟩:=Dw.readsAll hok KX ds _ eG ha rv;exact⟨_,ReadsW.tuple ho hc hd hr⟩
 | .float _,_,_,x,_=>by cases x
 | .dict _,_,_,x,_=>by cases x
 | .bytearray _,_,_,x,_=>by cases x
 | .set _,_,_,x,_=>by cases x
 | .frozenset _,_,_,x,_=>by cases x
 | .obj _ _,_,_,x,_=>by cases x
theorem Dw.readsAll (hok:CF P w H h) (KX:K.In h):∀(ds:List WData) (vs:List V) (us:List Value),CY K H vs ds→fY vs us→∃as,ReadsAllW R cl h us ds as
 | [],_,_,x,r=>by cases x;cases r;exact⟨_,ReadsAllW.nil⟩
 | d::ds,_,_,x,r=>by
  cases x with
  | cons h1 h2=>
   cases r with
   | cons r1 r2=>obtain⟨as,q1⟩:=Dw.reads hok KX d _ _ h1 r1;obtain⟨bs,q2⟩:=Dw.readsAll hok KX ds _ _ h2 r2;exact⟨_,ReadsAllW.cons q1 q2⟩
end
end
mutual
def La:WData→Bool
 | .none=>true
 | .bool _=>true
 | .int _=>true
 | .str _=>true
 | .bytes _=>true
 | .list xs=>NV xs
 | .tuple xs=>NV xs
 | _=>false
def NV:List WData→Bool
 | []=>true
 | x::r=>La x && NV r
end
theorem Ej {α:Type} {f:α→WData} (h:∀a,La (f a)=true):∀l:List α,NV (l.map f)=true
 | []=>rfl
 | x::r=>by show(La (f x) && NV (r.map f))=true;rw[h x,Ej h r]<;>rfl
theorem DT:∀(c:Codec) (a:c.denote),La (c.enc a)=true
 | .unit,_=>rfl
 | .bool,_=>rfl
 | .int _ _,_=>rfl
 | .nat _ _,_=>rfl
 | .u8,_=>rfl
 | .bytes _ _,_=>rfl
 | .text _ _ _ _,_=>rfl
 | .list _ _ c,a=>Ej (fun x=>DT c x) a
 | .pair c d,a=>by show(La (c.enc a.1) && (La (d.enc a.2) && true))=true;rw[DT c a.1,DT d a.2]<;>rfl
 | .triple c d e,a=>by show(La (c.enc a.1) && (La (d.enc a.2.1) && (La (e.enc a.2.2) && true)))=true;rw[DT c a.1,DT d a.2.1,DT e a.2.2]<;>rfl
 | .option c,none=>rfl
 | .option c,some x=>DT c x
theorem XE:∀(cs:List Codec) (a:Codec.denoteAll cs),NV (Codec.encAll cs a)=true
 | [],_=>rfl
 | c::cs,a=>by show(La (c.enc a.1) && NV (Codec.encAll cs a.2))=true;rw[DT c a.1,XE cs a.2]<;>rfl
theorem HY:∀{xs:List WData} {d:WData},d∈xs→d.weight≤WData.weightAll xs
 | [],d,h=>absurd h (by simp)
 | x::r,d,h=>by
  show d.weight≤x.weight+1+WData.weightAll r;rcases aT.mp h with e | m
  ·rw[e];omega
  ·have z:=HY m;omega
def Fl:Value→V
 | .none=>.non
 | .bool b=>.bl b
 | .int i _=>.int i
 | .str x _=>.str x
 | .bytes b _=>.byt b
 | .ref a=>.ref a
 | _=>.non
def Mc (A:List aQ):Value→Prop
 | .none=>True
 | .bool _=>True
 | .int _ _=>True
 | .str _ _=>True
 | .bytes _ _=>True
 | .ref a=>a∈A
 | _=>False
theorem Mc.mono (h:∀a∈A,a∈B):∀{u:Value},Mc A u→Mc B u:=fun {u} x=>by
 cases u with
 | ref a=>exact h a x
 | none=>trivial
 | bool b=>trivial
 | int i t=>trivial
 | str s t=>trivial
 | bytes b t=>trivial
 | _=>exact eM x
theorem Sg (x:Mc A u):gK (Fl u) u:=by
 cases u with
 | ref a=>rfl
 | none=>rfl
 | bool b=>rfl
 | int i t=>exact⟨t,rfl⟩
 | str s t=>exact⟨t,rfl⟩
 | bytes b t=>exact⟨t,rfl⟩
 | _=>exact eM x
theorem zY:∀{vs:List Value},(∀u∈vs,Mc A u)→fY (vs.map Fl) vs
 | [],_=>.nil
 | u::r,h=>.cons (Sg (h u (aM ..))) (zY fun x hx=>h x (aL _ hx))
def CA (h:gC) (A:List aQ) (a:aQ):Prop:=∃vs:List Value,vs.length≤aU∧(∀u∈vs,Mc A u)∧(h.get? a=some {cls:=.type "list",data:=.seq vs.toArray}∨h.get? a=some {cls:=.type "tuple",data:=.seq vs.toArray})
theorem CA.mono (k:∀a∈A,a∈B) (x:CA h A a):CA h B a:=by obtain⟨vs,h1,h2,h3⟩:=x;exact⟨vs,h1,fun u hu=>(h2 u hu).mono k,h3⟩
theorem yF:∀{vs:List Value} {ds:List WData},WellAll P h vs ds→vs.length=ds.length
 | _,_,.nil=>rfl
 | _,_,.cons _ b=>by show _+1=_+1;rw[yF b]
theorem XV (x:Well P h v (.list ds)):∃(a:aQ) (vs:List Value),v=.ref a∧h.get? a=some {cls:=.type "list",data:=.seq vs.toArray}∧WellAll P h vs ds:=by
 cases x with
 | list ho hall=>exact⟨_,_,rfl,ho,hall⟩
theorem TJ (x:Well P h v (.tuple ds)):∃(a:aQ) (vs:List Value),v=.ref a∧h.get? a=some {cls:=.type "tuple",data:=.seq vs.toArray}∧WellAll P h vs ds:=by
 cases x with
 | tuple ho hall=>exact⟨_,_,rfl,ho,hall⟩
theorem XU (x:WellAll P h us (d::ds)):∃(v:Value) (vs:List Value),us=v::vs∧Well P h v d∧WellAll P h vs ds:=by
 cases x with
 | cons a b=>exact⟨_,_,rfl,a,b⟩
theorem Kq (h:n≤1048576):n≤aU:=bI h (by decide)
section
variable {P:Params} {h:gC}
mutual
theorem Pz:∀(d:WData) (v:Value),Well P h v d→La d=true→d.weight≤1048576→∃A:List aQ,Mc A v∧∀a∈A,CA h A a
 | .none,_,x,_,_=>by cases x;exact⟨[],trivial,fun a m=>absurd m (by simp)⟩
 | .bool b,_,x,_,_=>by cases x;exact⟨[],trivial,fun a m=>absurd m (by simp)⟩
 | .int i,_,x,_,_=>by cases x;exact⟨[],trivial,fun a m=>absurd m (by simp)⟩
 | .str s,_,x,_,_=>by cases x;exact⟨[],trivial,fun a m=>absurd m (by simp)⟩
 | .bytes b,_,x,_,_=>by cases x;exact⟨[],trivial,fun a m=>absurd m (by simp)⟩
 | .list ds,_,x,p,z=>by
  obtain⟨a,vs,rfl,ho,hall⟩:=XV x;have z2:WData.weightAll ds≤1048576:=z;obtain⟨A,h1,h2⟩:=IW ds _ hall p fun d hd=>bI (HY hd) z2;have k:∀b∈A,b∈a::A:=fun b hb=>aL _ hb;refine⟨a::A,aM ..,fun b hb=>?_⟩;rcases aT.mp hb with e | m
  ·rw[e];exact⟨vs,Kq (by rw[yF hall];exact bI (NH ds) z2),fun u hu=>(h1 u hu).mono k,.inl ho⟩
  ·exact(h2 b m).mono k
 | .tuple ds,_,x,p,z=>by
  obtain⟨a,vs,rfl,ho,hall⟩:=TJ x;have z2:WData.weightAll ds≤1048576:=z;obtain⟨A,h1,h2⟩:=IW ds _ hall p fun d hd=>bI (HY hd) z2;have k:∀b∈A,b∈a::A:=fun b hb=>aL _ hb;refine⟨a::A,aM ..,fun b hb=>?_⟩;rcases aT.mp hb with e | m
  ·rw[e];exact⟨vs,Kq (by rw[yF hall];exact bI (NH ds) z2),fun u hu=>(h1 u hu).mono k,.inr ho⟩
  ·exact(h2 b m).mono k
 | .float _,_,_,p,_=>fB (show false=true from p)
 | .dict _,_,_,p,_=>fB (show false=true from p)
 | .bytearray _,_,_,p,_=>fB (show false=true from p)
 | .set _,_,_,p,_=>fB (show false=true from p)
 | .frozenset _,_,_,p,_=>fB (show false=true from p)
 | .obj _ _,_,_,p,_=>fB (show false=true from p)
theorem IW:∀(ds:List WData) (vs:List Value),WellAll P h vs ds→NV ds=true→(∀d∈ds,d.weight≤1048576)→∃A:List aQ,(∀u∈vs,Mc A u)∧∀a∈A,CA h A a
 | [],_,x,_,_=>by cases x;exact⟨[],fun u m=>absurd m (by simp),fun a m=>absurd m (by simp)⟩
 | d::ds,_,x,p,z=>by
  obtain⟨v,vs,rfl,x1,x2⟩:=XU x;have q:La d=true∧NV ds=true:=Jh.mp p;obtain⟨A,a1,a2⟩:=Pz d v x1 q.1 (z d (aM ..));obtain⟨B,b1,b2⟩:=IW ds vs x2 q.2 fun e he=>z e (aL _ he);have kA:∀b∈A,b∈A++B:=fun b hb=>eE.mpr (.inl hb);have kB:∀b∈B,b∈A++B:=fun b hb=>eE.mpr (.inr hb);refine⟨A++B,fun u hu=>?_,fun b hb=>?_⟩
  ·rcases aT.mp hu with e | m
   ·rw[e];exact a1.mono kA
   ·exact(b1 u m).mono kB
  ·rcases eE.mp hb with m | m
   ·exact(a2 b m).mono kA
   ·exact(b2 b m).mono kB
end
end
def Tt (o:Obj):Option HO:=match o.data with
 | .seq vs _=>if (o.cls == xG "list")=true then some (.frz o (.lst (vs.toList.map Fl)))else some (.frz o (.tup (vs.toList.map Fl)))
 | _=>none
def AM (K:aB) (h:gC) (A:List aQ):Hp:=fun b=>if b∈A then (if (K.lookup b).isNone=true then (h.get? b).bind Tt else none)else none
def Jy (H:Hp):Prop:=∀b,H b=none∨∃o u,H b=some (.frz o u)
theorem Cu (vs:List Value):Tt {cls:=.type "list",data:=.seq vs.toArray}=some (.frz {cls:=.type "list",data:=.seq vs.toArray} (.lst (vs.map Fl))):=by show(if (xG "list" == xG "list")=true then some (HO.frz {cls:=.type "list",data:=.seq vs.toArray} (.lst (vs.toArray.toList.map Fl)))else some (HO.frz {cls:=.type "list",data:=.seq vs.toArray} (.tup (vs.toArray.toList.map Fl))))=_;rw[if_pos (beq_self_eq_true _)]
theorem Cv (vs:List Value):Tt {cls:=.type "tuple",data:=.seq vs.toArray}=some (.frz {cls:=.type "tuple",data:=.seq vs.toArray} (.tup (vs.map Fl))):=by show(if (xG "tuple" == xG "list")=true then some (HO.frz {cls:=.type "tuple",data:=.seq vs.toArray} (.lst (vs.toArray.toList.map Fl)))else some (HO.frz {cls:=.type "tuple",data:=.seq vs.toArray} (.tup (vs.toArray.toList.map Fl))))=_;rw[if_neg (by decide)]
section
variable {P:dF} {w:eV} {K:aB} {h:gC} {A:List aQ}
theorem OB (hb:b∈A) (hk:K.lookup b=none) (e:h.get? b=some o):AM K h A b=Tt o:=by unfold AM;rw[if_pos hb,hk,if_pos (show(none:Option Obj).isNone=true from rfl),e]<;>rfl
theorem Uk (q:AM K h A b=some u):b∈A∧K.lookup b=none:=by
 unfold AM at q;by_cases hb:b∈A
 ·rw[if_pos hb]at q;cases hk:K.lookup b with
  | none=>exact⟨hb,rfl⟩
  | some o=>rw[hk,if_neg (by simp)]at q;cases q
 ·rw[if_neg hb]at q;cases q
theorem OC (ar:∀a∈A,CA h A a) (q:AM K h A b=some u):K.lookup b=none∧∃vs:List Value,vs.length≤aU∧(∀u∈vs,Mc A u)∧
  ((h.get? b=some {cls:=.type "list",data:=.seq vs.toArray}∧u=.frz {cls:=.type "list",data:=.seq vs.toArray} (.lst (vs.map Fl)))∨
   (h.get? b=some {cls:=.type "tuple",data:=.seq vs.toArray}∧u=.frz {cls:=.type "tuple",data:=.seq vs.toArray} (.tup (vs.map Fl)))):=by
 obtain⟨hb,hk⟩:=Uk q;obtain⟨vs,h1,h2,h3⟩:=ar b hb;refine⟨hk,vs,h1,h2,?_⟩;rcases h3 with e | e
 ·rw[OB hb hk e,Cu]at q;exact .inl ⟨e,(cO q).symm⟩
 ·rw[OB hb hk e,Cv]at q;exact .inr ⟨e,(cO q).symm⟩
theorem Me (ar:∀a∈A,CA h A a):Jy (AM K h A):=fun b=>by
 cases q:AM K h A b with
 | none=>exact .inl rfl
 | some u=>
  obtain⟨_,vs,_,_,⟨_,e⟩ | ⟨_,e⟩⟩:=OC ar q
  ·exact .inr ⟨_,_,by rw[e]⟩
  ·exact .inr ⟨_,_,by rw[e]⟩
theorem Ti (ar:∀a∈A,CA h A a):CF P w (AM K h A) h:=fun b u q=>by
 obtain⟨_,vs,h1,h2,⟨e,rfl⟩ | ⟨e,rfl⟩⟩:=OC ar q
 ·exact⟨e,by rw[aJ];exact h1,vs,_,zY h2,e⟩
 ·exact⟨e,by rw[aJ];exact h1,vs,zY h2,_,e,rfl,_,rfl,rfl⟩
theorem OM {c c':Value} {vs us:List Value} (e:(some {cls:=c,data:=.seq vs.toArray}:Option Obj)=some {cls:=c',data:=.seq us.toArray}):c=c'∧vs=us:=by have e1:=cO e;have e2:c=c':=congrArg Obj.cls e1;have e3:Jo vs.toArray=Jo us.toArray:=congrArg Obj.data e1;injection e3 with e4;refine⟨e2,?_⟩;have e5:=congrArg KR e4;simpa using e5
theorem C8 (KX:K.In h) (ar:∀a∈A,CA h A a) {a:aQ} {vs:List Value} (ha:a∈A) (e:h.get? a=some {cls:=.type "list",data:=.seq vs.toArray}):(∀u∈vs,Mc A u)∧gX K (AM K h A) a (vs.map Fl):=by
 obtain⟨us,h1,h2,h3⟩:=ar a ha;have hu:us=vs:=by
  rcases h3 with q | q
  ·rw[e]at q;exact(OM q).2.symm
  ·rw[e]at q;exact absurd (rQ (OM q).1) (by decide)
 subst hu;refine⟨h2,?_⟩;cases hk:K.lookup a with
 | none=>exact .inl (.inr ⟨_,by rw[OB ha hk e,Cu]⟩)
 | some o=>have e2:=KX a o hk;rw[e]at e2;obtain rfl:=cO e2;exact .inr ⟨_,us.toArray,_,hk,rfl,rfl,rfl,by rw[bN];exact h1,by simpa using zY h2⟩
theorem C9 (KX:K.In h) (ar:∀a∈A,CA h A a) {a:aQ} {vs:List Value} (ha:a∈A) (e:h.get? a=some {cls:=.type "tuple",data:=.seq vs.toArray}):(∀u∈vs,Mc A u)∧fE K (AM K h A) a (vs.map Fl):=by
 obtain⟨us,h1,h2,h3⟩:=ar a ha;have hu:us=vs:=by
  rcases h3 with q | q
  ·rw[e]at q;exact absurd (rQ (OM q).1) (by decide)
  ·rw[e]at q;exact(OM q).2.symm
 subst hu;refine⟨h2,?_⟩;cases hk:K.lookup a with
 | none=>exact .inl (.inr ⟨_,by rw[OB ha hk e,Cv]⟩)
 | some o=>have e2:=KX a o hk;rw[e]at e2;obtain rfl:=cO e2;exact .inr ⟨_,us.toArray,_,hk,⟨rfl,rfl⟩,rfl,by rw[bN];exact h1,by simpa using zY h2⟩
mutual
theorem Wl {Pm:Params} (KX:K.In h) (ar:∀a∈A,CA h A a):∀(d:WData) (v:Value),Well Pm h v d→La d=true→Mc A v→Dw K (AM K h A) (Fl v) d
 | .none,_,x,_,_=>by cases x;exact .non
 | .bool b,_,x,_,_=>by cases x;exact .bl b
 | .int i,_,x,_,_=>by cases x;exact .int i
 | .str s,_,x,_,_=>by cases x;exact .str s
 | .bytes b,_,x,_,_=>by cases x;have z:=Dw.byt (K:=K) (H:=AM K h A) b.toArray;exact z
 | .list ds,_,x,p,hu=>by obtain⟨a,vs,rfl,ho,hall⟩:=XV x;obtain⟨h2,hs⟩:=C8 KX ar hu ho;exact .lst hs (YW KX ar ds _ hall p h2)
 | .tuple ds,_,x,p,hu=>by obtain⟨a,vs,rfl,ho,hall⟩:=TJ x;obtain⟨h2,hs⟩:=C9 KX ar hu ho;exact .tup hs (YW KX ar ds _ hall p h2)
 | .float _,_,_,p,_=>fB (show false=true from p)
 | .dict _,_,_,p,_=>fB (show false=true from p)
 | .bytearray _,_,_,p,_=>fB (show false=true from p)
 | .set _,_,_,p,_=>fB (show false=true from p)
 | .frozenset _,_,_,p,_=>fB (show false=true from p)
 | .obj _ _,_,_,p,_=>fB (show false=true from p)
theorem YW (KX:K.In h) (ar:∀a∈A,CA h A a):∀(ds:List WData) (vs:List Value),WellAll Pm h vs ds→NV ds=true→(∀u∈vs,Mc A u)→CY K (AM K h A) (vs.map Fl) ds
 | [],_,x,_,_=>by cases x;exact .nil
 | d::ds,_,x,p,hu=>by obtain⟨v,vs,rfl,x1,x2⟩:=XU x;have q:La d=true∧NV ds=true:=Jh.mp p;exact .cons (Wl KX ar d v x1 q.1 (hu _ (aM ..))) (YW KX ar ds vs x2 q.2 fun u m=>hu u (aL _ m))
end
end
theorem Ol {P:dF} {w:eV} {K:aB} {mg mb:Str→Option Value} {CX:Ps} {k:Nat} {fa:aQ} {fd:tM} {ps:List Str} {sp:Sp} {s₁:aV} {vals:List Value} {ds:List WData} {R:Lw} {cl:Str→Option aQ} {d0:WData}
  (KX:K.In s₁.heap) (hns:s₁.heap.Ns jR mg) (hb:s₁.heap.Ns builtinsNs mb) (hbb:∀x:Str,x≠"__name__"→mb x=vL x) (hlim:s₁.heap.NoLimit) (hg:s₁.gens=#[])
  (hwl:WellAll w.params s₁.heap vals ds) (hpl:NV ds=true) (hwt:∀d∈ds,d.weight≤1048576) (hr:jE k callerA)
  (F:∀base:gC,K.In base→base.Ns jR mg→vN P w K mg base CX k fa fd ps sp) (hbind:∀(s:aV) (us:List Value),us.length=ps.length→TW s fd ⟨us,[]⟩ (ps.zip us)) (hlen:ds.length=ps.length)
  (hsp:∀(H:Hp) (xs:List V),Jy H→CY K H xs ds→sp xs H (fun v H'=>Dw K H' v d0) fun _ _ _=>False)
  (hCX:∀H e s',CX [] H s₁ (fun _ _ _=>False) e s'→False):
  vM (cB P w) callerA (.call (.ref fa) ⟨vals,[]⟩) (fun r s'=>∃u as,r=.ok (.ret u)∧ReadsW R cl s'.heap u d0 as∧OldK s₁.heap s'.heap∧s'.os=s₁.os∧GR s'.gens) s₁:=by
 obtain⟨A,ho,ar⟩:=IW ds vals hwl hpl hwt;have hO:Jy (AM K s₁.heap A):=Me ar;have hok:CF P w (AM K s₁.heap A) s₁.heap:=Ti ar;have hS:=YW KX ar ds vals hwl hpl ho;have hV:=zY ho;have hK:∀b u,AM K s₁.heap A b=some u→K.lookup b=none:=fun b u q=>(OC ar q).1;have noA:∀{b:aQ} {o:Obj} {es:Array YB} {ep:Nat},s₁.heap.get? b=some o→o.data=.dict es ep→AM K s₁.heap A b=none:=fun {b o es ep} e d=>by
  cases q:AM K s₁.heap A b with
  | none=>rfl
  | some u=>
   obtain⟨_,vs,_,_,⟨e2,_⟩ | ⟨e2,_⟩⟩:=OC ar q
   ·rw[e2]at e;cases e;have d':Jo vs.toArray _=Data.dict es ep:=d;cases d'
   ·rw[e2]at e;cases e;have d':Jo vs.toArray _=Data.dict es ep:=d;cases d'
 generalize AM K s₁.heap A=H at hO hok hS hK noA;have base_of:∀{b:aQ} {o:Obj},s₁.heap.get? b=some o→H b=none→(ZC s₁.heap H).get? b=some o:=fun e n=>Qw e n;have nsK:∀{b:aQ} {m:Str→Option Value},s₁.heap.Ns b m→(ZC s₁.heap H).Ns b m:=fun {b m} ⟨o,es,ep,e,d,r⟩=>⟨o,es,ep,base_of e (noA e d),d,r⟩;have nK:∀b o,K.lookup b=some o→H b=none:=fun b o e=>by
  cases q:H b with
  | none=>rfl
  | some u=>rw[hK b u q]at e;cases e
 have hKb:K.In (ZC s₁.heap H):=fun b o e=>base_of (KX b o e) (nK b o e);have hM:B3 K mg (ZC s₁.heap H):=⟨hKb,nsK hns,⟨mb,nsK hb,hbb⟩,let ⟨mc,h1,h2⟩:=hlim;⟨mc,nsK h1,h2⟩⟩;have e0:Gq P w K mg (ZC s₁.heap H) callerA [] s₁ H:=⟨rfl,hM,fun b o e=>Ul e,ND (Nc _ _),trivial,fun b hb=>absurd (show b∈([]:List aQ)from hb) (by simp),hok,.of_eq hg⟩;have hl:vals.length=ps.length:=by rw[yF hwl];exact hlen
 refine zE ((F _ hKb (nsK hns)).run callerA [] s₁ H ⟨vals,[]⟩ vals (vals.map Fl) _ _ hr e0 (hbind s₁ vals hl) hV (hsp H _ hO hS)) fun r s' x=>?_;cases r with
 | error e=>exact(hCX H e s' x).elim
 | ok fl=>
  cases fl with
  | next=>exact eM x
  | brk=>exact eM x
  | cont=>exact eM x
  | ret u=>
   obtain⟨v,H',os,bare,un,hok',r',q⟩:=x;have kept:∀b o,s₁.heap.get? b=some o→s'.heap.get? b=some o:=fun b o e=>by
    cases q2:H b with
    | none=>exact un.keep b o e q2 (by intro z;exact absurd (show b∈([]:List aQ)from z) (by simp)) (by simp)
    | some u2=>
     rcases hO b with z | ⟨ob,u3,z⟩
     ·rw[q2]at z;cases z
     ·have z2:=un.frzs b ob _ z;obtain⟨e1,_⟩:=hok b _ z;obtain⟨e2,_⟩:=hok' b _ z2;rw[e]at e1;cases e1;exact e2
   have KX':K.In s'.heap:=fun b o e=>kept b o (KX b o e);obtain⟨as,hrd⟩:=Dw.reads (R:=R) (cl:=cl) hok' KX' d0 v u q r';exact⟨u,as,rfl,hrd,OldK.of_keep kept,os,bare⟩
theorem QY (h:WData.layableAll ds=true):∀d∈ds,d.weight≤1048576:=fun d hd=>(PySem.W.layableW_iff.mp (cD.mp h d hd)).2.2
theorem QB:∀(cs:List Codec) (a:Codec.denoteAll cs),(Codec.encAll cs a).length=cs.length
 | [],_=>rfl
 | c::cs,a=>by show(Codec.encAll cs a.2).length+1=cs.length+1;rw[QB cs a.2]
theorem Ow {r:OpenSpec} {k:Nat} {q:dF} {loose:List Str} {XP:(Str→Option Value)→gC→Prop} {YP:eV→gC→Prop} {d:DefRec} {K:Params→aB} {CX:eV→Ps} {ps:List Str} {sp:eV→Sp}
  (hwell:r.wellSaid=true) (hdf:d.params.defaults=[]) (hlen:r.args.length=ps.length) (hr:jE k callerA)
  (hY:∀(w:eV) (h:gC),YP w h→(K w.params).In h)
  (F:∀(w:eV) (mg:Str→Option Value) (fa:aQ) (h:gC),YP w h→(K w.params).In h→h.Ns jR mg→mg d.name=some (.ref fa)→∃fd:tM,(∀(s:aV) (us:List Value),us.length=ps.length→TW s fd ⟨us,[]⟩ (ps.zip us))∧∀base:gC,(K w.params).In base→base.Ns jR mg→vN r.prog w (K w.params) mg base (CX w) k fa fd ps (sp w))
  (hsp:∀(w:eV) (H:Hp) (xs:List V) (a:Codec.denoteAll r.args),Jy H→Codec.withinAll r.args a=true→Codec.app r.args r.asked a=true→CY (K w.params) H xs (Codec.encAll r.args a)→sp w xs H (fun v H'=>Dw (K w.params) H' v (r.ret.enc (Codec.app r.args r.f a))) fun _ _ _=>False)
  (hCX:∀(w:eV) (H:Hp) (s:aV) (e:Value) (s':aV),CX w [] H s (fun _ _ _=>False) e s'→False):
  PySem.W.WalkOS q loose XP YP r d [] (fun f vs=>PySem.call f vs):=by
 intro w s_0 s₁ mg mb G Y fa o pm cd doc dV kV ho hd hcd hD hmg hg args vals as hpre hlay hrd hwl hlo;obtain⟨a,e1,e2⟩:=PySem.W.os_pre_some hpre;obtain⟨e3,hwi⟩:=Codec.encAll_of_decAll r.args args a e1;subst e3;have KX:=hY w _ Y;obtain⟨fd,hb,hF⟩:=F w mg fa _ Y KX G.T.g hmg;refine PySem.W.enter_call (zE (Ol (R:=[]) (cl:=classAt s_0.heap) (d0:=r.ret.enc (Codec.app r.args r.f a)) KX G.T.g G.T.b G.T.builtins G.T.nolimit hg hwl (XE _ _) (QY hlay) hr hF hb (by rw[QB];exact hlen) (fun H xs hO hS=>hsp w H xs a hO hwi e2 hS) fun H e s'=>hCX w H s₁ e s') fun r' s' hq=>?_);obtain⟨u,as',rfl,h1,h2,h3,h4⟩:=hq;exact⟨.inl ⟨u,_,as',rfl,fun _=>rfl,h1,(OpenSpec.post_iff hwell hwi _ _).mpr rfl,fun z=>fB (show false=true from z)⟩,h2,h3,h4⟩
def JD:List Value:=[.type "Exception",.type "BaseException",.type "object"]
def yR (K:aB) (C:aQ):Bool:=match K.lookup C with
 | some ⟨.type "type",_,.cls cd,sl⟩=>(match cd.mro,sl.toList with
  | .ref C'::bm,[_,_,_,_,some (.builtin n),_]=>C' == C && n == "Exception.__new__" && !cd.hasDel && bm == JD && PySem.W.nsOkIn K cd.ns && IP K cd.ns "__init__" == some none
  | _,_=>false)
 | _=>false
theorem Hl {K:aB} {h:gC} {C:aQ} (X:K.In h) (q:yR K C=true):∃nm qn N bs hdct sn sub ab col dd k0 k1 k2 k3 k5 mN,
  h.get? C=some (excClassObj nm qn C N bs JD hdct sn sub ab col dd k0 k1 k2 k3 k5 "Exception.__new__")∧h.Ns N mN∧mN "__init__"=none:=by
 unfold yR at q;split at q
 ·rename_i dd cd sl ho
  split at q
  ·rename_i C' bm k0 k1 k2 k3 n k5 hm hs
   simp only[aE,beq_iff_eq,fF]at q;obtain⟨⟨⟨⟨⟨rfl,rfl⟩,hdel⟩,rfl⟩,hok⟩,hni⟩:=q;obtain⟨nm,bs,mro,ns,qn,hd,sn,sub,ab,col,del⟩:=cd;dsimp only at hm hdel hok hni;subst hm hdel;have hsl:sl=#[k0,k1,k2,k3,some (.builtin "Exception.__new__"),k5]:=by obtain⟨l⟩:=sl;simp only at hs;rw[hs]
   subst hsl;exact⟨nm,qn,ns,bs,hd,sn,sub,ab,col,dd,k0,k1,k2,k3,k5,_,X _ _ ho,.of_isNs (PySem.W.isNs_of_in X hok),PySem.W.nsMap_none_of_in X hok hni⟩
  ·cases q
 ·cases q
theorem LF {M:Model} {A:jT} {E:Value→aV→Prop} {nm q:Str} {C N:aQ} {bs:List Value} {hdct:Bool} {sn:List Str} {sub:List Value} {ab:Bool} {col:Option Bool} {dd:Option aQ} {k0 k1 k2 k3 k5:Option Value} {newId:String}
  {nm' q':Str} {C' N':aQ} {bs':List Value} {hdct':Bool} {sn':List Str} {sub':List Value} {ab':Bool} {col':Option Bool} {dd':Option aQ} {k0' k1' k2' k3' k5':Option Value} {newId':String}
  {h:gC} {g:Array GenState} {d:Drawn} {t:Nat} {os:OsState} {e:aQ} {oe:Obj} {Q:Bool→aV→Prop}
  (hC:h.get? C=some (excClassObj nm q C N bs JD hdct sn sub ab col dd k0 k1 k2 k3 k5 newId)) (hC':h.get? C'=some (excClassObj nm' q' C' N' bs' JD hdct' sn' sub' ab' col' dd' k0' k1' k2' k3' k5' newId')) (he:h.get? e=some oe) (hcls:oe.cls=.ref C) (hne:C'≠C)
  (hq:Q false ⟨h,g,d,t,os⟩):bL M A (excMatches (.ref e) (.ref C')) Q E ⟨h,g,d,t,os⟩:=by
 have hcB:(dC C'::JD).contains (.type "BaseException")=true:=by simp[JD]
 have hcC:(dC C::JD).contains (.ref C')=false:=by simp[JD,hne]
 have f:=tc_notTuple;unfold excMatches;repeat(first | (with_reducible refine wpAny_loadPart_at he ?_;rw[hcls]) | with_reducible refine wpAny_loadPart_at hC' ?_ | (with_reducible refine wpAny_isSubtype_exc hC' ?_;rw[hcB]) | (with_reducible refine wpAny_isSubtype_exc hC ?_;rw[hcC]) | wp_step)
 exact hq
section
variable {X:Cx} {pins:List (aQ×Obj)} {σ:List (Option V)} {H H':Hp} {s:aV} {h':gC}
theorem dH.stepX {g':Array GenState} {t':Nat} {d':Drawn} {ch:List aQ} (I:dH X pins σ H s)
  (hch:∀b∈ch,(b∈X.ex∨X.s_0.heap.get? b=none)∧b≠X.env.locals∧(∀x c,X.env.cells.lookup x=some c→c≠b)∧∀p∈X.pn++pins,p.1≠b)
  (keep:∀b o,b≠X.env.locals→b∉X.fs→b∉ch→s.heap.get? b=some o→H b=none→h'.get? b=some o)
  (slot:∀b o,b≠X.env.locals→b∈X.fs→b∉ch→s.heap.get? b=some o→H b=none→∃sl,h'.get? b=some {o with slots:=sl}) (free:∀b o,b∉ch→s.heap.get? b=some o→H b=none→H' b=none)
  (there:∀b o,b∉ch→s.heap.get? b=some o→∃o',h'.get? b=some o')
  (tups:∀b xs,H b=some (.tup xs)→H' b=some (.tup xs)) (frzs:∀b o u,H b=some (.frz o u)→H' b=some (.frz o u)) (tbls:∀b ps,H b=some (.tbl ps)→∃more,H' b=some (.tbl (ps++more)))
  (ns:∀m,s.heap.Ns X.env.locals m→h'.Ns X.env.locals m) (hok:CF X.prog X.w H' h') (hg:GR g'):
  dH X pins σ H' {s with heap:=h',gens:=g',drawn:=d',toks:=t'}:=by
 have neL:∀b o,X.s_0.heap.get? b=some o→b≠X.env.locals:=fun b o e=>eI (bZ (bY e) I.ok.above);have neC:∀b o,X.s_0.heap.get? b=some o→b∉X.ex→b∉ch:=fun b o e hx hb=>by
  rcases(hch b hb).1 with z | z
  ·exact hx z
  ·rw[e]at z;cases z
 have cellK:∀x c,X.env.cells.lookup x=some c→∀v,s.heap.IsCell c v→h'.IsCell c v:=fun x c e v ⟨o,ho,hd⟩=>by
  have nch:c∉ch:=fun z=>(hch c z).2.2.1 x c e rfl;by_cases hc:c∈X.fs
  ·obtain⟨sl,q⟩:=slot c o (I.cne x c e) hc nch ho (I.freeC x c e);exact⟨_,q,hd⟩
  ·exact⟨o,keep c o (I.cne x c e) hc nch ho (I.freeC x c e),hd⟩
 refine⟨I.ok,I.os,hg,⟨fun b o e n hb hx=>?_,fun b o e n hb hx=>?_,fun b o e n hx=>?_,fun b o e hx=>?_,fun b xs e=>tups b xs (I.base.tups b xs e),fun b o xs e=>frzs b o xs (I.base.frzs b o xs e),fun b ps e=>?_⟩,?_,fun x c e=>?_,?_,fun x c e=>?_,fun p hp=>?_,hok,I.len⟩
 ·exact keep b o (neL b o e) hb (neC b o e hx) (I.base.keep b o e n hb hx) (I.base.free b o e n hx)
 ·obtain⟨sl,e1⟩:=I.base.slot b o e n hb hx;obtain⟨sl',e2⟩:=slot b _ (neL b o e) hb (neC b o e hx) e1 (I.base.free b o e n hx);exact⟨sl',e2⟩
 ·obtain⟨o',e1⟩:=I.base.there b o e hx;exact free b o' (neC b o e hx) e1 (I.base.free b o e n hx)
 ·obtain⟨o',e1⟩:=I.base.there b o e hx;exact there b o' (neC b o e hx) e1
 ·obtain⟨m1,e1⟩:=I.base.tbls b ps e;obtain⟨m2,e2⟩:=tbls b _ e1;exact⟨m1++m2,by rw[e2,Lo]⟩
 ·obtain⟨m,hn,hl⟩:=I.loc;refine⟨m,ns m hn,fun i x v e1 e2 e3=>?_⟩;obtain⟨u,r,l⟩:=hl i x v e1 e2 e3;refine⟨u,r,?_⟩;rcases l with l | ⟨k,c,e,z⟩
  ·exact .inl l
  ·exact .inr ⟨k,c,e,cellK x c e _ z⟩
 ·obtain⟨v,z⟩:=I.cell x c e;exact⟨v,cellK x c e v z⟩
 ·obtain⟨m,⟨o,_,_,ho,_⟩,_⟩:=I.loc;exact free _ o (fun z=>(hch _ z).2.1 rfl) ho I.free
 ·obtain⟨v,o,ho,hd⟩:=I.cell x c e;exact free c o (fun z=>(hch c z).2.2.1 x c e rfl) ho (I.freeC x c e)
 ·obtain⟨e,n,ne,nf,d⟩:=I.pin p hp;have nch:p.1∉ch:=fun z=>(hch p.1 z).2.2.2 p hp rfl;exact⟨keep p.1 p.2 ne nf nch e n,free p.1 p.2 nch e n,ne,nf,d⟩
end
structure mE (X:Cx):Prop where
 ex:X.ex=[]
 stk:X.stack=X.env::X.outer
 fr:X.env.frame=some X.env.locals
def Wc (X:Cx) (pins:List (aQ×Obj)) (H:Hp) (b:aQ):Prop:=X.s_0.heap.get? b≠none∨H b≠none∨(∃x,X.env.cells.lookup x=some b)∨∃p∈X.pn++pins,p.1=b
def HB (X:Cx) (pins:List (aQ×Obj)) (H:Hp) (B h:gC):Prop:=∀b o,Wc X pins H b→b∉II X.stack→h.get? b=some o→B.get? b=some o
section
variable {X:Cx} {pins:List (aQ×Obj)} {σ:St} {H:Hp} {s:aV} {B h':gC}
theorem dH.told (I:dH X pins σ H s) (p:mE X) (r:Wc X pins H b):∃o,s.heap.get? b=some o:=by
 rcases r with r | r | ⟨x,r⟩ | ⟨q,hq,r⟩
 ·cases e:X.s_0.heap.get? b with
  | none=>exact absurd e r
  | some o=>exact I.base.there b o e (by rw[p.ex];simp)
 ·cases e:H b with
  | none=>exact absurd e r
  | some o=>
   have:=(I.hok b o e).lt;cases q:s.heap.get? b with
   | some o'=>exact⟨o',rfl⟩
   | none=>
    exfalso;have z:=I.hok b o e;cases o with
    | lst xs=>obtain⟨_,_,_,_,e⟩:=z;rw[q]at e;cases e
    | tup xs=>obtain⟨_,_,_,⟨_,e,_⟩⟩:=z;rw[q]at e;cases e
    | dK kvs=>obtain⟨_,_,_,_,o,_,_,e,_⟩:=z;rw[q]at e;cases e
    | dT kvs=>obtain⟨_,_,_,_,o,_,_,e,_⟩:=z;rw[q]at e;cases e
    | set S n=>obtain⟨o,_,_,_,e,_⟩:=z;rw[q]at e;cases e
    | ins C dx fs=>obtain⟨_,_,_,e,_⟩:=z;rw[q]at e;cases e
    | own y=>obtain⟨_,e⟩:=z;rw[q]at e;cases e
    | xd fs=>obtain⟨_,⟨_,_,_,e,_⟩,_⟩:=z;rw[q]at e;cases e
    | rng lo hi=>obtain⟨_,_,_,e⟩:=z;rw[q]at e;cases e
    | frz ob u=>obtain⟨e,_⟩:=z;rw[q]at e;cases e
    | tbl ps=>have e:s.heap.get? b=some _:=z;rw[q]at e;cases e
    | met f y=>have e:s.heap.get? b=some _:=z;rw[q]at e;cases e
    | ext φ=>obtain⟨_,⟨_,e⟩,_⟩:=z;rw[q]at e;cases e
 ·obtain⟨v,o,e,_⟩:=I.cell x b r;exact⟨o,e⟩
 ·obtain⟨e,_⟩:=I.pin q hq;rw[r]at e;exact⟨_,e⟩
theorem HB.on (I:dH X pins σ H s) (p:mE X) (c:HB X pins H B s.heap) (k1:B.StaysIn h'):HB X pins H B h':=fun b o r n e=>by obtain⟨o1,e1⟩:=I.told p r;have e2:=c b o1 r n e1;rw[k1 b o1 e2]at e;rw[e2];exact e
theorem ON (p:mE X):b∈II X.stack↔b=X.env.locals∨b∈X.fs:=by rw[p.stk];unfold Cx.fs II;rw[wI,p.fr];simp
theorem dH.flown (I:dH X pins σ H s) (p:mE X) (k0:B.StaysIn s.heap) (k1:B.StaysIn h') (up:s.heap.UpToSlots h') (c:HB X pins H B s.heap):dH X pins σ H {s with heap:=h'}:=by
 classical
 have notTold:∀b,b∈(KP s.heap.objs.size).filter (fun b=>decide (B.get? b=none∧b∉II X.stack))→¬Wc X pins H b:=fun b hb r=>by obtain⟨n1,n2⟩:=of_decide_eq_true (kJ.mp hb).2;obtain⟨o,e⟩:=I.told p r;rw[c b o r n2 e]at n1;cases n1
 have inB:∀b o,b∉(KP s.heap.objs.size).filter (fun b=>decide (B.get? b=none∧b∉II X.stack))→b∉II X.stack→s.heap.get? b=some o→B.get? b=some o:=fun b o hb hn e=>by
  cases q:B.get? b with
  | none=>exact absurd (kJ.mpr ⟨List.mem_range.mpr (bY e),decide_eq_true ⟨q,hn⟩⟩) hb
  | some o'=>have:=k0 b o' q;rw[e]at this;cases this;rfl
 have frame:∀b o,b∈II X.stack→s.heap.get? b=some o→∃sl,h'.get? b=some {o with slots:=sl}:=fun b o hb e=>by obtain⟨_,o',e',hd⟩:=I.stack.mem hb;rw[e]at e';cases e';exact up b o e hd
 refine I.stepX (g':=s.gens) (d':=s.drawn) (t':=s.toks) (H':=H) (ch:=(KP s.heap.objs.size).filter (fun b=>decide (B.get? b=none∧b∉II X.stack))) (fun b hb=>?_) (fun b o hL hf hc e _=>?_) (fun b o _ hf _ e _=>?_) (fun _ _ _ _ n=>n) (fun b o hc e=>?_) (fun _ _ e=>e) (fun _ _ _ e=>e) (fun b ps e=>⟨#[],by rw[e];simp⟩) (fun m hm=>up.ns hm) ?_ I.bare
 ·have nt:=notTold b hb;obtain⟨_,n2⟩:=of_decide_eq_true (kJ.mp hb).2;refine⟨.inr ?_,fun q=>n2 ((ON p).mpr (.inl q)),fun x c e q=>nt (.inr (.inr (.inl ⟨x,by rw[←q];exact e⟩))),fun q hq z=>nt (.inr (.inr (.inr ⟨q,hq,z⟩)))⟩;cases e:X.s_0.heap.get? b with
  | none=>rfl
  | some o=>exact absurd (.inl (by rw[e];simp)) nt
 ·exact k1 b o (inB b o hc (fun q=>((ON p).mp q).elim hL hf) e)
 ·exact frame b o ((ON p).mpr (.inr hf)) e
 ·by_cases hb:b∈II X.stack
  ·obtain⟨sl,e'⟩:=frame b o hb e;exact⟨_,e'⟩
  ·exact⟨o,k1 b o (inB b o hc hb e)⟩
 ·intro a o e;have stay:∀b,H b≠none→∀u,s.heap.get? b=some u→h'.get? b=some u:=fun b hb u q=>k1 b u (c b u (.inr (.inl hb)) (fun z=>hb (I.stkFree b z)) q);exact(I.hok a o e).stay (fun b u hb q=>stay b (by
   rcases hb with z | z
   ·rw[z,e];simp
   ·rw[z];simp) u q) (fun _ q=>q) fun _ _ q=>q
end
inductive VU (B:gC) (stack:List Env) (L e:aQ) (cls:Value) (h:gC):Prop where
 | made:B.StaysIn h→B.get? e=none→h.FunFrames B stack→(∃t,h.get? e=some {cls:=cls,data:=.fields #[.ref t,.none,.none,.none,.bool false,.none]})→VU B stack L e cls h
 | fly (a0:Value):Ga B stack e cls a0 h→VU B stack L e cls h
 | held (a0:Value):Pg B stack e cls a0 L h→VU B stack L e cls h
theorem VU.stays {B h:gC} {stack:List Env} {L e:aQ} {cls:Value} (x:VU B stack L e cls h):B.StaysIn h:=by
 cases x with
 | made a _ _ _=>exact a
 | fly _ a=>exact a.1
 | held _ a=>exact a.1
structure Xp (X:Cx) (pins:List (aQ×Obj)) (σ:St) (H:Hp) (e C:aQ) (s:aV):Prop where
 inv:dH X pins σ H s
 st:∃B,VU B X.stack X.env.locals e (.ref C) s.heap∧HB X pins H B s.heap
section
variable {X:Cx} {pins:List (aQ×Obj)} {σ:St} {H:Hp} {s:aV} {e C:aQ} {M:Model} {E:Value→aV→Prop} {Q:Unit→aV→Prop}
def PB (X:Cx) (pins:List (aQ×Obj)) (σ:St) (H:Hp) (e C:aQ) (s:aV):Prop:=dH X pins σ H s∧∃B a0,Pg B X.stack e (.ref C) a0 X.env.locals s.heap∧HB X pins H B s.heap
def OY (X:Cx) (pins:List (aQ×Obj)) (σ:St) (H:Hp) (e C:aQ) (s:aV):Prop:=dH X pins σ H s∧∃B a0,Ga B X.stack e (.ref C) a0 s.heap∧HB X pins H B s.heap
theorem PB.fly (F:PB X pins σ H e C s):Xp X pins σ H e C s:=let ⟨I,B,a0,h,c⟩:=F;⟨I,B,.held a0 h,c⟩
theorem Xp.note (F:Xp X pins σ H e C s) (p:mE X) (hQ:∀h',PB X pins σ H e C {s with heap:=h'}→Q () {s with heap:=h'}):bL M X.A (noteFrame (.ref e) X.env) Q E s:=by
 obtain⟨I,B,st,c⟩:=F;have hfr:X.A.frames=some (X.env::X.outer):=by rw[I.ok.frames,p.stk]
 have fin:∀h' a0,s.heap.UpToSlots h'→Pg B X.stack e (.ref C) a0 X.env.locals h'→Q () {s with heap:=h'}:=fun h' a0 up hh=>hQ h' ⟨I.flown p st.stays hh.1 up c,B,a0,hh,c.on I p hh.1⟩;cases st with
 | made k0 hn hl ht=>obtain⟨t,he⟩:=ht;unfold noteFrame;simp only[p.fr];refine aH (jS (vs:=#[.ref t,.none,.none,.none,.bool false,.none]) he rfl (i:=1) (x:=.none) rfl ?_);rw[if_neg (by decide)];rw[p.stk]at hl;refine wpAny_entryW (a0:=.ref t) hfr hl p.fr he k0 hn rfl (by show 1 < 6;decide) rfl fun h' ⟨x1,x2,x3,x4⟩=>?_;exact fin h' _ x4 ⟨x1,hn,by rw[p.stk];exact x2,x3⟩
 | fly a0 hf=>rw[p.stk]at hf;refine wpAny_looks_onW hfr p.fr hf fun h' hh up=>?_;exact fin h' a0 up (by rw[p.stk];exact hh)
 | held a0 hh=>exact wpAny_noteFrame_againW p.fr hh.2.2.2 (fin s.heap a0 (.refl _) hh)
theorem PB.lands (F:PB X pins σ H e C s) (p:mE X) (hQ:∀h',OY X pins σ H e C {s with heap:=h'}→Q () {s with heap:=h'}):bL M A (Pn (.ref e) none) Q E s:=by obtain⟨I,B,a0,hh,c⟩:=F;exact wpAny_landsW hh fun h' hf up=>hQ h' ⟨I.flown p hh.1 hf.1 up c,B,a0,hf,c.on I p hf.1⟩
theorem OY.lands (F:OY X pins σ H e C s) (p:mE X) (hQ:∀h',OY X pins σ H e C {s with heap:=h'}→Q () {s with heap:=h'}):bL M A (Pn (.ref e) none) Q E s:=by obtain⟨I,B,a0,hh,c⟩:=F;exact lands_againW hh fun h' hf up=>hQ h' ⟨I.flown p hh.1 hf.1 up c,B,a0,hf,c.on I p hf.1⟩
theorem PB.again (F:PB X pins σ H e C s) (p:mE X) (hQ:∀h',PB X pins σ H e C {s with heap:=h'}→Q () {s with heap:=h'}):bL M X.A (Pn (.ref e) X.env.frame) Q E s:=by
 obtain⟨I,B,a0,⟨k0,hn,hl,ht⟩,c⟩:=F;obtain⟨oe,vs,T,oT,ts,he,hcls,hd,h1,hnT,hTe,hT,hdT,h3⟩:=ht;have hsz3:3 < ts.size:=(Array.getElem?_eq_some_iff.mp h3).1;have other:∀b,b≠T→(s.heap.update T (Bw (·.setIfInBounds 3 (YF X.env.locals)))).get? b=s.heap.get? b:=fun b hb=>dY _ _ (uM hb);have noRecord:∀b o,s.heap.get? b=some o→(∀vs,o.data≠.fields vs)→b≠T:=fun b o hb hnf q=>by rw[q,hT]at hb;injection hb with hb;subst hb;exact hnf ts hdT
 unfold Pn;refine aH (jS he hd h1 ?_);rw[if_pos (show(dC T != uS)=true from by simp),p.fr];have k1:B.StaysIn (s.heap.update T (Bw (·.setIfInBounds 3 (YF X.env.locals)))):=fun b o hbo=>(other b fun q=>by rw[q,hnT]at hbo;cases hbo).trans (k0 b o hbo);have up:s.heap.UpToSlots (s.heap.update T (Bw (·.setIfInBounds 3 (YF X.env.locals)))):=fun b o hb hnf=>⟨o.slots,(other b (noRecord b o hb hnf)).trans hb⟩;refine Go hT hdT hsz3 (hQ _ ⟨I.flown p k0 k1 up c,B,a0,⟨k1,hn,hl.of_keeps fun b o hb hnf=>⟨o,(other b (noRecord b o hb hnf)).trans hb,rfl⟩,?_⟩,c.on I p k1⟩);exact⟨oe,vs,T,_,_,(other e (uM hTe)).trans he,hcls,hd,h1,hnT,hTe,jK _ hT (Js (yJ hdT _)),yJ hdT _,by simp[hsz3]⟩
theorem PB.back (F:PB X pins σ H e C s) (p:mE X) (hQ:∀s',PB X pins σ H e C s'→E (.ref e) s'):cameBackBy M X.A X.env E (.ref e) s:=by obtain⟨I,B,a0,hh,c⟩:=id F;obtain⟨_,_,_,oe,vs,T,oT,ts,he,hcls,hd,h1,_⟩:=hh;unfold cameBackBy;refine aH (jS he hd h1 ?_);rw[if_neg (by simp)];exact F.again p fun h' F'=>hQ _ F'
end
def XW (X:Cx) (E:XK):Value→aV→Prop:=fun v s=>∃pins σ H e C,v=.ref e∧Xp X pins σ H e C s∧E (.ref C) none H
def XP (X:Cx) (pins:List (aQ×Obj)) (σ:St) (E:XK):Value→aV→Prop:=fun v s=>∃H e C,v=.ref e∧Xp X pins σ H e C s∧E (.ref C) none H
theorem XP.xw (h:XP X pins σ E v s):XW X E v s:=let ⟨H,e,C,a,b,c⟩:=h;⟨pins,σ,H,e,C,a,b,c⟩
def UG (P:dF) (w:eV):Ps:=fun outer H s E v s'=>∃e C a0 B H',v=.ref e∧s'.os=s.os∧GR s'.gens∧Un (II outer) [] H H' s.heap s'.heap∧CF P w H' s'.heap∧Ga B outer e (.ref C) a0 s'.heap∧(∀b o,(s.heap.get? b≠none∨H' b≠none)→b∉II outer→s'.heap.get? b=some o→B.get? b=some o)∧E (.ref C) none H'
section
variable {X:Cx} {E:XK}
theorem gH (p:mE X):PassesOwn M X.A X.env (XW X E):=by rintro v s ⟨pins,σ,H,e,C,rfl,F,h⟩;exact F.note p fun h' F'=>F'.back p fun s' F''=>⟨pins,σ,H,e,C,rfl,F''.fly,h⟩
theorem Cr (p:mE X) (I:dH X pins σ H s) (h:UG X.prog X.w X.stack H s E v s'):XP X pins σ E v s':=by
 obtain⟨e,C,a0,B,H',rfl,os,bare,un,hok,hf,cov,q⟩:=h;have I':dH X pins σ H' s':=I.call' (ch:=[]) os un hok bare fun b z=>absurd z (by simp);refine⟨H',e,C,rfl,⟨I',B,.fly a0 hf,fun b o r n ho=>cov b o ?_ n ho⟩,q⟩;rcases r with r | r | ⟨x,r⟩ | ⟨q,hq,r⟩
 ·left;cases e:X.s_0.heap.get? b with
  | none=>exact absurd e r
  | some o=>obtain⟨o',e'⟩:=I.base.there b o e (by rw[p.ex];simp);rw[e'];simp
 ·exact .inr r
 ·left;obtain⟨v,o,e,_⟩:=I.cell x b r;rw[e];simp
 ·left;obtain⟨e,_⟩:=I.pin q hq;rw[r]at e;rw[e];simp
theorem XB (p:mE X):AJ (UG X.prog X.w) (X.wish (XW X E)) E:=fun pins σ H s v s' I h=>(Cr p I.unwish h).xw
theorem Rq:AJ (UG P w) Y E0:=fun _ _ _ _ _ _ _ ⟨_,_,_,_,_,_,_,_,_,_,_,_,q⟩=>q.elim
theorem Qr (p:mE X) (I:dH X pins σ H s) (hm:Heap.MadeExcOf s.heap h' e (.ref C) []):Xp X pins σ H e C {s with heap:=h'}:=by
 have I':dH X pins σ H {s with heap:=h'}:=I.kept (t':=s.toks) hm.keeps;obtain⟨t,he,_,_⟩:=hm.there;refine⟨I',BZ s.heap (II X.stack),.made (fun b o q=>hm.keeps b o (GW _ q)) ?_ ?_ ⟨t,he⟩,fun b o r n ho=>?_⟩
 ·cases q:(BZ s.heap (II X.stack)).get? e with
  | none=>rfl
  | some o=>have:=GW _ q;rw[hm.new]at this;cases this
 ·have hl:s.heap.FunFrames (BZ s.heap (II X.stack)) X.stack:=PySem.W.funFrames_hide I.stack fun env he a ha=>KO.mpr ⟨env,he,ha⟩;exact hl.of_keeps fun b o hb _=>⟨o,hm.keeps b o hb,rfl⟩
 ·obtain⟨o1,e1⟩:=I.told p r;have:=hm.keeps b o1 e1;rw[show h'.get? b=some o from ho]at this;cases this;exact Gc _ e1 n
theorem iV {x:Str} {C:aQ} {np cpos pos:Pos} (p:mE X) (hc:X.calm=true) (hg:Gl X x) (hm:X.mg x=some (.ref C)) (q:yR X.K C=true) (hd:(x == ("__debug__":Str))=false:=by decide):
  PS (X.wish (XW X E)) (.Raise (some (.Call (.Name x np) [] [] cpos)) none pos) (fun _ _ H=>E (.ref C) none H):=by
 intro pins s σ H D I h;obtain⟨nm,qn,N,bs,hdct,sn,sub,ab,col,dd,k0,k1,k2,k3,k5,mN,hC,hN,hni⟩:=Hl I.kIn q;refine wpAny_Raise_call_subT (C:=C) (bm:=JD) (nm:=nm) (q:=qn) (N:=N) (bs:=bs) (hdct:=hdct) (sn:=sn) (sub:=sub) (ab:=ab) (col:=col) (dd:=dd) (k0:=k0) (k1:=k1) (k2:=k2) (k3:=k3) (k5:=k5) PySem.F.excBase_Exception (mN:=mN) (by decide) (I.ok.hd hc) rfl hni (AX I hg hm ⟨rfl,?_⟩ hd);exact evalArgs_empty ⟨rfl,aY _,hC,hN,.base,fun h' e hme=>⟨pins,σ,H,e,C,rfl,Qr p I.unwish hme,h⟩⟩
end
section
variable {P:dF} {w:eV} {K:aB} {mg:Str→Option Value} {base:gC} {N:List Str} {qual:Str} {scope:zB} {f:aQ} {cd:Value} {A:jT} {outer:List Env} {s0:aV} {H0:Hp} {E:XK}
theorem Oy (h:XW (UL (UG P w) P w K mg base N qual scope f cd A outer s0 H0 E) E v s):(UL (UG P w) P w K mg base N qual scope f cd A outer s0 H0 E).xe v s:=by
 obtain⟨pins,σ,H,e,C,rfl,F,q⟩:=h;have p:mE (UL (UG P w) P w K mg base N qual scope f cd A outer s0 H0 E):=⟨rfl,rfl,rfl⟩;show bL (cB P w) (A.deeper (tQ qual scope s0.heap.objs.size f cd)) (leaving (tQ qual scope s0.heap.objs.size f cd) (.ref e)) _ _ s;unfold leaving;refine aH (F.note p fun h' F'=>F'.lands p fun h'' F''=>?_);obtain⟨I,B,a0,hf,c⟩:=F'';refine⟨e,C,a0,B,H,rfl,I.os,I.bare,I.base,I.hok,?_,fun b o r n ho=>?_,q⟩
 ·obtain⟨k1,k2,⟨_,_,k3⟩,k4⟩:=hf;exact⟨k1,k2,k3,k4⟩
 ·refine c b o ?_ (fun z=>?_) ho
  ·rcases r with r | r
   ·exact .inl r
   ·exact .inr (.inl r)
  ·rcases(ON p).mp z with z | z
   ·subst z;rcases r with r | r
    ·exact r (Jr I.ok.above)
    ·exact r I.free
   ·exact n z
theorem jE.m (h:jE k A) (q:j≤k:=by decide):jE j A:=h.mono q
abbrev A9 (P:dF) (w:eV) (K:aB) (mg:Str→Option Value) (base:gC) (N ps:List Str) (sp:Sp) (k:Nat) (qual:Str) (st:yL):Prop:=∀(vs:List V) (H:Hp) (Q:VK) (E:XK),sp vs H Q E→vs.length=ps.length∧∀(_:N.Nodup) (f:aQ) (cdv:Value) (A:jT) (outer:List Env) (s:aV),jE k (A.deeper (tQ qual (gW st) s.heap.objs.size f cdv))→∃t,Pp ((UL (UG P w) P w K mg base N qual (gW st) f cdv A outer s H E).wish (XW (UL (UG P w) P w K mg base N qual (gW st) f cdv A outer s H E) E)) (uO st) t∧t {nx:=fun _ H'=>Q .non H',rt:=Q} (start N vs) H
theorem Gr.okY {x:Str} {st:yL} {fd:tM} {ps:List Str} {k:Nat} {sp:Sp} (F:Gr K x qual st f fd) (S:EK N ps (gW st)) (h:A9 P w K mg base N ps sp k qual st):vN P w K mg base (UG P w) (k+1) f fd ps sp:=by obtain⟨oc,od,kV,doc,pm,an,cdv,ct,osl,rfl,lk,hcd⟩:=F.ex;refine Ys lk hcd S (fun vs H Q E h'=>(h vs H Q E h').1) fun A outer s H vs Q E hr hsp=>?_;obtain⟨t,h,q⟩:=(h vs H Q E hsp).2 S.nd f cdv A outer s hr;exact⟨t,fun pins s1 σ H1 D I hw=>fV (h pins s1 σ H1 D (I.wish _) hw) (fun _ _ q=>q.unwish) fun _ _ z=>Oy z,q⟩
abbrev C0 (n q:Str) (st:yL) (ps:List Str):Prop:=∀(kV doc pm:Value) (an:Option aQ) (cdv ct:Value) (us:List Value),us.length=ps.length→bindArgs (kK n q (vY st) (uO st) (gW st) .none kV doc pm an cdv ct) ⟨us,[]⟩=pure (ps.zip us)
end
abbrev Cx.marked (X:Cx) (e:aQ):Cx:={X with A:=X.A.mark (some (.ref e)),calm:=false,xe:=fun _ _=>False}
section
variable {X:Cx} {pins:List (aQ×Obj)} {σ:St} {H:Hp} {s:aV} {e:aQ}
theorem dH.marked (I:dH X pins σ H s) (e:aQ):dH (X.marked e) pins σ H s:=⟨⟨I.ok.mod,I.ok.kind,I.ok.glob,I.ok.blt,I.ok.above,I.ok.inj,I.ok.has,I.ok.cab,fun z=>(by cases z),I.ok.frames,I.ok.stk,I.ok.exf,I.ok.bs,I.ok.bsz,I.ok.noex,I.ok.exfs,I.ok.funs,I.ok.frf⟩,I.os,I.bare,I.base,I.loc,I.cell,I.free,I.freeC,I.pin,I.hok,I.len⟩
theorem dH.unmarked (I:dH (X.marked e) pins σ H s) (hd:X.calm=true→X.A.handled=none):dH X pins σ H s:=⟨⟨I.ok.mod,I.ok.kind,I.ok.glob,I.ok.blt,I.ok.above,I.ok.inj,I.ok.has,I.ok.cab,hd,I.ok.frames,I.ok.stk,I.ok.exf,I.ok.bs,I.ok.bsz,I.ok.noex,I.ok.exfs,I.ok.funs,I.ok.frf⟩,I.os,I.bare,I.base,I.loc,I.cell,I.free,I.freeC,I.pin,I.hok,I.len⟩
theorem SP.unmarked (hd:X.calm=true→X.A.handled=none) (h:SP (X.marked e) pins D f s'):SP X pins D f s':=by
 cases f with
 | next=>obtain⟨σ',H',I,q⟩:=h;exact⟨σ',H',I.unmarked hd,q⟩
 | brk=>obtain⟨σ',H',I,q⟩:=h;exact⟨σ',H',I.unmarked hd,q⟩
 | cont=>obtain⟨σ',H',I,q⟩:=h;exact⟨σ',H',I.unmarked hd,q⟩
 | ret u=>obtain⟨v,σ',H',I,r,q⟩:=h;exact⟨v,σ',H',I.unmarked hd,r,q⟩
end
def PH (X:Cx) (hs:List ExceptHandler) (t:aQ→TS):Prop:=∀(pins:List (aQ×Obj)) (σ:St) (H:Hp) (e C:aQ) (s:aV) (D:HC),OY X pins σ H e C s→yR X.K C=true→t C D σ H→bL (cB X.prog X.w) X.A (handleBy (.ref e) X.env hs) (SP X pins D) X.xe s
def Xt (X:Cx) (st:List yL) (t:XK→TS):Prop:=∀(pins:List (aQ×Obj)) (s:aV) (σ:St) (H:Hp) (D:HC) (E:XK),dH X pins σ H s→t E D σ H→bL (cB X.prog X.w) X.A (execs st X.env) (SP X pins D) (XP X pins σ E) s
section
variable {X:Cx}
theorem Aa:PH X [] (fun _ _ _ _=>False):=fun _ _ _ _ _ _ _ _ _ h=>h.elim
theorem FC {x:Str} {C1:aQ} {np pos:Pos} {b0:yL} {suite:List yL} {rest:List ExceptHandler} {t1:TS} {th:aQ→TS} (p:mE X) (hg:Gl X x) (hm:X.mg x=some (.ref C1)) (q1:yR X.K C1=true)
  (hs:∀e,Pp (X.marked e) (b0::suite) t1) (hr:PH X rest th) (hd:(x == ("__debug__":Str))=false:=by decide):
  PH X (.ExceptHandler (some (.Name x np)) none (b0::suite) pos::rest) (fun C D σ H=>(C=C1→t1 D σ H)∧(C≠C1→th C D σ H)):=by
 intro pins σ H e C s D F qC h;have I:=F.1;obtain⟨nm,qn,N,bs,hdct,sn,sub,ab,col,dd,k0,k1,k2,k3,k5,mN,hC,hN,hni⟩:=Hl I.kIn qC;obtain⟨ob,hob,hobc⟩:∃ob,s.heap.get? e=some ob∧ob.cls=.ref C:=let ⟨_,_,_,hf,_⟩:=F;hf.there;refine wpAny_handleBy_cons (codeAny_handlers_test (AX (X:=X.marked e) (I.marked e) hg hm ?_ hd)) (by intro q;cases q);by_cases hc:C=C1
 ·subst hc;refine wpAny_excMatches_sub_self hC hob hobc (by decide) (codeAny_handlers_suite ?_);refine F.lands p fun h' F'=>?_;refine fV (hs e pins _ σ H D (F'.1.marked e) (h.1 rfl)) (fun f s2 z=>z.unmarked I.ok.hd) fun _ _ z=>eM z
 ·obtain⟨nm',qn',N',bs',hdct',sn',sub',ab',col',dd',k0',k1',k2',k3',k5',mN',hC',hN',hni'⟩:=Hl I.kIn q1;exact LF hC hC' hob hobc (fun z=>hc z.symm) (hr pins σ H e C s D F qC (h.2 hc))
theorem Ij (p:mE X) (hb:Xt X body tb) (hh:PH X (h0::hs) th):
  PS X (.Try body (h0::hs) [] [] pos) (fun D σ H=>tb (fun v _ H'=>∃C,v=.ref C∧yR X.K C=true∧th C D σ H') D σ H):=by
 intro pins s σ H D I h;refine wpAny_Try_except (fV (hb pins s σ H D _ I h) (fun f s1 z=>?_) fun v s1 z=>?_)
 ·cases f with
  | next=>exact tN z
  | brk=>exact z
  | cont=>exact z
  | ret u=>exact z
 ·obtain⟨H',e,C,rfl,F,C',eC,qC,q⟩:=z;cases eC;exact F.note p fun h' F'=>F'.lands p fun h'' F''=>hh pins σ H' e C _ D F'' qC q
end
def Xs (X:Cx) (e:Expr) (t:XK→TE):Prop:=∀(pins:List (aQ×Obj)) (s:aV) (σ:St) (H:Hp) (Q:VK) (E:XK),dH X pins σ H s→t E σ H Q→bL (cB X.prog X.w) X.A (gZ e X.env) (EP X pins σ Q) (XP X pins σ E) s
theorem PE.mono (h:PE X.nox e t) (I:dH X pins σ H s) (hw:t σ H Q):bL (cB X.prog X.w) X.A (gZ e X.env) (EP X pins σ Q) E s:=fV (h pins s σ H Q (I.wish _) hw) (fun _ _ ⟨v,H',I',r,q⟩=>⟨v,H',I'.unwish,r,q⟩) fun _ _ z=>eM z
theorem PA.mono (h:PA X.nox es t) (I:dH X pins σ H s) (hw:t σ H Q):bL (cB X.prog X.w) X.A (spliced (jD pos (bO es X.env))) (AP X pins σ Q) E s:=fV (h pos pins s σ H Q (I.wish _) hw) (fun _ _ ⟨v,H',I',r,q⟩=>⟨v,H',I'.unwish,r,q⟩) fun _ _ z=>eM z
section
variable {X:Cx} {k:Nat} {f:aQ} {fd:tM} {ps:List Str} {sp:Sp} {x:Str} {p pos:Pos} {e:Expr} {es:List Expr} {t:TA}
theorem Lf (pl:mE X) (F:vN X.prog X.w X.K X.mg X.base (UG X.prog X.w) k f fd ps sp) (hr:jE k X.A) (hb:sP X.K fd ps [])
  (I:dH X pins σ H s) (r:fY vs us) (h:sp vs H Q E):bL (cB X.prog X.w) X.A (call (.ref f) us) (EP X pins σ Q) (XP X pins σ E) s:=by
 have hl:us.length=ps.length:=by rw[←r.length];exact F.len _ _ _ _ h
 have hb':TW s fd ⟨us,[]⟩ (ps.zip us):=by
  have:=hb s us I.kIn (by rw[cK];exact hl)
  rwa [cK]at this
 refine OU (zE (F.run X.A X.stack s H ⟨us,[]⟩ us vs Q E hr I.env0 hb' r h) fun r s' hq=>?_);cases r with
 | error e=>exact Cr pl I hq
 | ok fl=>
  cases fl with
  | ret u=>exact I.after hq
  | next=>exact eM hq
  | brk=>exact eM hq
  | cont=>exact eM hq
theorem Uz (pl:mE X) (F:vN X.prog X.w X.K X.mg X.base (UG X.prog X.w) k f fd ps sp) (hr:jE k X.A) (hg:Gl X x) (hm:X.mg x=some (.ref f)) (hk:gG X.K (.ref f)=true) (hb:sP X.K fd ps [])
  (ha:PA X.nox (e::es) t) (hdb:(x == ("__debug__":Str))=false:=by decide) (he:bO (e::es) X.env=(false,gZ e X.env)::bO es X.env:=by rfl) (hpl:(jD pos (bO es X.env)).any (·.1)=false:=by rfl):
  Xs X (.Call (.Name x p) (e::es) [] pos) (fun E σ H Q=>t σ H fun vs H1=>sp vs H1 Q E):=by
 intro pins s σ H Q E I h;refine hJ (AX I hg hm ?_ hdb);refine nI (h₀:=X.base) I.ok.mod.kin hk (kT (ha.mono I h) fun us s1 ⟨vs,H1,I1,r,q⟩=>⟨I1.kIn,?_⟩) he hpl;exact Lf pl F hr hb I1 r q
theorem Uy (he:Xs X e te):Xt X [.Return (some e) rpos] (fun E D σ H=>te E σ H D.rt):=by intro pins s σ H D E I h;exact wN (wpAny_Return_some (kT (he pins s σ H _ E I h) fun v s1 ⟨x,H1,I1,r1,q1⟩=>(⟨x,σ,H1,I1,r1,q1⟩:SP X pins D (.ret v) s1)))
theorem Ad (hN:X.N.Nodup) (hi:X.N[i]?=some y) (hx:Wa X.env.scope y) (he:Xs X e te) (hs:wM e (some (.Name y pos')) rpos.line X.env=pure false:=by rfl)
  (hf:X.fn y=true∨X.env.scope.names.lookup y=some .local:=by first | exact .inl rfl | exact .inr rfl | assumption):
  Xt X [.Assign [.Name y pos'] e rpos] (fun E D σ H=>te E σ H fun v H1=>D.nx (σ.set i (some v)) H1):=by
 intro pins s σ H D E I h;refine wN (UB (kT (he pins s σ H _ E I h) fun v s1 ⟨z,H1,I1,r1,q1⟩=>?_) hs);exact DZ I1 hN hi hx r1 (fun s2 I2=>tN ⟨_,H1,I2,q1⟩) hf
end
structure G6 (X:Cx) (k:Nat) (v:V) (sp:Sp):Prop where
 ex:∃f fd ps,v=.ref f∧gG X.K (.ref f)=true∧sP X.K fd ps []∧vN X.prog X.w X.K X.mg X.base (UG X.prog X.w) k f fd ps sp
section
variable {X:Cx} {k:Nat} {pos:Pos} {fe e:Expr} {es:List Expr} {te:TE} {t:TA}
def Sr (X:Cx) (k:Nat) (te:TE) (t:TA) (E:XK):TE:=fun σ H Q=>te σ H fun v H1=>∃sp,G6 X k v sp∧t σ H1 fun vs H2=>sp vs H2 Q E
theorem Ef (pl:mE X) (hr:jE k X.A) (hf:PE (X.wish (XW X E)) fe te) (ha:PA (X.wish (XW X E)) (e::es) t)
  (hc:gZ (.Call fe (e::es) [] pos) X.env=(do UA pos (←gZ fe X.env) [] (jD pos (bO (e::es) X.env)) (FK pos (uN [] X.env))):=by rfl)
  (he:bO (e::es) X.env=(false,gZ e X.env)::bO es X.env:=by rfl) (hpl:(jD pos (bO es X.env)).any (·.1)=false:=by rfl):
  PE (X.wish (XW X E)) (.Call fe (e::es) [] pos) (Sr X k te t E):=by
 intro pins s σ H Q I h;refine Pd (kT (hf pins s σ H _ I h) fun u s1 ⟨v,H1,I1,r1,sp,⟨f,fd,ps,ev,hk,hb,F⟩,q⟩=>?_) hc;subst ev;obtain rfl:u=dC f:=r1;refine nI (h₀:=X.base) I.ok.mod.kin hk (kT (ha pos pins s1 σ H1 _ I1 q) fun us s2 ⟨vs,H2,I2,r2,q2⟩=>⟨I2.kIn,?_⟩) he hpl;exact Ai (X:=X.wish (XW X E)) (ds:=[]) (dvs:=[]) F hr hb .nil (XB pl) I2 r2 (by rw[cK];exact q2)
theorem Sb (pl:mE X) (hr:jE k X.A) (hf:PE X.nox fe te) (ha:PA X.nox (e::es) t)
  (hc:gZ (.Call fe (e::es) [] pos) X.env=(do UA pos (←gZ fe X.env) [] (jD pos (bO (e::es) X.env)) (FK pos (uN [] X.env))):=by rfl)
  (he:bO (e::es) X.env=(false,gZ e X.env)::bO es X.env:=by rfl) (hpl:(jD pos (bO es X.env)).any (·.1)=false:=by rfl):
  Xs X (.Call fe (e::es) [] pos) (fun E=>Sr X k te t E):=by
 intro pins s σ H Q E I h;refine Pd (kT (hf.mono I h) fun u s1 ⟨v,H1,I1,r1,sp,⟨f,fd,ps,ev,hk,hb,F⟩,q⟩=>?_) hc;subst ev;obtain rfl:u=dC f:=r1;refine nI (h₀:=X.base) I.ok.mod.kin hk (kT (ha.mono I1 q) fun us s2 ⟨vs,H2,I2,r2,q2⟩=>⟨I2.kIn,?_⟩) he hpl;exact Lf pl F hr hb I2 r2 q2
end
structure xO (P:dF) (w:eV) (K:aB) (a:aQ) (kvs:List (CG×V)):Prop where
 nm:(a == oY)=false
 of:∀h:gC,K.In h→∃vs,KV kvs vs∧h.DictOf (lS P w) a vs
section
variable {X:Cx} {o i:Expr} {pos:Pos} {td ty:TE}
def Zx (X:Cx) (td ty:TE):TE:=fun σ H Q=>td σ H fun x H1=>ty σ H1 fun y H2=>∃a kvs k v,x=.ref a∧xO X.prog X.w X.K a kvs∧y=kV k∧qJ kvs k=some v∧Q v H2
def F4 (X:Cx) (neg:Bool) (ty td:TE):TE:=fun σ H Q=>ty σ H fun y H1=>td σ H1 fun x H2=>∃a kvs k,x=.ref a∧xO X.prog X.w X.K a kvs∧y=kV k∧Q (.bl (if neg then !(qJ kvs k).isSome else (qJ kvs k).isSome)) H2
theorem BE (ho:PE X o td) (hi:PE X i ty) (hs:Wb i):PE X (.Subscript o i pos) (Zx X td ty):=by intro pins s σ H Q I h;refine Lh PySem.F.slot_dict_getitem.lookup hs (kT (ho pins s σ H _ I h) fun u s1 ⟨x,H1,I1,rx,q1⟩=>kT (hi pins s1 σ H1 _ I1 q1) fun iv s2 ⟨y,H2,I2,ry,a,kvs,k,v,ex,kd,ey,l,q2⟩=>?_);subst ex ey;obtain rfl:u=dC a:=rx;obtain⟨vs,rel,dd⟩:=kd.of _ I2.kIn;refine⟨dd.typeIs,?_⟩;obtain⟨w',hw,rw'⟩:=DB.some_of (v:=v) (o:=valueAt vs k) (by rw[←l];exact rel.val k);exact wpAny_getItem_of (Cy ry) dd.mapOf hw ⟨v,H2,I2.tok _,rw',q2⟩
theorem Nr (hi:PE X i ty) (ho:PE X o td):PC X .NotIn i o (F4 X true ty td):=by intro pins s σ H Q I h;refine kT (hi pins s σ H _ I h) fun iv s1 ⟨y,H1,I1,ry,q1⟩=>kT (ho pins s1 σ H1 _ I1 q1) fun u s2 ⟨x,H2,I2,rx,a,kvs,k,ex,kd,ey,q2⟩=>?_;subst ex ey;obtain rfl:u=dC a:=rx;obtain⟨vs,rel,dd⟩:=kd.of _ I2.kIn;refine wpAny_notIn_of (Cy ry) kd.nm dd.mapOf ?_;rw[←(rel.val k).isSome_eq];exact⟨.bl _,H2,I2.tok _,rfl,q2⟩
end
structure gV (P:dF) (w:eV) (K:aB) (mg:Str→Option Value) (base:gC) (k:Nat) (n:Str) (ps:List Str) (sp:Sp):Prop where
 ex:∃f fd,mg n=some (.ref f)∧gG K (.ref f)=true∧sP K fd ps []∧vN P w K mg base (UG P w) k f fd ps sp
theorem gV.mono {P:dF} {w:eV} {K:aB} {mg:Str→Option Value} {base:gC} {j k:Nat} {n:Str} {ps:List Str} {sp:Sp} (F:gV P w K mg base j n ps sp) (h:j≤k):gV P w K mg base k n ps sp:=let ⟨f,fd,a,b,c,d⟩:=F.ex;⟨f,fd,a,b,c,d.mono h⟩
section
variable {X:Cx} {k:Nat} {n:Str} {ps:List Str} {sp:Sp} {p pos:Pos} {e:Expr} {es:List Expr} {t:TA} {E:XK}
theorem bB (F:gV X.prog X.w X.K X.mg X.base k n ps sp) (hr:jE k X.A) (pl:mE X) (ha:PA (X.wish (XW X E)) (e::es) t) (hg:Gl X n:=by rfl)
  (hdb:(n == ("__debug__":Str))=false:=by decide) (he:bO (e::es) X.env=(false,gZ e X.env)::bO es X.env:=by rfl) (hpl:(jD pos (bO es X.env)).any (·.1)=false:=by rfl):
  PE (X.wish (XW X E)) (.Call (.Name n p) (e::es) [] pos) (Lj sp [] E t):=by
 obtain⟨f,fd,hm,hk,hb,F⟩:=F.ex;exact Kw (X:=X.wish (XW X E)) F hr hg hm hk hb .nil (XB pl) ha hdb he hpl
theorem LP (F:gV X.prog X.w X.K X.mg X.base k n ps sp) (hr:jE k X.A) (ha:PA X (e::es) t) (hg:Gl X n:=by rfl)
  (hdb:(n == ("__debug__":Str))=false:=by decide) (he:bO (e::es) X.env=(false,gZ e X.env)::bO es X.env:=by rfl) (hpl:(jD pos (bO es X.env)).any (·.1)=false:=by rfl):
  PE X (.Call (.Name n p) (e::es) [] pos) (Lj sp [] E0 t):=by
 obtain⟨f,fd,hm,hk,hb,F⟩:=F.ex;exact Kw F hr hg hm hk hb .nil Rq ha hdb he hpl
theorem Lc (F:gV X.prog X.w X.K X.mg X.base k n ps sp) (hr:jE k X.A) (pl:mE X) (ha:PA X.nox (e::es) t) (hg:Gl X n:=by rfl)
  (hdb:(n == ("__debug__":Str))=false:=by decide) (he:bO (e::es) X.env=(false,gZ e X.env)::bO es X.env:=by rfl) (hpl:(jD pos (bO es X.env)).any (·.1)=false:=by rfl):
  Xs X (.Call (.Name n p) (e::es) [] pos) (fun E σ H Q=>t σ H fun vs H1=>sp vs H1 Q E):=by
 obtain⟨f,fd,hm,hk,hb,F⟩:=F.ex;exact Uz pl F hr hg hm hk hb ha hdb he hpl
end
theorem aZ.sqT {K:aB} {H H':Hp} {a:aQ} {xs:List V} (e:aZ H H') (h:fE K H a xs):fE K H' a xs:=by
 rcases h with(h | ⟨o,h⟩) | h
 ·exact .inl (.inl (e _ _ h))
 ·exact .inl (.inr ⟨o,e _ _ h⟩)
 ·exact .inr h
theorem fE.of' {K:aB} {H:Hp} {a:aQ} {xs:List V} (h:H a=some (.tup xs)):fE K H a xs:=.inl (.inl h)
theorem aZ.upd (h:H p=none):aZ H (upd H p o):=fun b u e=>by rw[bK (dL e h)];exact e
def zH (H H':Hp):Prop:=(∀b xs,H b=some (.tup xs)→H' b=some (.tup xs))∧∀b o u,H b=some (.frz o u)→H' b=some (.frz o u)
theorem aZ.tups (h:aZ H H'):zH H H':=⟨fun b xs=>h b _,fun b o u=>h b _⟩
theorem zH.trans (a:zH H H1) (b:zH H1 H2):zH H H2:=⟨fun c xs e=>b.1 c xs (a.1 c xs e),fun c o u e=>b.2 c o u (a.2 c o u e)⟩
theorem zH.sqT {K:aB} {H H':Hp} {a:aQ} {xs:List V} (e:zH H H') (h:fE K H a xs):fE K H' a xs:=by
 rcases h with(h | ⟨o,h⟩) | h
 ·exact .inl (.inl (e.1 _ _ h))
 ·exact .inl (.inr ⟨o,e.2 _ _ _ h⟩)
 ·exact .inr h
def Vu (K:aB):R2:=fun x y H Q=>∃a b xs ys,x=.ref a∧y=.ref b∧fE K H a xs∧fE K H b ys∧xs.length+ys.length≤aU∧∀p H',aZ H H'→fE K H' p (xs++ys)→Q (.ref p) H'
theorem Qg {prog:dF} {w:eV} {A:jT} {E:Value→aV→Prop} {s:aV} {t b:aQ} {vs ws:List Value} {Q:Value→aV→Prop} (ht:Pe s.heap t vs.toArray) (hb:Pe s.heap b ws.toArray) (hv:vs=[])
  (h1:Q (.ref b) s):bL (cB prog w) A (FL .Add (.ref t) (.ref b)) Q E s:=by
 obtain⟨⟨cls,dd,data,sl⟩,ho,hc,n,hd⟩:=id ht;obtain⟨⟨cls2,dd2,data2,sl2⟩,ho2,hc2,n2,hd2⟩:=id hb;simp only at hc hd hc2 hd2;subst hc hd hc2 hd2;exact concat_meets ⟨_,ho,rfl⟩ ⟨_,ho2,rfl⟩ YE Ly AD zC (yG _ _)
   (tuple_addW0 t b vs.toArray ws.toArray n n2 dd dd2 sl sl2 (by simp[hv])) ⟨ho,ho2,h1⟩
section
variable {X:Cx}
theorem FB:YK X (FL .Add) (Vu X.K):=by
 intro pins s σ H x y v u Q I rx ry h;obtain⟨a,b,xs,ys,rfl,rfl,ha,hb,hz,q⟩:=h;by_cases hx:xs=[]
 ·cases rx;cases ry;obtain⟨eG,r1,p1,_⟩:=I.tuple ha;obtain⟨its2,r2,p2,_⟩:=I.tuple hb;refine Qg p1 p2 (r1.nil_iff.mpr hx) ⟨.ref b,H,I,rfl,q b H (aZ.refl H) ?_⟩;rw[hx,iI];exact hb
 ·refine Uq pins s σ H _ _ v u Q I rx ry ⟨a,b,xs,ys,rfl,rfl,ha,hb,hx,hz,fun e=>?_,fun _ p hp=>?_⟩
  ·refine q a H (aZ.refl H) ?_;rw[e,cK];exact ha
  ·exact q p _ (aZ.upd hp) (.of' aG)
theorem FN {prog:dF} {w:eV} {A:jT} {E:Value→aV→Prop} {s:aV} {t sl:aQ} {items:Array Value} {vl vu:Value} {lo hi:Option Int} {Q:Value→aV→Prop} (ht:Pe s.heap t items) (hs:s.heap.IsSliceOf sl vl vu .none) (pl:KU vl lo) (pu:KU vu hi)
  (hw:HT.rL items.size 0 lo=0∧HT.rL items.size items.size hi=items.size) (h:Q (.ref t) s):bL (cB prog w) A (CN (.ref t) (.ref sl)) Q E s:=by
 obtain⟨os,hos,hcs,hds⟩:=id hs;have hTs:s.TypeIs (.ref sl) "slice":=⟨os,hos,hcs⟩;unfold CN;try with_reducible refine qD ?_
 first | refine aH (bH ?_) | skip
 refine aH (wpAny_sequenceKey ht.typeIs (by decide) ?_);refine aH (kX (name:=jY "__getitem__") ht.typeIs lG (sE lG ht.typeIs entry_tuple_getitem ?_ (args_tuple_getitem _ _)));show bL _ _ (IK (.ref t) >>= _) _ _ s;refine aH (tupleItemsOf_ ht ?_);refine aH (wpAny_typeOf hTs ?_);rw[if_pos (by decide)];refine aH (HT.zW hs pl pu ?_);have hyes:(((HT.rL items.size 0 lo:Nat):Int) == 0 && (1:Int) == 1 && (HT.rL items.size items.size hi - HT.rL items.size 0 lo) == items.size)=true:=by rw[hw.1,hw.2];simp
 show bL _ _ (if (((HT.rL items.size 0 lo:Nat):Int) == 0 && (1:Int) == 1 && (HT.rL items.size items.size hi - HT.rL items.size 0 lo) == items.size)=true then _ else _) _ _ s;rw[if_pos hyes];obtain⟨⟨cls,dd,data,sl'⟩,ho,hc,n,hd⟩:=id ht;simp only at hc hd;subst hc hd;obtain⟨hp,g,d,tk,oss⟩:=s
 wp_walk using wpAny_loadPart' ho
 exact⟨_,rfl,bH h⟩
def E6 (K:aB):V→Option Int→Option Int→Hp→VK→Prop:=fun x lo hi H Q=>∃a xs,x=.ref a∧fE K H a xs∧∀p H',aZ H H'→fE K H' p (CH xs lo hi)→Q (.ref p) H'
theorem FH:B6 X (E6 X.K):=by
 intro pins s σ H x v vl vu lo hi sl Q I rx hs pl pu h;obtain⟨a,xs,rfl,hx,q⟩:=h;by_cases hw:HT.rL xs.length 0 lo=0∧HT.rL xs.length xs.length hi=xs.length
 ·cases rx;obtain⟨eG,r,ht,hz⟩:=I.tuple hx;have hlen:eG.toArray.size=xs.length:=by rw[bN];exact r.length.symm
  refine⟨"tuple",_,PyProof.Rows.slot_tuple_getitem.lookup,ht.typeIs,?_⟩;refine FN ht hs pl pu (by rw[hlen];exact hw) ⟨.ref a,H,I,rfl,q a H (aZ.refl H) ?_⟩;unfold CH;rw[hw.1,hw.2,xL,Gi,cN];exact hx
 ·exact Xe pins s σ H _ v vl vu lo hi sl Q I rx hs pl pu ⟨a,xs,rfl,hx,hw,fun p hp=>q p _ (aZ.upd hp) (.of' aG)⟩
end
theorem Hf (xs:List V) (j:Nat):CH xs none (some (j:Int))=xs.take j:=by
 unfold CH;rw[HT.Eu,HT.OL,xL,Gi];by_cases h:j≤xs.length
 ·rw[EH h]
 ·rw[Nat.min_eq_right (by omega),cN,CJ (by omega)]
theorem PU (xs:List V) (j:Nat):CH xs (some (j:Int)) none=xs.drop j:=by
 unfold CH;rw[HT.Eu,HT.OL];by_cases h:j≤xs.length
 ·rw[EH h];exact CJ (by rw[cW];exact aR _)
 ·rw[Nat.min_eq_right (by omega),jP,oH (by omega),List.take_nil]
def qP:List Int→Int
 | []=>0
 | a::l=>l.foldl max a
theorem JH:∀(l:List Int) (a:Int),a≤l.foldl max a∧∀x∈l,x≤l.foldl max a
 | [],a=>⟨Int.le_refl _,fun x h=>by cases h⟩
 | b::l,a=>by
  obtain⟨h1,h2⟩:=JH l (max a b);refine⟨Int.le_trans (Int.le_max_left a b) h1,fun x hx=>?_⟩;rcases aT.mp hx with rfl | hx
  ·exact Int.le_trans (Int.le_max_right a x) h1
  ·exact h2 x hx
theorem FZ:∀(l:List Int) (a:Int),l.foldl max a=a∨l.foldl max a∈l
 | [],a=>.inl rfl
 | b::l,a=>by
  rw[lW];rcases FZ l (max a b)with h | h
  ·rcases Int.le_total a b with c | c
   ·rw[h,Int.max_eq_right c];exact .inr aM
   ·rw[h,Int.max_eq_left c];exact .inl rfl
  ·exact .inr (aL _ h)
theorem MH (hm:m∈l) (h:∀x∈l,x≤m):qP l=m:=by
 cases l with
 | nil=>cases hm
 | cons a l=>
  show l.foldl max a=m;obtain⟨h1,h2⟩:=JH l a;apply Int.le_antisymm
  ·rcases FZ l a with e | e
   ·rw[e];exact h a aM
   ·exact h _ (aL _ e)
  ·rcases aT.mp hm with rfl | hm
   ·exact h1
   ·exact h2 m hm
section
variable {X:Cx}
theorem yT (r:fY (ns.map V.int) eG):∃xs:Array (Int×Tok),eG.toArray=AG xs∧ns=xs.toList.map (·.1):=by have hi:IntsAre eG ns:=Hq r;obtain⟨xs,e⟩:=hi.allInts.items;refine⟨xs,e,?_⟩;rw[←hi.numsOf,←nums_intItems,←e]
theorem Qc (hc:X.calm=true):CW X (.builtin "sum") (fun xs H Q=>∃(a:aQ) (ns:List Int),xs=[.ref a]∧gX X.K H a (ns.map V.int)∧Q (.int ns.sum) H):=by
 intro pins s σ H xs us Q I r h;obtain⟨a,ns,rfl,ha,q⟩:=h;obtain⟨u,rfl,ru⟩:=TD r;cases ru;obtain⟨eG,rv,hl,_⟩:=I.list ha;obtain⟨ys,e1,e2⟩:=yT rv;have hl':s.heap.IsList a (AG ys):=by obtain⟨o,n,ho,hcl,hdn,hd⟩:=hl;exact⟨o,ho,hcl,n,by rw[hd,e1]⟩
 refine sum_intListG (I.ok.hd hc) hl' fun h' tk t' hk=>?_;have e3:preSum (IF ys) ys.size=ns.sum:=by rw[preSum_eq,CJ (by simp),e2]
 rw[e3];exact⟨.int ns.sum,H,I.kept hk,⟨t',rfl⟩,q⟩
theorem Ml (hc:X.calm=true):CW X (.builtin "max") (fun xs H Q=>∃(a:aQ) (ns:List Int),xs=[.ref a]∧gX X.K H a (ns.map V.int)∧ns≠[]∧Q (.int (qP ns)) H):=by
 intro pins s σ H xs us Q I r h;obtain⟨a,ns,rfl,ha,hne,q⟩:=h;obtain⟨u,rfl,ru⟩:=TD r;cases ru;obtain⟨eG,rv,hl,_⟩:=I.list ha;obtain⟨ys,e1,e2⟩:=yT rv;have hl':s.heap.IsList a (AG ys):=by obtain⟨o,n,ho,hcl,hdn,hd⟩:=hl;exact⟨o,ho,hcl,n,by rw[hd,e1]⟩
 have hsz:0 < ys.size:=by
  cases hy:ys.size with
  | zero=>exfalso;apply hne;rw[e2];have:ys=#[]:=Array.eq_empty_of_size_eq_zero hy;rw[this];rfl
  | succ n=>omega
 refine max_intList (I.ok.hd hc) hl' hsz fun v h' tk hv hk=>?_;obtain⟨t,rfl⟩:=intItems_at hv;obtain⟨b1,b2⟩:=argBest_gt (IF ys) (ys.size - 1);have eg:qP ns=IF ys (CL (fun i j=>decide (IF ys i > IF ys j)) (ys.size - 1)):=by
  refine MH ?_ fun x hx=>?_
  ·rw[e2,numAt_eq];exact getD_mem (by rw[aJ,jB];omega)
  ·rw[e2]at hx;obtain⟨j,hj,rfl⟩:=mem_getD hx;rw[aJ,jB]at hj;rw[←numAt_eq];exact b2 j (by omega)
 refine⟨.int (qP ns),H,I.kept hk,?_,q⟩;rw[eg];exact⟨t,rfl⟩
end
section
variable {prog:dF} {w:eV} {A:jT} {R:Result→aV→Prop} {I:aQ} {fp wr:List aQ} {n:Nat} {P:Nat→Value→Prop} {St:Nat→gC→Prop} {kw:List (Str×Value)}
theorem Rg (W:Walks prog w A.in1 I fp wr n P St) (bt:Nat→Nat→Bool) (hcmp:CmpOf prog w A.in1 .Gt P bt) (S:aQ) (hSf:S∉fp):
  ∀(k j:Nat) (s:aV) (vb:Value) (c:Nat),n - (j+1)=k→j+1≤n→St (j+1) s.heap→P (CL bt j) vb→s.heap.get? S=some {cls:=.type "list",dict:=none,data:=.seq #[vb,vb] c,slots:=#[]}→
  (∀v h' tk,P (CL bt (n - 1)) v→(∀b o,b∉wr→b≠S→s.heap.get? b=some o→h'.get? b=some o)→R (.ok (.ret v)) {s with heap:=h',toks:=tk})→
  vM (cB prog w) A (.builtin "max.loop" ⟨[.ref I,.none,.ref S],kw⟩) R s:=by
 have nSw:S∉wr:=fun z=>hSf (W.sub _ z);have nm:(iM "max"++iM ".loop":String)="max.loop":=by decide
 intro k;induction k with
 | zero=>
  intro j s vb c hk hj hst hPb hS hR;have jn:j+1=n:=by omega
  refine pP AC ?_;rw[jX iT _];show bL _ A.in1 (FM (.ref S) >>= _) _ _ s;refine aH (iK hS rfl ?_);show bL _ A.in1 (vJ (CU (.ref I)) _ >>= _) _ _ s;refine aH (iL (W.done s _ _ (jn▸hst) fun h1 tk keep=>?_));have hS1:=keep S _ nSw hS;show bL _ A.in1 (YH S (fun _=>#[]) >>= _) _ _ _;refine aH ?_;refine pR hS1 rfl (aH (rC (bH ?_)));exact hR vb _ tk (by rw[←jn];exact hPb) fun b o nb nS e=>(dY _ _ (uM nS)).trans (keep b o nb e)
 | succ k ih=>
  intro j s vb c hk hj hst hPb hS hR;have lt:j+1 < n:=by omega
  refine pP AC ?_;rw[jX iT _];show bL _ A.in1 (FM (.ref S) >>= _) _ _ s;refine aH (iK hS rfl ?_);show bL _ A.in1 (vJ (CU (.ref I)) _ >>= _) _ _ s;refine aH (iL (W.item (j+1) s _ _ lt hst fun v h1 tk hP st1 keep=>?_));have hS1:=keep S _ nSw hS;show bL _ A.in1 (vJ (GX [v,v] (richCompare .Gt v vb >>= _)) _ >>= _) _ _ _;refine aH (iL (qD (aH (hcmp (j+1) (CL bt j) v vb _ _ _ hP hPb ?_))));refine aH (qD (nA ?_));refine aH (rC (bH ?_));cases hb:bt (j+1) (CL bt j)with
  | true=>
   simp only[if_true];refine aH ?_;refine pR hS1 rfl (aH (rC ?_));rw[nm];refine bH ⟨nJ iT _,ih (j+1) _ v _ (by omega) lt (W.frame _ _ _ st1 fun b bf o e=>?_) (by simp only[CL,hb,if_true];exact hP) (jK _ hS1 rfl) fun v2 h2 tk2 hP2 keep2=>?_⟩
   ·exact(dY _ _ (fun z:S=b=>hSf (by rw[z];exact bf))).trans e
   ·exact hR v2 h2 tk2 hP2 fun b o nb nS e=>keep2 b o nb nS ((dY _ _ (uM nS)).trans (keep b o nb e))
  | false=>simp only[gL,if_false];refine aH (rC ?_);rw[nm];refine bH ⟨nJ iT _,ih (j+1) _ vb c (by omega) lt st1 (by simp only[CL,hb,gL,if_false];exact hPb) hS1 fun v2 h2 tk2 hP2 keep2=>?_⟩;exact hR v2 h2 tk2 hP2 fun b o nb nS e=>keep2 b o nb nS (keep b o nb e)
theorem Ni (W:Walks prog w A.in1 I fp wr n P St) (bt:Nat→Nat→Bool) (hcmp:CmpOf prog w A.in1 .Gt P bt) (S:aQ) (hSf:S∉fp) (hst:St 0 s.heap)
  (hS:s.heap.get? S=some {cls:=.type "list",dict:=none,data:=.seq #[] c,slots:=#[]})
  (hR:∀v h' tk,(n=0∧v=d∨0 < n∧P (CL bt (n - 1)) v)→(∀b o,b∉wr→b≠S→s.heap.get? b=some o→h'.get? b=some o)→R (.ok (.ret v)) {s with heap:=h',toks:=tk}):
  vM (cB prog w) A (.builtin "max.loop" ⟨[.ref I,.none,.ref S],[("default",d)]⟩) R s:=by
 have nSw:S∉wr:=fun z=>hSf (W.sub _ z);have nm:(iM "max"++iM ".loop":String)="max.loop":=by decide
 refine pP AC ?_;rw[jX iT _];show bL _ A.in1 (FM (.ref S) >>= _) _ _ s;refine aH (iK hS rfl ?_);show bL _ A.in1 (vJ (CU (.ref I)) _ >>= _) _ _ s;by_cases h0:n=0
 ·refine aH (iL (W.done s _ _ (h0▸hst) fun h1 tk keep=>?_));show bL _ A.in1 (rule _ >>= _) _ _ _;exact aH (Gn (bH (hR d _ tk (.inl ⟨h0,rfl⟩) fun b o nb nS e=>keep b o nb e)))
 ·have hn:0 < n:=Nat.pos_of_ne_zero h0;refine aH (iL (W.item 0 s _ _ hn hst fun v h1 tk hP st1 keep=>?_));have hS1:=keep S _ nSw hS;show bL _ A.in1 (YH S (fun _=>#[v,v]) >>= _) _ _ _;refine aH ?_;refine pR hS1 rfl ?_;rw[nm];refine bH ⟨nJ iT _,Rg W bt hcmp S hSf _ 0 _ v _ rfl hn (W.frame _ _ _ st1 fun b bf o e=>?_) hP (jK _ hS1 rfl) fun v2 h2 tk2 hP2 keep2=>?_⟩
  ·exact(dY _ _ (fun z:S=b=>hSf (by rw[z];exact bf))).trans e
  ·exact hR v2 h2 tk2 (.inr ⟨hn,hP2⟩) fun b o nb nS e=>keep2 b o nb nS ((dY _ _ (uM nS)).trans (keep b o nb e))
end
theorem Mf (a d:Value):CQ "max" ⟨[a],[("default",d)]⟩:=by unfold CQ;kernel_rfl
section
variable {prog:dF} {w:eV} {A:jT} {E:Value→aV→Prop} {s:aV}
theorem Bg {id:String} {b:Fy} {args:List Value} {kw:List (Str×Value)} {Q:Value→aV→Prop} (hk:builtinKind id=none) (hp:plainId id=true)
  (hb:entryFor table id=some b) (ha:CQ id ⟨args,kw⟩)
  (hc:bL (cB prog w) A.in1 (b ⟨args,kw⟩) (fun fin s'=>match fin with
   | .done f=>(match (Except.ok f:Result)with | .ok (.ret v)=>Q v s' | .ok _=>False | .error e=>E e s')
   | .again c'=>c'.quiet=true∧vM (cB prog w) A c' (fun r s'=>match r with | .ok (.ret v)=>Q v s' | .ok _=>False | .error e=>E e s') s') E s):
  bL (cB prog w) A (call (.builtin id) args kw) Q E s:=by
 refine OU (codeAny_call_builtin hp hb ?_);simp only[checkBuiltinCall,hk];cases hsig:Manifest.signature? id with
 | none=>exact bH hc
 | some sig=>
  have ok':Bind.checkArgs id sig ⟨args,kw⟩=pure ():=by simpa only[CQ,hsig] using ha
  simp only[ok'];exact bH hc
theorem Mm (hh:A.handled=none) (hl:s.heap.IsList l (AG ys))
  (h:∀v h' tk,(ys.size=0∧v=d∨0 < ys.size∧(AG ys)[CL (fun i j=>decide (IF ys i > IF ys j)) (ys.size - 1)]?=some v)→(∀b o,s.heap.get? b=some o→h'.get? b=some o)→Q v {s with heap:=h',toks:=tk}):
  bL (cB prog w) A (call (.builtin "max") [.ref l] [("default",d)]) Q E s:=by
 have nm:(iM "max"++iM ".loop":String)="max.loop":=by decide
 refine Bg PySem.F.kind_max PySem.F.plain_max PySem.F.entry_max (Mf _ _) ?_;show bL _ A.in1 (hU "max" ["key","default"] 0 ⟨[],[("default",d)]⟩ >>= _) _ _ s;refine aH (Bq (show hU "max" ["key","default"] 0 ⟨[],[("default",d)]⟩=pure [none,some d]from rfl) ?_);refine aH (bH ?_);refine aH (iter_intList hl fun s2 e st hfp hlI=>?_);subst e;refine aH (kY ?_);have W:=IQ (prog:=prog) (w:=w) (A:=A.in1) hh s.heap.objs.size l hlI (AG ys);have hz:(AG ys).size=ys.size:=by simp[AG]
 rw[nm];refine bH ⟨nJ iT _,Ni W (fun i j=>decide (IF ys i > IF ys j)) (CmpOf.ints_gt (IF ys) (fun _ _=>intItems_at)) _ (fun hm=>fN _ (hfp _ hm)) (W.frame _ _ _ st fun b _ o e=>aF _ e) (bQ _ rfl) fun v h' tk hP hk=>?_⟩;refine h v h' tk ?_ (old_kept (l:=l) fun b o hb e=>hk b o hb (eI (bY e)) (aF _ e));rcases hP with⟨a,b⟩ | ⟨a,b⟩
 ·exact .inl ⟨by rw[←hz];exact a,b⟩
 ·rw[hz]at a b;exact .inr ⟨a,b⟩
end
section
variable {X:Cx} {e ed:Expr} {te td:TE} {p kp pos:Pos}
theorem Us (hc:X.calm=true) (he:PE X e te) (hd:PE X ed td) (hm:X.mg "max"=none) (hg:Gl X "max":=by rfl) (hs:bO [e] X.env=[(false,gZ e X.env)]:=by rfl):
  PE X (.Call (.Name "max" p) [e] [⟨some "default",ed,kp⟩] pos) (fun σ H Q=>te σ H fun x H1=>td σ H1 fun d H2=>∃(a:aQ) (ns:List Int) (z:Int),x=.ref a∧gX X.K H2 a (ns.map V.int)∧d=.int z∧Q (.int (if ns.isEmpty then z else qP ns)) H2):=by
 intro pins s σ H Q I h;refine hJ (tY I hg hm boot_max ?_);refine callWith_kw ?_ (by rw[hs];rfl) (by rw[hs];rfl);refine spliced_more (kT (he pins s σ H _ I h) fun u s1 ⟨x,H1,I1,r1,q1⟩=>spliced_none ?_) hs;refine kws_cons (kT (hd pins s1 σ H1 _ I1 q1) fun u2 s2 ⟨d,H2,I2,r2,a,ns,z,ex,ha,ed,q⟩=>kws_nil ?_);subst ex ed;obtain rfl:u=dC a:=r1;obtain⟨t,rfl⟩:=r2;obtain⟨eG,rv,hl,_⟩:=I2.list ha;obtain⟨ys,e1,e2⟩:=yT rv;have hl':s2.heap.IsList a (AG ys):=by obtain⟨o,n,ho,hcl,hdn,hd⟩:=hl;exact⟨o,ho,hcl,n,by rw[hd,e1]⟩
 show bL _ _ (call (.builtin "max") [.ref a] [("default",.int z t)]) _ _ _;refine Mm (I2.ok.hd hc) hl' fun v h' tk hv hk=>?_;have hlen:ns.length=ys.size:=by rw[e2,aJ,jB]
 rcases hv with⟨h0,rfl⟩ | ⟨h0,hv⟩
 ·have:ns=[]:=nE.mp (by omega);refine⟨.int z,H2,I2.kept hk,⟨t,rfl⟩,?_⟩;rw[this]at q;exact q
 ·obtain⟨t',rfl⟩:=intItems_at hv;obtain⟨b1,b2⟩:=argBest_gt (IF ys) (ys.size - 1);have eg:qP ns=IF ys (CL (fun i j=>decide (IF ys i > IF ys j)) (ys.size - 1)):=by
   refine MH ?_ fun x hx=>?_
   ·rw[e2,numAt_eq];exact getD_mem (by rw[aJ,jB];omega)
   ·rw[e2]at hx;obtain⟨j,hj,rfl⟩:=mem_getD hx;rw[aJ,jB]at hj;rw[←numAt_eq];exact b2 j (by omega)
  have hne:ns.isEmpty=false:=by
   cases ns with
   | nil=>simp at hlen;omega
   | cons _ _=>rfl
  rw[hne]at q;refine⟨.int (qP ns),H2,I2.kept hk,?_,q⟩;rw[eg];exact⟨t',rfl⟩
end
def Xd (items:Array Value) (x:Value) (i:Nat) (_r:Option Fin×Unit):Sem (ForInStep (Option Fin×Unit)):=
 match items[i]? with
 | some y=>do
  let same←eqBool y x
  if same=true then do
    let r←retInt (i:Int)
    pure (ForInStep.done (some r,()))
   else pure (qL (none,()))
 | _=>pure (qL (none,()))
theorem Oe {prog:dF} {w:eV} {A:jT} {E:Value→aV→Prop} {s:aV} {items:Array Value} {x:Value} {e:Value→Bool} {j:Nat} {Q:Option Fin×Unit→aV→Prop} (hj:j < items.size)
  (hit:e items[j]=true) (hno:∀m (hm:m < items.size),m < j→e items[m]=false) (he:∀y,y∈items→TZ A s y x (e y))
  (h:Q (some (.done (.ret (.int j s.toks))),()) {s with toks:=s.toks+1}):
  ∀(k i:Nat) (r:Option Fin×Unit),i+k=items.size→i≤j→bL (cB prog w) A (forIn (m:=Sem) (List.range' i k) r (Xd items x)) Q E s:=by
 intro k;induction k with
 | zero=>intro i r hk hi;omega
 | succ k ih=>
  intro i r hk hi;rw[List.range'_succ,TM];have hlt:i < items.size:=by omega
  have hg:items[i]?=some items[i]:=by simp[hlt]
  unfold Xd;rw[hg];refine aH (aH (he _ (Array.getElem_mem hlt) prog w _ _ ?_));by_cases c:i=j
  ·subst c;rw[hit,if_pos rfl];obtain⟨hp,g,d,tk,os⟩:=s
   wp_walk
   exact h
  ·rw[hno i hlt (by omega),if_neg (by decide)];refine bH ?_;exact ih (i+1) _ (by omega) (by omega)
theorem VJ (l:aQ) (items:Array Value) (n:Nat) (dd:Option aQ) (sl:Array (Option Value)) (x:Value) (e:Value→Bool) (j:Nat) (hj:j < items.size)
  (hit:e items[j]=true) (hno:∀m (hm:m < items.size),m < j→e items[m]=false):
  Meets (Fy.«tuple.index» ⟨[.ref l,x],[]⟩)
   (fun A R s=>s.heap.get? l=some {cls:=.type "tuple",dict:=dd,data:=.seq items n,slots:=sl}∧(∀y,y∈items→TZ A.in1 s y x (e y))∧R (.ok (.ret (.int j s.toks))) {s with toks:=s.toks+1}):=by
 intro prog w A R s h;obtain⟨hp,g,d,tk,os⟩:=s;obtain⟨hl,he,h⟩:=h;unfold Fy.«tuple.index»
 wp_walk using wpAny_loadPart' hl
 change bL (cB prog w) A.in1 (forIn (m:=Sem) [0:min items.size items.size] (none,()) (Xd items x)) _ _ _;rw[Std.Legacy.Range.forIn_eq_forIn_range',Gh];refine Oe hj hit hno he ?_ _ 0 _ ?_ (aY _)
 ·exact bH h
 ·simp[Std.Legacy.Range.size]
section
variable {X:Cx}
theorem dH.tupleN (I:dH X pins σ H s) (h:fE X.K H a xs):∃eG:List Value,fY xs eG∧PF s.heap a eG.toArray:=by
 rcases h with h | ⟨o,eG,n,hk,hc,hs,hz,r⟩
 ·obtain⟨z,eG,r,p⟩:=h.ok I.hok;exact⟨eG,r,p⟩
 ·exact⟨eG.toList,r,o,I.kIn a o hk,hc.1,n,by simpa using hs,hc.2⟩
def Ld (K:aB):V→List V→Hp→VK→Prop:=fun x xs H Q=>∃(a:aQ) (ys:List V) (y:V) (j:Nat) (z:V),x=V.ref a∧xs=[y]∧fE K H a ys∧zN y=true∧ys.all zN=true∧ys[j]?=some z∧Pr z y=true∧(∀(m:Nat) (z':V),m < j→ys[m]?=some z'→Pr z' y=false)∧Q (.int (j:Nat)) H
theorem Ce (a b:Value):CQ "tuple.index" ⟨[a,b],[]⟩:=by unfold CQ;kernel_rfl
theorem Nj:Xr X "tuple.index" (Ld X.K):=by
 intro pins s σ H x xs v us Q I rx rxs h;obtain⟨a,ys,y,j,z,rfl,rfl,hs,fy,fys,hz,hzj,hno,q⟩:=h;cases rx;cases rxs with
 | cons ry rt=>
  rename_i uy ut
  cases rt;obtain⟨eG,rv,⟨cls,dd,data,sl⟩,ho,hc,n,hd,_⟩:=I.tupleN hs;simp only at hc hd;subst hc hd;obtain⟨u,hu,ru⟩:=rv.get hz;obtain⟨hjl,hje⟩:=aS.mp hu;have hvl:=rv.length;have hj:j < eG.toArray.size:=by simpa using hjl
  refine Gm TY ⟨_,ho,rfl⟩ PySem.F.entry_tuple_index (Ce _ _)
   (VJ a eG.toArray n dd sl uy (Ge y) j hj ?_ ?_) ⟨ho,fun u' hu'=>zS ry fy rv fys u' (by simpa using hu'),?_⟩
  ·have e1:eG.toArray[j]=u:=by simpa using hje
   rw[e1,YX ru (Kk fys hz)];exact hzj
  ·intro m hm hmj;have hml:m < eG.length:=by simpa using hm
   have hmy:m < ys.length:=by omega
   have hy':ys[m]?=some ys[m]:=bC hmy;obtain⟨u2,hu2,ru2⟩:=rv.get hy';obtain⟨_,hme⟩:=aS.mp hu2;have e1:eG.toArray[m]=u2:=by simpa using hme
   rw[e1,YX ru2 (Kk fys hy')];exact hno m _ hmj hy'
  ·exact⟨.int (j:Nat),H,I.tok _,⟨_,rfl⟩,q⟩
variable {o e:Expr} {to:TE} {t:TA} {apos cpos:Pos}
theorem Nt (ho:PE X o to) (ha:PA X [e] t) (hbase:CS o "index" X.env (gZ o X.env)=gZ o X.env:=by rfl)
  (hfew:((jD cpos (bO [e] X.env)).all (fun x=> !x.1) && (FK cpos (uN [] X.env)).all (fun x=>x.1.isSome) && decide ([e].length+([]:List Keyword).length+(if ([]:List Keyword).isEmpty then 0 else 1) < 30))=true:=by rfl)
  (hline:(apos.endLine == cpos.line)=true:=by rfl) (hs:bO [e] X.env=(false,gZ e X.env)::bO [] X.env:=by rfl) (hplain:(jD cpos (bO [] X.env)).any (·.1)=false:=by rfl):
  PE X (.Call (.Attribute o "index" apos) [e] [] cpos) (fun σ H Q=>to σ H fun x H1=>(∃p ys,x=.ref p∧fE X.K H1 p ys)∧t σ H1 fun xs H2=>Ld X.K x xs H2 Q):=by
 intro pins s σ H Q I h;refine wpAny_Call_method_late hbase hfew hline rfl (kT (ho pins s σ H _ I h) fun v s1 ⟨x,H1,I1,r1,⟨p,ys,ex,hp⟩,q1⟩=>?_);subst ex;obtain rfl:v=dC p:=r1;obtain⟨eG,rv,ob,ho,hc,n,hd,hdn⟩:=I1.tupleN hp;refine⟨"tuple","tuple.index",PySem.F.plainAttrs_tuple,TY,PySem.F.type_tuple_index,⟨ob,ho,hc⟩,fun a ea=>?_,?_⟩
 ·cases ea;exact⟨ob,ho,hdn⟩
 ·have hA:=ha cpos pins s1 σ H1 _ I1 q1;rw[hs]at hA ⊢;refine tL (by show(false || (jD cpos (bO [] X.env)).any (·.1))=false;rw[hplain]<;>rfl) (FI ?_);exact kT hA fun us s2 ⟨vs,H2,I2,r2,q2⟩=>Nj pins s2 σ H2 (.ref p) vs (.ref p) us Q I2 rfl r2 q2
end
section
variable {X:Cx} {e:Expr} {te:TE} {p p2 pos:Pos}
def Xi (te:TE):TE:=fun σ H Q=>te σ H fun x H1=>(∃z,x=.str z∧Q (.bl true) H1)∨(∃i,x=.int i∧Q (.bl false) H1)
theorem Ua (K:aB):OS K (.type "str") (.type "str")=some true:=rfl
theorem Tz (K:aB):OS K (.type "int") (.type "str")=some false:=by
 have:PySem.W.kitMeta "str"=true:=by decide+kernel
 show(if _ then _ else PySem.W.kitCls K (.type "int") (.type "str"))=_;rw[if_neg (by decide)];unfold PySem.W.kitCls;simp only[this,if_true];show(fastBuiltinMro "int").map (·.contains (.type "str"))=some false;decide+kernel
theorem Eh (he:PE X e te) (hg:Gl X "isinstance") (hm:X.mg "isinstance"=none) (hg2:Gl X "str") (hm2:X.mg "str"=none) (hs:bO [e,.Name "str" p2] X.env=[(false,gZ e X.env),(false,gZ (.Name "str" p2) X.env)]:=by rfl):
  PE X (.Call (.Name "isinstance" p) [e,.Name "str" p2] [] pos) (Xi te):=by
 intro pins s σ H Q I h;refine hJ (tY I hg hm boot_isinstance ?_ (by decide) (by decide));rw[hs];refine tL rfl (FI (IL (kT (he pins s σ H _ I h) fun u s1 ⟨x,H1,I1,r1,q1⟩=>?_)));refine IL (tY I1 hg2 hm2 TV (Pf ?_) (by decide) (by decide));rcases q1 with⟨z,rfl,q⟩ | ⟨i,rfl,q⟩
 ·exact WM I1 r1 (.str z) (Ua _) fun tk=>⟨.bl true,H1,I1.tok _,rfl,q⟩
 ·exact WM I1 r1 (.int i) (Tz _) fun tk=>⟨.bl false,H1,I1.tok _,rfl,q⟩
end
structure Jx (P:dF) (w:eV) (K:aB) (mg:Str→Option Value) (base:gC) (k:Nat) (C:aQ) (n:Str) (ps:List Str) (sp:Sp):Prop where
 ex:∃f fd,Gw K C n f∧sP K fd ps []∧vN P w K mg base (UG P w) k f fd ps sp
section
variable {X:Cx} {k:Nat} {C:aQ} {m:Str} {ps:List Str} {sp:Sp} {pos apos:Pos} {o e:Expr} {es:List Expr} {ta:TE} {t:TA} {E:XK}
theorem sB (F:Jx X.prog X.w X.K X.mg X.base k C m ps sp) (c:Br X.K C) (hr:jE k X.A) (p:mE X) (he:PE (X.wish (XW X E)) o ta) (ha:PA (X.wish (XW X E)) (e::es) t)
  (hst:bO (e::es) X.env=(false,gZ e X.env)::bO es X.env:=by rfl) (hpl:(jD pos (bO es X.env)).any (·.1)=false:=by rfl)
  (ht:gZ (.Call (.Attribute o m apos) (e::es) [] pos) X.env=(do
   let ov←gZ o X.env
   standAt apos.atName
   let (f,first)←GX [ov] (MC ov m pl)
   UA pos f first (jD pos (bO (e::es) X.env)) (FK pos (uN [] X.env))):=by rfl):
  PE (X.wish (XW X E)) (.Call (.Attribute o m apos) (e::es) [] pos) (Lk C m sp [] E ta t):=by
 obtain⟨f,fd,hm,hb,F⟩:=F.ex;exact Ut (X:=X.wish (XW X E)) he c hm F hr hb .nil (XB p) ha hst hpl ht
theorem mD (F:Jx X.prog X.w X.K X.mg X.base k C m ps sp) (c:Br X.K C) (hr:jE k X.A) (p:mE X) (he:PE (X.wish (XW X E)) o ta)
  (ht:gZ (.Call (.Attribute o m apos) [] [] pos) X.env=(do
   let ov←gZ o X.env
   standAt apos.atName
   let (f,first)←GX [ov] (MC ov m pl)
   UA pos f first (jD pos (bO [] X.env)) (FK pos (uN [] X.env))):=by rfl):
  PE (X.wish (XW X E)) (.Call (.Attribute o m apos) [] [] pos) (Lk C m sp [] E ta Fj):=by
 obtain⟨f,fd,hm,hb,F⟩:=F.ex;exact Rw (X:=X.wish (XW X E)) he c hm F hr hb .nil (XB p) ht
structure Vr (P:dF) (w:eV) (K:aB) (mg:Str→Option Value) (base:gC) (k:Nat) (C:aQ) (ps:List Str) (sp:Sp):Prop where
 ex:∃f fd,Mk K C f∧sP K fd ps []∧vN P w K mg base (UG P w) k f fd ps sp
theorem nR (F:Vr X.prog X.w X.K X.mg X.base k C ps sp) (hm:X.mg x=some (.ref C)) (hr:jE (k+1) X.A) (pl:mE X) (ha:PA (X.wish (XW X E)) (e::es) t) (hg:Gl X x:=by rfl)
  (hdb:(x == ("__debug__":Str))=false:=by decide) (he:bO (e::es) X.env=(false,gZ e X.env)::bO es X.env:=by rfl) (hpl:(jD pos (bO es X.env)).any (·.1)=false:=by rfl):
  PE (X.wish (XW X E)) (.Call (.Name x p) (e::es) [] pos) (XQ C sp [] E t):=by
 obtain⟨f,fd,M,hb,F⟩:=F.ex;exact Kx (X:=X.wish (XW X E)) M F hr hg hm hb .nil (XB pl) ha hdb he hpl
theorem Uu (F:Vr X.prog X.w X.K X.mg X.base k C ps sp) (hm:X.mg x=some (.ref C)) (hr:jE (k+1) X.A) (pl:mE X) (hg:Gl X x:=by rfl) (hdb:(x == ("__debug__":Str))=false:=by decide):
  PE (X.wish (XW X E)) (.Call (.Name x p) [] [] pos) (XQ C sp [] E Fj):=by
 obtain⟨f,fd,M,hb,F⟩:=F.ex;exact Rv (X:=X.wish (XW X E)) M F hr hg hm hb .nil (XB pl) hdb
end
theorem Tq {z:Str} {g:TG} {tb:TS} {D:HC} {σ:St} {H:Hp} (Pv:Nat→St→Hp→Prop) (h0:Pv 0 σ H)
  (hs:∀i c σ H,z.cps[i]?=some c→Pv i σ H→g (.str ⟨#[c]⟩) σ H fun σ2 H2=>tb {D with nx:=Pv (i+1),ct:=Pv (i+1),bk:=D.nx} σ2 H2) (hd:∀σ H,Pv z.cps.size σ H→D.nx σ H):
  ∃W:Nat→Nat→St→Hp→Prop,(∃m,W 0 m σ H)∧∀i m σ H,W i m σ H→
   ((Vq z).stop i H∧D.nx σ H)∨((Vq z).go i H∧∃N:St→Hp→Prop,(∀σ' H',N σ' H'→∃m',m' < m∧W (i+1) m' σ' H')∧∀x H',(Vq z).yld i H x H'→g x σ H' fun σ2 H2=>tb {D with nx:=N,ct:=N,bk:=D.nx} σ2 H2):=by
 refine⟨fun i m σ H=>m=z.cps.size - i∧i≤z.cps.size∧Pv i σ H,⟨z.cps.size,by simp,aY _,h0⟩,?_⟩;rintro i m σ H ⟨rfl,hi,p⟩;by_cases hlt:i < z.cps.size
 ·refine .inr ⟨hlt,Pv (i+1),fun σ' H' p'=>⟨z.cps.size - (i+1),by omega,rfl,hlt,p'⟩,fun x H' y=>?_⟩;obtain⟨e,c,hc,ex⟩:=y;subst e ex;exact hs i c σ _ hc p
 ·have e:i=z.cps.size:=by omega
  subst e;exact .inl ⟨aR _,hd σ H p⟩
def Ma (K:aB) (as:List aQ):It:=⟨fun i H=>∃(xss:List (List V)) (ys:List V),gY (fE K H) as xss∧gY (fun(xs:List V) y=>xs[i]?=some y) xss ys,fun i H v H'=>∃T ys,v=.ref T∧H T=none∧H'=upd H T (.tup ys)∧∀xss,gY (fE K H) as xss→gY (fun(xs:List V) y=>xs[i]?=some y) xss ys,fun i H=>∃xss:List (List V),gY (fE K H) as xss∧∃xs∈xss,xs.length≤i⟩
theorem Ta (I:dH X pins σ H s):∀{as:List aQ} {xss yss:List (List V)},gY (fE X.K H) as xss→gY (fE X.K H) as yss→yss=xss
 | _,_,_,.nil,.nil=>rfl
 | _,_,_,.cons a b,.cons c d=>by rw[Ta I b d,I.tuple_inj a c]
theorem Tb {X:Cx} {pins:List (aQ×Obj)} {σ:St} {H:Hp} {s:aV} (I:dH X pins σ H s) {ps:List (aQ×aQ)} {xss:List (List V)} (h:gY (fE X.K H) (ps.map (·.2)) xss):∀p∈ps,s.heap.IsTuple p.2 (ZN.cont s.heap p.2):=by
 induction ps generalizing xss with
 | nil=>intro p hp;cases hp
 | cons q ps ih=>
  cases h with
  | cons a b=>
   intro p hp;rcases aT.mp hp with rfl | hp
   ·obtain⟨is,r,t,_⟩:=I.tuple a;rw[ZN.YR t];exact t
   ·exact ih b p hp
theorem Vo {X:Cx} {pins:List (aQ×Obj)} {σ:St} {H:Hp} {s:aV} (I:dH X pins σ H s) {i:Nat} {ps:List (aQ×aQ)} {xss:List (List V)} {ys:List V} (h:gY (fE X.K H) (ps.map (·.2)) xss) (g:gY (fun(xs:List V) y=>xs[i]?=some y) xss ys):
  fY ys (ps.map (ZN.Ko (ZN.cont s.heap) i))∧∀p∈ps,∃x,(ZN.cont s.heap p.2)[i]?=some x:=by
 induction ps generalizing xss ys with
 | nil=>cases h;cases g;exact⟨.nil,fun p hp=>by cases hp⟩
 | cons q ps ih=>
  cases h with
  | cons a b=>
   cases g with
   | cons c d=>
    obtain⟨v,m⟩:=ih b d;obtain⟨is,r,t,_⟩:=I.tuple a;obtain⟨u,hu,ru⟩:=r.get c;have e:(ZN.cont s.heap q.2)[i]?=some u:=by rw[ZN.YR t];simpa using hu
    refine⟨.cons ?_ v,fun p hp=>?_⟩
    ·unfold ZN.Ko;rw[e];exact ru
    ·rcases aT.mp hp with rfl | hp
     ·exact⟨u,e⟩
     ·exact m p hp
theorem Vn {X:Cx} {pins:List (aQ×Obj)} {σ:St} {H:Hp} {s:aV} (I:dH X pins σ H s) {i:Nat} {ps:List (aQ×aQ)} {xss:List (List V)} (h:gY (fE X.K H) (ps.map (·.2)) xss):(∃xs∈xss,xs.length≤i)→∃p∈ps,(ZN.cont s.heap p.2)[i]?=none:=by
 induction ps generalizing xss with
 | nil=>cases h;rintro⟨xs,hx,_⟩;cases hx
 | cons q ps ih=>
  cases h with
  | cons a b=>
   rintro⟨xs,hx,hl⟩;rcases aT.mp hx with rfl | hx
   ·obtain⟨is,r,t,_⟩:=I.tuple a;have:=r.length;exact⟨q,aM,by rw[ZN.YR t];simp;omega⟩
   ·obtain⟨p,hp,e⟩:=ih b ⟨xs,hx,hl⟩;exact⟨p,aL _ hp,e⟩
theorem Lm {P:dF} {w:eV} {K:aB} {elts:List Expr} {kk:Nat} {tpos:Pos} {z TI TO:aQ} {ps:List (aQ×aQ)} (D:ZN.Jw z TI TO ps) (hl:ps.length≤100) (hne:ps≠[]):
  UK P w K (.Tuple elts kk tpos) (Ma K (ps.map (·.2))) (z::TI::TO::ZN.eG ps) z (fun i h=>ZN.Ok h z TI TO ps i) where
 mem:=aM
 obj:=fun i h st c hc=>by
  obtain⟨ys,_,hto⟩:=st.to
  rcases aT.mp hc with rfl | hc
  ·exact⟨_,st.zip,fun v q=>nomatch q⟩
  rcases aT.mp hc with rfl | hc
  ·exact⟨_,st.ti,fun v q=>nomatch q⟩
  rcases aT.mp hc with rfl | hc
  ·exact⟨_,hto,fun v q=>nomatch q⟩
  obtain⟨p,hp,rfl⟩:=aX.mp hc
  obtain⟨o,ho,_,d⟩:=st.it p hp
  exact⟨o,ho,fun v q=>by rw[d]at q;cases q⟩
 keep:=fun i h h' st k=>by
  obtain⟨ys,yl,hto⟩:=st.to
  refine⟨k _ (by simp) _ st.zip,k _ (by simp) _ st.ti,⟨ys,yl,k _ (by simp) _ hto⟩,fun p hp=>?_⟩
  obtain⟨o,ho,r⟩:=st.it p hp
  exact⟨o,k _ (by simp;exact .inr (.inr (.inr ⟨_,hp⟩))) _ ho,r⟩
 item:=by
  intro X hP hw hK hc i pins s σ H E I hf st hg
  subst hP hw hK
  obtain⟨xss,ys,hx,hy⟩:=hg
  obtain⟨hv,hall⟩:=Vo I hx hy
  have hT:s.TypeIs (.ref z) "zip":=⟨_,st.zip,rfl⟩
  have hzl:z < s.heap.objs.size:=bY st.zip
  unfold CU
  refine aH (wpAny_attempt (kX (name:=jY "__next__") hT FT (sE FT hT F.entry_zip_next
   (ZN.next (I.ok.hd hc) D st hl hne (xs:=ZN.cont s.heap) (Tb I hx) (fun _ h1 z1 to1 it1 t1 sz1 k1=>bH ⟨_,rfl,?_⟩) fun⟨p,hp,e⟩=>?_) (F.args_zip_next_1 _))))
  rotate_left
  ·obtain⟨x,e'⟩:=hall p hp
   rw[e]at e';cases e'
  refine wpAny_letOwnedTupleGo_zip (s:={s with heap:=h1}) z1 fun h2 z2 sb=>?_
  have yl:ys.length=ps.length:=by rw[hv.length,aJ]
  have t2:ZN.Tu h2 s.heap.objs.size (ps.map (ZN.Ko (ZN.cont s.heap) i)):=(sb.2 _ (CO hzl)).trans t1
  have new:lB X.prog X.w (upd H s.heap.objs.size (.tup ys)) h2 s.heap.objs.size (.tup ys):=⟨bI (by omega:ys.length≤100) (by decide),_,hv,⟨_,t2,rfl,_,rfl,rfl⟩⟩
  have k2:∀c o,c∉z::TI::TO::ZN.eG ps→s.heap.get? c=some o→h2.get? c=some o:=fun c o hc e=>(sb.2 c (fun q=>hc (by rw[q];simp))).trans (k1 c o (fun q=>hc (by simp only[aT]at q ⊢;rcases q with q | q | q;exact .inl q;exact .inr (.inr (.inl q));exact .inr (.inr (.inr q)))) e)
  have nd:=D.nd
  rw[eL,eL,eL]at nd
  obtain⟨n1,n2,n3,n4⟩:=nd
  have I1:dH X pins σ (upd H s.heap.objs.size (.tup ys)) {s with heap:=h2}:=I.turnedNew (t':=s.toks) (ch:=z::TI::TO::ZN.eG ps) k2 hf (aR _) new
  refine⟨.ref s.heap.objs.size,_,I1,rfl,⟨_,ys,rfl,I.hok.fresh (aR _),rfl,fun l h'=>by rw[Ta I hx h'];exact hy⟩,⟨z2,?_,⟨ps.map (ZN.Ko (ZN.cont s.heap) i),aJ _,?_⟩,fun p hp=>?_⟩,fun c hcm=>?_⟩
  ·refine(sb.2 _ (fun q=>n1 (by rw[←q];simp))).trans (k1 _ _ (fun q=>?_) st.ti)
   rcases aT.mp q with q | q
   ·exact n1 (by rw[←q];simp)
   ·exact n2 q
  ·exact(sb.2 _ (fun q=>n1 (by rw[←q];simp))).trans to1
  ·obtain⟨o,ho,r⟩:=it1 p hp
   exact⟨o,(sb.2 _ (fun q=>n1 (by rw[←q];simp;exact .inr (.inr ⟨_,hp⟩)))).trans ho,r⟩
  ·have hlt:c < s.heap.objs.size:=by
    obtain⟨ys',_,hto⟩:=st.to
    rcases aT.mp hcm with rfl | hcm
    ·exact hzl
    rcases aT.mp hcm with rfl | hcm
    ·exact bY st.ti
    rcases aT.mp hcm with rfl | hcm
    ·exact bY hto
    obtain⟨p,hp,rfl⟩:=aX.mp hcm
    obtain⟨o,ho,_⟩:=st.it p hp
    exact bY ho
   rw[bK (eI hlt)]
   exact(hf c hcm).1
 done:=by
  intro X hP hw hK hc i pins s σ H E I hf st hg
  subst hP hw hK
  obtain⟨xss,hx,hy⟩:=hg
  obtain⟨p0,hp0,e0⟩:=Vn I hx hy
  have hT:s.TypeIs (.ref z) "zip":=⟨_,st.zip,rfl⟩
  unfold CU
  refine aH (wpAny_attempt (kX (name:=jY "__next__") hT FT (sE FT hT F.entry_zip_next
   (ZN.next (I.ok.hd hc) D st hl hne (xs:=ZN.cont s.heap) (Tb I hx) (fun hall=>?_) fun _ h1 e k1 he=>?_) (F.args_zip_next_1 _))))
  ·obtain⟨x,e'⟩:=hall p0 hp0
   rw[e0]at e';cases e'
  ·obtain⟨o,ho,hco⟩:=he
   refine aH (wpAny_isInstance (T:="StopIteration") (b:=true) ⟨o,ho,hco⟩ isSubtype_stop (bH ⟨rfl,I.turnedL (t':=s.toks) (ch:=z::TI::TO::ZN.eG ps) (fun c o hc e=>k1 c o (fun q=>hc ?_) e) hf⟩))
   simp only[aT]at q ⊢
   rcases q with q | q | q
   ·exact .inl q
   ·exact .inr (.inr (.inl q))
   ·exact .inr (.inr (.inr q))
 self:=fun A i s Q E st h=>YI st.zip h
abbrev Gv (K:aB) (a b:aQ):It:=Ma K [a,b]
def Za (K:aB) (ta:TA):TI:=fun σ H R=>ta σ H fun vs H1=>∃a b xs ys,vs=[.ref a,.ref b]∧fE K H1 a xs∧fE K H1 b ys∧R (Gv K a b) H1
def Yz (K:aB) (ta:TA):TI:=fun σ H R=>ta σ H fun vs H1=>∃a b c xs ys zs,vs=[.ref a,.ref b,.ref c]∧fE K H1 a xs∧fE K H1 b ys∧fE K H1 c zs∧R (Ma K [a,b,c]) H1
section
variable {X:Cx} {e e2 e3:Expr} {ta:TA} {p pos tpos:Pos} {elts:List Expr} {kk:Nat}
theorem Ac (hg:Gl X "zip") (hm:X.mg "zip"=none) (ha:PA X [e,e2] ta) (hs:bO [e,e2] X.env=(false,gZ e X.env)::bO [e2] X.env:=by rfl) (hpl:(jD pos (bO [e2] X.env)).any (·.1)=false:=by rfl):
  PI X (.Tuple elts kk tpos) (.Call (.Name "zip" p) [e,e2] [] pos) (Za X.K ta):=by
 intro pins s σ H R I h;refine Pd (tY I hg hm WD (fR (kT (ha pos pins s σ H _ I h) fun us s1 ⟨vs,H1,I1,r1,a,b,xs,ys,ex,q1,q2,q⟩=>?_) hs hpl));subst ex;cases r1 with
 | cons r rr=>
 cases rr with
 | cons r' rr=>
 cases rr;cases r;cases r';obtain⟨i1,_,p1,_⟩:=I1.tuple q1;obtain⟨i2,_,p2,_⟩:=I1.tuple q2;have la:a < s1.heap.objs.size:=p1.lt;have lb:b < s1.heap.objs.size:=p2.lt;refine ZN.Ym p1 p2 fun h' ok hk=>YI ok.zip ⟨_,_,_,_,H1,rfl,I1.kept (t':=s1.toks) hk,Lm (ZN.We _ _ _ la lb) (Jm rfl) (by intro q;cases q),ok,fun c hcm=>I1.fpOk (ZN.D3 hcm) (I1.hok.fresh (ZN.D3 hcm)),q⟩
theorem Uw (hg:Gl X "zip") (hm:X.mg "zip"=none) (ha:PA X [e,e2,e3] ta) (hs:bO [e,e2,e3] X.env=(false,gZ e X.env)::bO [e2,e3] X.env:=by rfl) (hpl:(jD pos (bO [e2,e3] X.env)).any (·.1)=false:=by rfl):
  PI X (.Tuple elts kk tpos) (.Call (.Name "zip" p) [e,e2,e3] [] pos) (Yz X.K ta):=by
 intro pins s σ H R I h;refine Pd (tY I hg hm WD (fR (kT (ha pos pins s σ H _ I h) fun us s1 ⟨vs,H1,I1,r1,a,b,c,xs,ys,zs,ex,q1,q2,q3,q⟩=>?_) hs hpl));subst ex;cases r1 with
 | cons r rr=>
 cases rr with
 | cons r' rr=>
 cases rr with
 | cons r'' rr=>
 cases rr;cases r;cases r';cases r'';obtain⟨i1,_,p1,_⟩:=I1.tuple q1;obtain⟨i2,_,p2,_⟩:=I1.tuple q2;obtain⟨i3,_,p3,_⟩:=I1.tuple q3;have la:a < s1.heap.objs.size:=p1.lt;have lb:b < s1.heap.objs.size:=p2.lt;have lc:c < s1.heap.objs.size:=p3.lt;refine ZN.Yn p1 p2 p3 fun h' ok hk=>YI ok.zip ⟨_,_,_,_,H1,rfl,I1.kept (t':=s1.toks) hk,Lm (ZN.Wf _ _ _ _ la lb lc) (Jm rfl) (by intro q;cases q),ok,fun c hcm=>I1.fpOk (ZN.D4 hcm) (I1.hok.fresh (ZN.D4 hcm)),q⟩
end
theorem Ws {z:Str} {g:TG} {tt:TT} {te:TE} {vs:List Nat} {σ:St} {H1:Hp} {D:aQ} {Qd:Hp→Prop} (Pv:Nat→Hp→Prop) (h0:Pv 0 (upd H1 D (.lst [])))
  (hs:∀i c H,z.cps[i]?=some c→Pv i H→g (.str ⟨#[c]⟩) (nD σ vs) H fun σ2 H2=>nD σ2 vs=nD σ vs∧tt σ2 H2 fun b H3=>if b=true then te σ2 H3 fun y H4=>∃acc,H4 D=some (.lst acc)∧acc.length < aU∧Pv (i+1) (upd H4 D (.lst (acc++[y])))else Pv (i+1) H3) (hd:∀H,Pv z.cps.size H→Qd H):
  ∃W:Nat→Nat→Hp→Prop,(∃m,W 0 m (upd H1 D (.lst [])))∧∀i m H,W i m H→
   ((Vq z).stop i H∧Qd H)∨((Vq z).go i H∧∃Nx:Hp→Prop,(∀H',Nx H'→∃m',m' < m∧W (i+1) m' H')∧∀x H',(Vq z).yld i H x H'→g x (nD σ vs) H' fun σ2 H2=>nD σ2 vs=nD σ vs∧tt σ2 H2 fun b H3=>if b=true then te σ2 H3 fun y H4=>∃acc,H4 D=some (.lst acc)∧acc.length < aU∧Nx (upd H4 D (.lst (acc++[y])))else Nx H3):=by
 refine⟨fun i m H=>m=z.cps.size - i∧i≤z.cps.size∧Pv i H,⟨z.cps.size,by simp,aY _,h0⟩,?_⟩;rintro i m H ⟨rfl,hi,p⟩;by_cases hlt:i < z.cps.size
 ·refine .inr ⟨hlt,Pv (i+1),fun H' p'=>⟨z.cps.size - (i+1),by omega,rfl,hlt,p'⟩,fun x H' y=>?_⟩;obtain⟨e,c,hc,ex⟩:=y;subst e ex;exact hs i c _ hc p
 ·have e:i=z.cps.size:=by omega
  subst e;exact .inl ⟨aR _,hd H p⟩
theorem Jf {i:Nat} {xs ys:List V} {zs:List V} (h:gY (fun(xs:List V) y=>xs[i]?=some y) [xs,ys] zs):∃x y,zs=[x,y]∧xs[i]?=some x∧ys[i]?=some y:=by
 cases h with
 | cons a r=>
  cases r with
  | cons b r=>cases r;exact⟨_,_,rfl,a,b⟩
theorem Ss {i:Nat} {xs ys ws:List V} {zs:List V} (h:gY (fun(xs:List V) y=>xs[i]?=some y) [xs,ys,ws] zs):∃x y u,zs=[x,y,u]∧xs[i]?=some x∧ys[i]?=some y∧ws[i]?=some u:=by
 cases h with
 | cons a r=>obtain⟨x,y,rfl,b,c⟩:=Jf r;exact⟨_,x,y,rfl,a,b,c⟩
theorem Qs {K:aB} {a b c:aQ} {xs ys ws:List V} {g:TG} {tb:TS} {D:HC} {σ:St} {H:Hp} (hlen:xs.length=ys.length) (hlen2:xs.length=ws.length) (Pv:Nat→St→Hp→Prop) (h0:Pv 0 σ H) (hl:∀i σ H,i≤xs.length→Pv i σ H→fE K H a xs∧fE K H b ys∧fE K H c ws)
  (hs:∀i x y u T σ H,xs[i]?=some x→ys[i]?=some y→ws[i]?=some u→H T=none→Pv i σ H→g (.ref T) σ (upd H T (.tup [x,y,u])) fun σ2 H2=>tb {D with nx:=Pv (i+1),ct:=Pv (i+1),bk:=D.nx} σ2 H2) (hd:∀σ H,Pv xs.length σ H→D.nx σ H):
  ∃W:Nat→Nat→St→Hp→Prop,(∃m,W 0 m σ H)∧∀i m σ H,W i m σ H→
   ((Ma K [a,b,c]).stop i H∧D.nx σ H)∨((Ma K [a,b,c]).go i H∧∃N:St→Hp→Prop,(∀σ' H',N σ' H'→∃m',m' < m∧W (i+1) m' σ' H')∧∀x H',(Ma K [a,b,c]).yld i H x H'→g x σ H' fun σ2 H2=>tb {D with nx:=N,ct:=N,bk:=D.nx} σ2 H2):=by
 refine⟨fun i m σ H=>m=xs.length - i∧i≤xs.length∧Pv i σ H,⟨xs.length,by simp,aY _,h0⟩,?_⟩;rintro i m σ H ⟨rfl,hi,p⟩;obtain⟨q1,q2,q3⟩:=hl i σ H hi p;by_cases hlt:i < xs.length
 ·refine .inr ⟨⟨[xs,ys,ws],[xs[i],ys[i],ws[i]],.cons q1 (.cons q2 (.cons q3 .nil)),.cons (bC hlt) (.cons (bC (by omega)) (.cons (bC (by omega)) .nil))⟩,Pv (i+1),fun σ' H' p'=>⟨xs.length - (i+1),by omega,rfl,hlt,p'⟩,fun v H' y=>?_⟩;obtain⟨T,zs,rfl,hT,rfl,k⟩:=y;obtain⟨x,y,u,rfl,k1,k2,k3⟩:=Ss (k _ (.cons q1 (.cons q2 (.cons q3 .nil))));exact hs i x y u T σ H k1 k2 k3 hT p
 ·have e:i=xs.length:=by omega
  subst e;exact .inl ⟨⟨[xs,ys,ws],.cons q1 (.cons q2 (.cons q3 .nil)),xs,aM,aR _⟩,hd σ H p⟩
theorem Ct {K:aB} {a b:aQ} {xs ys:List V} {g:TG} {tb:TS} {D:HC} {σ:St} {H:Hp} (hlen:xs.length=ys.length) (Pv:Nat→St→Hp→Prop) (h0:Pv 0 σ H) (hl:∀i σ H,i≤xs.length→Pv i σ H→fE K H a xs∧fE K H b ys)
  (hs:∀i x y T σ H,xs[i]?=some x→ys[i]?=some y→H T=none→Pv i σ H→g (.ref T) σ (upd H T (.tup [x,y])) fun σ2 H2=>tb {D with nx:=Pv (i+1),ct:=Pv (i+1),bk:=D.nx} σ2 H2) (hd:∀σ H,Pv xs.length σ H→D.nx σ H):
  ∃W:Nat→Nat→St→Hp→Prop,(∃m,W 0 m σ H)∧∀i m σ H,W i m σ H→
   ((Gv K a b).stop i H∧D.nx σ H)∨((Gv K a b).go i H∧∃N:St→Hp→Prop,(∀σ' H',N σ' H'→∃m',m' < m∧W (i+1) m' σ' H')∧∀x H',(Gv K a b).yld i H x H'→g x σ H' fun σ2 H2=>tb {D with nx:=N,ct:=N,bk:=D.nx} σ2 H2):=by
 refine⟨fun i m σ H=>m=xs.length - i∧i≤xs.length∧Pv i σ H,⟨xs.length,by simp,aY _,h0⟩,?_⟩;rintro i m σ H ⟨rfl,hi,p⟩;obtain⟨q1,q2⟩:=hl i σ H hi p;by_cases hlt:i < xs.length
 ·refine .inr ⟨⟨[xs,ys],[xs[i],ys[i]],.cons q1 (.cons q2 .nil),.cons (bC hlt) (.cons (bC (by omega)) .nil)⟩,Pv (i+1),fun σ' H' p'=>⟨xs.length - (i+1),by omega,rfl,hlt,p'⟩,fun v H' y=>?_⟩;obtain⟨T,zs,rfl,hT,rfl,k⟩:=y;obtain⟨x,y,rfl,k1,k2⟩:=Jf (k _ (.cons q1 (.cons q2 .nil)));exact hs i x y T σ H k1 k2 hT p
 ·have e:i=xs.length:=by omega
  subst e;exact .inl ⟨⟨[xs,ys],.cons q1 (.cons q2 .nil),xs,aM,aR _⟩,hd σ H p⟩
theorem Uc {K:aB} {a b:aQ} {xs ys:List V} {g:TG} {tt:TT} {te:TE} {vs:List Nat} {σ:St} {H1:Hp} {D:aQ} {Qd:Hp→Prop} (hlen:xs.length=ys.length) (Pv:Nat→Hp→Prop) (h0:Pv 0 (upd H1 D (.lst []))) (hl:∀i H,i≤xs.length→Pv i H→fE K H a xs∧fE K H b ys)
  (hs:∀i x y T H,xs[i]?=some x→ys[i]?=some y→H T=none→Pv i H→g (.ref T) (nD σ vs) (upd H T (.tup [x,y])) fun σ2 H2=>nD σ2 vs=nD σ vs∧tt σ2 H2 fun b H3=>if b=true then te σ2 H3 fun y H4=>∃acc,H4 D=some (.lst acc)∧acc.length < aU∧Pv (i+1) (upd H4 D (.lst (acc++[y])))else Pv (i+1) H3) (hd:∀H,Pv xs.length H→Qd H):
  ∃W:Nat→Nat→Hp→Prop,(∃m,W 0 m (upd H1 D (.lst [])))∧∀i m H,W i m H→
   ((Gv K a b).stop i H∧Qd H)∨((Gv K a b).go i H∧∃Nx:Hp→Prop,(∀H',Nx H'→∃m',m' < m∧W (i+1) m' H')∧∀x H',(Gv K a b).yld i H x H'→g x (nD σ vs) H' fun σ2 H2=>nD σ2 vs=nD σ vs∧tt σ2 H2 fun b H3=>if b=true then te σ2 H3 fun y H4=>∃acc,H4 D=some (.lst acc)∧acc.length < aU∧Nx (upd H4 D (.lst (acc++[y])))else Nx H3):=by
 refine⟨fun i m H=>m=xs.length - i∧i≤xs.length∧Pv i H,⟨xs.length,by simp,aY _,h0⟩,?_⟩;rintro i m H ⟨rfl,hi,p⟩;obtain⟨q1,q2⟩:=hl i H hi p;by_cases hlt:i < xs.length
 ·refine .inr ⟨⟨[xs,ys],[xs[i],ys[i]],.cons q1 (.cons q2 .nil),.cons (bC hlt) (.cons (bC (by omega)) .nil)⟩,Pv (i+1),fun H' p'=>⟨xs.length - (i+1),by omega,rfl,hlt,p'⟩,fun v H' y=>?_⟩;obtain⟨T,zs,rfl,hT,rfl,k⟩:=y;obtain⟨x,y,rfl,k1,k2⟩:=Jf (k _ (.cons q1 (.cons q2 .nil)));exact hs i x y T H k1 k2 hT p
 ·have e:i=xs.length:=by omega
  subst e;exact .inl ⟨⟨[xs,ys],.cons q1 (.cons q2 .nil),xs,aM,aR _⟩,hd H p⟩
theorem Cs {K:aB} {a:aQ} {xs:List V} {g:TG} {tb:TS} {D:HC} {σ:St} {H:Hp} (Pv:Nat→St→Hp→Prop) (h0:Pv 0 σ H) (hl:∀i σ H,i≤xs.length→Pv i σ H→gX K H a xs)
  (hs:∀i x T σ H,xs[i]?=some x→H T=none→Pv i σ H→g (.ref T) σ (upd H T (.tup [.int (i:Nat),x])) fun σ2 H2=>tb {D with nx:=Pv (i+1),ct:=Pv (i+1),bk:=D.nx} σ2 H2) (hd:∀σ H,Pv xs.length σ H→D.nx σ H):
  ∃W:Nat→Nat→St→Hp→Prop,(∃m,W 0 m σ H)∧∀i m σ H,W i m σ H→
   ((Yc K a).stop i H∧D.nx σ H)∨((Yc K a).go i H∧∃N:St→Hp→Prop,(∀σ' H',N σ' H'→∃m',m' < m∧W (i+1) m' σ' H')∧∀x H',(Yc K a).yld i H x H'→g x σ H' fun σ2 H2=>tb {D with nx:=N,ct:=N,bk:=D.nx} σ2 H2):=by
 refine⟨fun i m σ H=>m=xs.length - i∧i≤xs.length∧Pv i σ H,⟨xs.length,by simp,aY _,h0⟩,?_⟩;rintro i m σ H ⟨rfl,hi,p⟩;have q:=hl i σ H hi p;by_cases hlt:i < xs.length
 ·refine .inr ⟨⟨xs,xs[i],q,by simp[hlt]⟩,Pv (i+1),fun σ' H' p'=>⟨xs.length - (i+1),by omega,rfl,hlt,p'⟩,fun v H' y=>?_⟩;obtain⟨T,x,rfl,hT,rfl,k1⟩:=y;exact hs i x T σ H (k1 xs q) hT p
 ·have e:i=xs.length:=by omega
  subst e;exact .inl ⟨⟨xs,q,aR _⟩,hd σ H p⟩
inductive CZ (w:eV):List YB→List (CG×V)→Prop
 | nil:CZ w [] []
 | cons {e:YB} {k:CG} {v:V} {es:List YB} {kvs:List (CG×V)}:QT k e.key=true→e.hash=Zb w k→gK v e.val→CZ w es kvs→CZ w (e::es) ((k,v)::kvs)
theorem CZ.keys (h:CZ w es kvs):∀e∈es,∃k,(lS P w).is k e.key=true∧e.hash=(lS P w).hash k:=by
 induction h with
 | nil=>intro e he;cases he
 | cons h1 h2 h3 _ ih=>
  intro e he;rcases aT.mp he with rfl | he
  ·exact⟨_,h1,h2⟩
  ·exact ih e he
theorem CZ.pairs (h:CZ w es kvs):∃vs,KV kvs vs∧Pairs (lS P w) es vs∧vs.map (·.1)=kvs.map (·.1):=by
 induction h with
 | nil=>exact⟨[],.nil,.nil,rfl⟩
 | @cons e k v es kvs h1 h2 h3 _ ih=>obtain⟨vs,a,b,c⟩:=ih;exact⟨(k,e.val)::vs,.cons ⟨rfl,h3⟩ a,.cons h1 rfl b,by rw[aP,aP,c]⟩
theorem JM {P:dF} {w:eV} {K:aB} {a:aQ} {o:Obj} {es:Array YB} {ep:Nat} {kvs:List (CG×V)} (hl:K.lookup a=some o) (hx:o.ExactDict) (hd:o.data=.dict es ep) (he:CZ w es.toList kvs) (hn:(kvs.map (·.1)).Nodup) (nm:(a == oY)=false):xO P w K a kvs:=by refine⟨nm,fun h X=>?_⟩;obtain⟨vs,h1,h2,h3⟩:=he.pairs (P:=P);refine⟨vs,h1,o,es,ep,X _ _ hl,hx,hd,fun e hm=>he.keys (P:=P) e (by simpa using hm),h2,by rw[h3];exact hn⟩
theorem ZE {K:aB} {a:aQ} {o:Obj} {eG:Array Value} {n:Nat} {xs:List V} (hl:K.lookup a=some o) (hc:o.cls=.type "tuple"∧o.dict=none) (hd:o.data=.seq eG n) (hz:eG.size≤aU) (hv:fY xs eG.toList) (H:Hp):fE K H a xs:=.inr ⟨o,eG,n,hl,hc,hd,hz,hv⟩
def gS (ns:List Int):Nat→Nat
 | 0=>0
 | j+1=>if ns.getD (j+1) 0 < ns.getD (gS ns j) 0 then j+1 else gS ns j
theorem HJ (ns:List Int):∀j,gS ns j≤j
 | 0=>aR _
 | j+1=>by unfold gS;have:=HJ ns j;split<;>omega
structure ME (X:Cx) (k:Nat) (f:aQ) (H:Hp) (xs:List V) (ns:List Int):Prop where
 ex:∃fd ps sp,sP X.K fd ps []∧vN X.prog X.w X.K X.mg X.base (UG X.prog X.w) k f fd ps sp∧∀i v,xs[i]?=some v→∀(Q:VK) (E:XK),Q (.int (ns.getD i 0)) H→sp [v] H Q E
section
variable {X:Cx} {pins:List (aQ×Obj)} {σ:St} {H:Hp} {k:Nat} {f l:aQ} {xs:List V} {ns:List Int} {kw:List (Str×Value)}
theorem Cz (F:ME X k f H xs ns) (hr:jE (k+1) X.A) (I:dH X pins σ H s) (hv:xs[i]?=some v) (ru:gK v u):
  bL (cB X.prog X.w) X.A.in1 (call (.ref f) [u]) (fun r s'=>(∃t,r=.int (ns.getD i 0) t)∧dH X pins σ H s') E s:=by
 obtain⟨fd,ps,sp,hb,F,hs⟩:=F.ex;have h:=hs i v hv (fun y H'=>y=.int (ns.getD i 0)∧H'=H) (fun _ _ _=>False) ⟨rfl,rfl⟩;have hl:[u].length=ps.length:=F.len _ _ _ _ h;have hb':TW s fd ⟨[u],[]⟩ (ps.zip [u]):=by
  have:=hb s [u] I.kIn (by rw[cK];exact hl)
  rwa [cK]at this
 have e0:=I.env0;refine OU (zE (F.run X.A.in1 X.stack s H ⟨[u],[]⟩ [u] [v] _ _ hr.in1 ⟨e0.frames,e0.mod,e0.bs,e0.bsz,e0.funs,e0.frf,e0.hok,e0.bare⟩ hb' (.cons ru .nil) h) fun r s' hq=>?_);cases r with
 | error e=>obtain⟨_,_,_,_,_,_,_,_,_,_,_,_,z⟩:=hq;exact eM z
 | ok fl=>
  cases fl with
  | ret w=>obtain⟨y,H',I',ry,e1,e2⟩:=I.after hq;subst e1 e2;exact⟨ry,I'⟩
  | next=>exact eM hq
  | brk=>exact eM hq
  | cont=>exact eM hq
abbrev Sv (a b:Value) (c:Nat):Obj:={cls:=.type "list",dict:=none,data:=.seq #[a,b] c,slots:=#[]}
theorem Rj {R:Result→aV→Prop} {It S:aQ} (hc:X.calm=true) (F:ME X k f H xs ns) (hr:jE (k+1) X.A) (hq:gX X.K H l xs)
  (hR:∀s' u,dH X pins σ H s'→(∀v,xs[gS ns (xs.length - 1)]?=some v→gK v u)→R (.ok (.ret u)) s') (fI:DA X pins H It) (fS:DA X pins H S) (hIS:It≠S):
  ∀(r j:Nat) (s:aV) (ub:Value) (tb:Tok) (c:Nat),xs.length - (j+1)=r→j+1≤xs.length→dH X pins σ H s→s.heap.IsListIter It l (j+1)→(∀v,xs[gS ns j]?=some v→gK v ub)→
   s.heap.get? S=some (Sv ub (.int (ns.getD (gS ns j) 0) tb) c)→vM (cB X.prog X.w) X.A (.builtin "min.loop" ⟨[.ref It,.ref f,.ref S],kw⟩) R s:=by
 have nm:(iM "min"++iM ".loop":String)="min.loop":=by decide
 intro r;induction r with
 | zero=>
  intro j s ub tb c hr0 hj I hit hub hS;obtain⟨us,rv,hl,_⟩:=I.list hq;have hl':s.heap.IsList l us.toArray:=let ⟨o,n,ho,hcl,_,hd⟩:=hl;⟨o,ho,hcl,n,hd⟩;have hlI:l≠It:=fun z=>by obtain⟨o,ho,c1,_⟩:=hl';obtain⟨o',ho',c2,_⟩:=hit;rw[z,ho']at ho;cases ho;rw[c2]at c1;exact absurd (rQ c1) (by decide)
  have W:=IQ (prog:=X.prog) (w:=X.w) (A:=X.A.in1) (I.ok.hd hc) It l hlI us.toArray;have hsz:us.toArray.size=xs.length:=by rw[bN,rv.length]
  refine pP sM ?_;rw[jX fO _];show bL _ X.A.in1 (FM (.ref S) >>= _) _ _ s;refine aH (iK hS rfl ?_);show bL _ X.A.in1 (vJ (CU (.ref It)) _ >>= _) _ _ s;refine aH (iL (W.done s _ _ ⟨by rw[hsz,show xs.length=j+1 by omega];exact hit,hl'⟩ fun h1 tk keep=>?_));have hS1:=keep S _ (by simpa using hIS.symm) hS;show bL _ X.A.in1 (YH S (fun _=>#[]) >>= _) _ _ _;refine aH ?_;refine pR hS1 rfl (aH (rC (bH ?_)));have e:xs.length - 1=j:=by omega
  refine hR _ ub ?_ (by rw[e];exact hub);have I1:dH X pins σ H {s with heap:=h1,toks:=tk}:=I.turnedL (t':=tk) (ch:=[It]) (fun b o hb e=>keep b o hb e) (fun b hb=>by obtain rfl:=bU.mp hb;exact fI);exact I1.turnedL (t':=tk) (ch:=[S]) (fun b o hb e=>(dY _ _ (fun z=>hb (by rw[←z];simp))).trans e) (fun b hb=>by obtain rfl:=bU.mp hb;exact fS)
 | succ r ih=>
  intro j s ub tb c hr0 hj I hit hub hS;have hlt:j+1 < xs.length:=by omega
  obtain⟨us,rv,hl,_⟩:=I.list hq;have hl':s.heap.IsList l us.toArray:=let ⟨o,n,ho,hcl,_,hd⟩:=hl;⟨o,ho,hcl,n,hd⟩;have hlI:l≠It:=fun z=>by obtain⟨o,ho,c1,_⟩:=hl';obtain⟨o',ho',c2,_⟩:=hit;rw[z,ho']at ho;cases ho;rw[c2]at c1;exact absurd (rQ c1) (by decide)
  have W:=IQ (prog:=X.prog) (w:=X.w) (A:=X.A.in1) (I.ok.hd hc) It l hlI us.toArray;have hsz:us.toArray.size=xs.length:=by rw[bN,rv.length]
  refine pP sM ?_;rw[jX fO _];show bL _ X.A.in1 (FM (.ref S) >>= _) _ _ s;refine aH (iK hS rfl ?_);show bL _ X.A.in1 (vJ (CU (.ref It)) _ >>= _) _ _ s;refine aH (iL (W.item (j+1) s _ _ (by rw[hsz];exact hlt) ⟨hit,hl'⟩ fun u h1 tk hP st1 keep=>?_));have hu:us[j+1]?=some u:=by simpa using hP
  have hxv:xs[j+1]?=some xs[j+1]:=bC hlt;obtain⟨u',hu',ru⟩:=rv.get hxv;rw[hu]at hu';cases hu';have hS1:=keep S _ (by simpa using hIS.symm) hS;have I1:dH X pins σ H {s with heap:=h1,toks:=tk}:=I.turnedL (t':=tk) (ch:=[It]) (fun b o hb e=>keep b o hb e) (fun b hb=>by obtain rfl:=bU.mp hb;exact fI);obtain⟨oI,hoI,hoc,hod⟩:=id st1.1;have Ip:=I1.pinned (fp:=[It,S]) (fun b hb=>by
   rcases aT.mp hb with rfl | hb
   ·exact fI
   ·obtain rfl:=bU.mp hb;exact fS) (fun b hb=>by
   rcases aT.mp hb with rfl | hb
   ·exact⟨oI,hoI,fun v z=>by rw[hod]at z;cases z⟩
   ·obtain rfl:=bU.mp hb;exact⟨_,hS1,fun v z=>nomatch z⟩)
  show bL _ X.A.in1 (vJ (GX [u] (call (.ref f) [u])) _ >>= _) _ _ _;refine aH (iL (qD (fV (Cz F hr Ip hxv ru) (fun y s2 he=>?_) fun _ _ z=>z)));obtain⟨⟨t2,rfl⟩,Iq⟩:=he;have hI2:s2.heap.get? It=some oI:=(Iq.pin (It,oI) (cS _ (cS _ (rJ (by simp) hoI)))).1;have hS2:s2.heap.get? S=some (Sv ub (.int (ns.getD (gS ns j) 0) tb) c):=(Iq.pin (S,_) (cS _ (cS _ (rJ (by simp) hS1)))).1;have I2:=Iq.unpinned;have hit2:s2.heap.IsListIter It l (j+1+1):=⟨oI,hI2,hoc,hod⟩;show bL _ X.A.in1 (vJ (GX [u,.int (ns.getD (j+1) 0) t2] (richCompare .Lt (.int (ns.getD (j+1) 0) t2) (.int (ns.getD (gS ns j) 0) tb) >>= _)) _ >>= _) _ _ _;refine aH (iL (qD (aH (CmpOf.ints_lt (prog:=X.prog) (w:=X.w) (A:=X.A.in1) (P:=fun i v=>∃t,v=.int (ns.getD i 0) t) (fun i=>ns.getD i 0) (fun i v h=>h) (j+1) (gS ns j) _ _ _ _ _ ⟨t2,rfl⟩ ⟨tb,rfl⟩ ?_))));refine aH (qD (nA ?_));refine aH (rC (bH ?_));by_cases hlt2:ns.getD (j+1) 0 < ns.getD (gS ns j) 0
  ·have el:gS ns (j+1)=j+1:=by unfold gS;rw[if_pos hlt2]
   simp only[hlt2,decide_true,if_true];refine aH ?_;refine pR hS2 rfl (aH (rC ?_));rw[nm];refine bH ⟨nJ fO _,ih (j+1) _ u t2 _ (by omega) hlt ?_ ⟨oI,(dY _ _ hIS.symm).trans hI2,hoc,hod⟩ (by rw[el,hxv];rintro v ⟨⟩;exact ru) (by rw[el];exact jK _ hS2 rfl)⟩;exact I2.turnedL (t':=s2.toks) (ch:=[S]) (fun b o hb e=>(dY _ _ (fun z=>hb (by rw[←z];simp))).trans e) (fun b hb=>by obtain rfl:=bU.mp hb;exact fS)
  ·have el:gS ns (j+1)=gS ns j:=by rw[gS,if_neg hlt2]
   simp only[hlt2,decide_false,gL,if_false];refine aH (rC ?_);rw[nm];exact bH ⟨nJ fO _,ih (j+1) _ ub tb c (by omega) hlt I2 hit2 (by rw[el];exact hub) (by rw[el];exact hS2)⟩
theorem WR {R:Result→aV→Prop} {It S:aQ} {s:aV} {c:Nat} (hc:X.calm=true) (F:ME X k f H xs ns) (hr:jE (k+1) X.A) (hq:gX X.K H l xs) (hne:0 < xs.length)
  (hR:∀s' u,dH X pins σ H s'→(∀v,xs[gS ns (xs.length - 1)]?=some v→gK v u)→R (.ok (.ret u)) s') (fI:DA X pins H It) (fS:DA X pins H S) (hIS:It≠S)
  (I:dH X pins σ H s) (hit:s.heap.IsListIter It l 0) (hS:s.heap.get? S=some {cls:=.type "list",dict:=none,data:=.seq #[] c,slots:=#[]}):vM (cB X.prog X.w) X.A (.builtin "min.loop" ⟨[.ref It,.ref f,.ref S],kw⟩) R s:=by
 have nm:(iM "min"++iM ".loop":String)="min.loop":=by decide
 obtain⟨us,rv,hl,_⟩:=I.list hq;have hl':s.heap.IsList l us.toArray:=let ⟨o,n,ho,hcl,_,hd⟩:=hl;⟨o,ho,hcl,n,hd⟩;have hlI:l≠It:=fun z=>by obtain⟨o,ho,c1,_⟩:=hl';obtain⟨o',ho',c2,_⟩:=hit;rw[z,ho']at ho;cases ho;rw[c2]at c1;exact absurd (rQ c1) (by decide)
 have W:=IQ (prog:=X.prog) (w:=X.w) (A:=X.A.in1) (I.ok.hd hc) It l hlI us.toArray;have hsz:us.toArray.size=xs.length:=by rw[bN,rv.length]
 refine pP sM ?_;rw[jX fO _];show bL _ X.A.in1 (FM (.ref S) >>= _) _ _ s;refine aH (iK hS rfl ?_);show bL _ X.A.in1 (vJ (CU (.ref It)) _ >>= _) _ _ s;refine aH (iL (W.item 0 s _ _ (by rw[hsz];exact hne) ⟨hit,hl'⟩ fun u h1 tk hP st1 keep=>?_));have hu:us[0]?=some u:=by simpa using hP
 have hxv:xs[0]?=some xs[0]:=bC hne;obtain⟨u',hu',ru⟩:=rv.get hxv;rw[hu]at hu';cases hu';have hS1:=keep S _ (by simpa using hIS.symm) hS;have I1:dH X pins σ H {s with heap:=h1,toks:=tk}:=I.turnedL (t':=tk) (ch:=[It]) (fun b o hb e=>keep b o hb e) (fun b hb=>by obtain rfl:=bU.mp hb;exact fI);obtain⟨oI,hoI,hoc,hod⟩:=id st1.1;have Ip:=I1.pinned (fp:=[It,S]) (fun b hb=>by
  rcases aT.mp hb with rfl | hb
  ·exact fI
  ·obtain rfl:=bU.mp hb;exact fS) (fun b hb=>by
  rcases aT.mp hb with rfl | hb
  ·exact⟨oI,hoI,fun v z=>by rw[hod]at z;cases z⟩
  ·obtain rfl:=bU.mp hb;exact⟨_,hS1,fun v z=>nomatch z⟩)
 show bL _ X.A.in1 (vJ (GX [u] (call (.ref f) [u])) _ >>= _) _ _ _;refine aH (iL (qD (fV (Cz F hr Ip hxv ru) (fun y s2 he=>?_) fun _ _ z=>z)));obtain⟨⟨t2,rfl⟩,Iq⟩:=he;have hI2:s2.heap.get? It=some oI:=(Iq.pin (It,oI) (cS _ (cS _ (rJ (by simp) hoI)))).1;have hS2:s2.heap.get? S=some {cls:=.type "list",dict:=none,data:=.seq #[] c,slots:=#[]}:=(Iq.pin (S,_) (cS _ (cS _ (rJ (by simp) hS1)))).1;have I2:=Iq.unpinned;show bL _ X.A.in1 (YH S (fun _=>#[u,.int (ns.getD 0 0) t2]) >>= _) _ _ _;refine aH ?_;refine pR hS2 rfl ?_;rw[nm];refine bH ⟨nJ fO _,Rj hc F hr hq hR fI fS hIS _ 0 _ u t2 _ rfl hne ?_ ⟨oI,(dY _ _ hIS.symm).trans hI2,hoc,hod⟩ (by show ∀v,xs[0]?=some v→_;rw[hxv];rintro v ⟨⟩;exact ru) (jK _ hS2 rfl)⟩;exact I2.turnedL (t':=s2.toks) (ch:=[S]) (fun b o hb e=>(dY _ _ (fun z=>hb (by rw[←z];simp))).trans e) (fun b hb=>by obtain rfl:=bU.mp hb;exact fS)
theorem Ri {R:Result→aV→Prop} {It S:aQ} {s:aV} {c:Nat} {d:Value} (hc:X.calm=true) (hq:gX X.K H l xs) (hne:xs.length=0)
  (hR:∀s',dH X pins σ H s'→R (.ok (.ret d)) s') (fI:DA X pins H It)
  (I:dH X pins σ H s) (hit:s.heap.IsListIter It l 0) (hS:s.heap.get? S=some {cls:=.type "list",dict:=none,data:=.seq #[] c,slots:=#[]}):vM (cB X.prog X.w) X.A (.builtin "min.loop" ⟨[.ref It,.ref f,.ref S],[("default",d)]⟩) R s:=by
 obtain⟨us,rv,hl,_⟩:=I.list hq;have hl':s.heap.IsList l us.toArray:=let ⟨o,n,ho,hcl,_,hd⟩:=hl;⟨o,ho,hcl,n,hd⟩;have hlI:l≠It:=fun z=>by obtain⟨o,ho,c1,_⟩:=hl';obtain⟨o',ho',c2,_⟩:=hit;rw[z,ho']at ho;cases ho;rw[c2]at c1;exact absurd (rQ c1) (by decide)
 have W:=IQ (prog:=X.prog) (w:=X.w) (A:=X.A.in1) (I.ok.hd hc) It l hlI us.toArray;have hsz:us.toArray.size=0:=by rw[bN,←rv.length];exact hne
 refine pP sM ?_;rw[jX fO _];show bL _ X.A.in1 (FM (.ref S) >>= _) _ _ s;refine aH (iK hS rfl ?_);show bL _ X.A.in1 (vJ (CU (.ref It)) _ >>= _) _ _ s;refine aH (iL (W.done s _ _ ⟨by rw[hsz];exact hit,hl'⟩ fun h1 tk keep=>?_));show bL _ X.A.in1 (rule _ >>= _) _ _ _;exact aH (Gn (bH (hR _ (I.turnedL (t':=tk) (ch:=[It]) (fun b o hb e=>keep b o hb e) (fun b hb=>by obtain rfl:=bU.mp hb;exact fI)))))
end
theorem Mg (a v:Value):CQ "min" ⟨[a],[("key",v)]⟩:=by unfold CQ;kernel_rfl
theorem Ha (a v d:Value):CQ "min" ⟨[a],[("key",v),("default",d)]⟩:=by unfold CQ;kernel_rfl
section
variable {X:Cx} {pins:List (aQ×Obj)} {σ:St} {H:Hp} {s:aV} {k:Nat} {f l:aQ} {xs:List V} {ns:List Int} {Q:VK} {E:Value→aV→Prop}
theorem Mn (hc:X.calm=true) (F:ME X k f H xs ns) (hr:jE (k+1) X.A) (hq:gX X.K H l xs) (hne:0 < xs.length) (I:dH X pins σ H s) (h:∀v,xs[gS ns (xs.length - 1)]?=some v→Q v H):
  bL (cB X.prog X.w) X.A (call (.builtin "min") [.ref l] [("key",.ref f)]) (EP X pins σ Q) E s:=by
 have nm:(iM "min"++iM ".loop":String)="min.loop":=by decide
 obtain⟨us,rv,hl,_⟩:=I.list hq;have hl':s.heap.IsList l us.toArray:=let ⟨o,n,ho,hcl,_,hd⟩:=hl;⟨o,ho,hcl,n,hd⟩;refine Bg Ls Jq Jp (Mg _ _) ?_;show bL _ X.A.in1 (hU "min" ["key","default"] 0 ⟨[],[("key",.ref f)]⟩ >>= _) _ _ s;refine aH (Bq (show hU "min" ["key","default"] 0 ⟨[],[("key",.ref f)]⟩=pure [some (.ref f),none]from rfl) ?_);refine aH (bH (aH (UC hl' (aH (wpAny_newList ?_ (aY _))))));rw[nm];have sz:(s.heap.push {cls:=.type "list_iterator",data:=.fields #[.ref l,.int 0 0]}).objs.size=s.heap.objs.size+1:=cF ..;have I1:dH X pins σ H {s with heap:=(s.heap.push {cls:=.type "list_iterator",data:=.fields #[.ref l,.int 0 0]}).push {cls:=.type "list",dict:=none,data:=.seq #[] 0,slots:=#[]}}:=I.kept (t':=s.toks) fun b u e=>aF _ (aF _ e);have l1:s.heap.objs.size≤s.heap.objs.size:=aR _;have l2:s.heap.objs.size≤(s.heap.push {cls:=.type "list_iterator",data:=.fields #[.ref l,.int 0 0]}).objs.size:=by rw[sz];exact vV _
 refine bH ⟨nJ fO _,WR hc F hr hq hne (fun s' u I' hv=>?_) (I.fpOk l1 (I.hok.fresh l1)) (I.fpOk l2 (I.hok.fresh l2)) (by rw[sz];exact eI (lE _)) I1 ⟨_,aF _ (bQ _ rfl),rfl,rfl⟩ (bQ _ rfl)⟩;have hi:gS ns (xs.length - 1) < xs.length:=gP (HJ _ _) (by omega);exact⟨_,H,I',hv _ (bC hi),h _ (bC hi)⟩
theorem Hc {d:Value} {dv:V} (hc:X.calm=true) (F:ME X k f H xs ns) (hr:jE (k+1) X.A) (hq:gX X.K H l xs) (I:dH X pins σ H s) (rd:gK dv d) (h0:xs.length=0→Q dv H) (h:∀v,xs[gS ns (xs.length - 1)]?=some v→Q v H):
  bL (cB X.prog X.w) X.A (call (.builtin "min") [.ref l] [("key",.ref f),("default",d)]) (EP X pins σ Q) E s:=by
 have nm:(iM "min"++iM ".loop":String)="min.loop":=by decide
 obtain⟨us,rv,hl,_⟩:=I.list hq;have hl':s.heap.IsList l us.toArray:=let ⟨o,n,ho,hcl,_,hd⟩:=hl;⟨o,ho,hcl,n,hd⟩;refine Bg Ls Jq Jp (Ha _ _ _) ?_;show bL _ X.A.in1 (hU "min" ["key","default"] 0 ⟨[],[("key",.ref f),("default",d)]⟩ >>= _) _ _ s;refine aH (Bq (show hU "min" ["key","default"] 0 ⟨[],[("key",.ref f),("default",d)]⟩=pure [some (.ref f),some d]from rfl) ?_);refine aH (bH (aH (UC hl' (aH (wpAny_newList ?_ (aY _))))));rw[nm];have sz:(s.heap.push {cls:=.type "list_iterator",data:=.fields #[.ref l,.int 0 0]}).objs.size=s.heap.objs.size+1:=cF ..;have I1:dH X pins σ H {s with heap:=(s.heap.push {cls:=.type "list_iterator",data:=.fields #[.ref l,.int 0 0]}).push {cls:=.type "list",dict:=none,data:=.seq #[] 0,slots:=#[]}}:=I.kept (t':=s.toks) fun b u e=>aF _ (aF _ e);have l1:s.heap.objs.size≤s.heap.objs.size:=aR _;have l2:s.heap.objs.size≤(s.heap.push {cls:=.type "list_iterator",data:=.fields #[.ref l,.int 0 0]}).objs.size:=by rw[sz];exact vV _
 refine bH ⟨nJ fO _,?_⟩;by_cases hz:xs.length=0
 ·exact Ri hc hq hz (fun s' I'=>⟨dv,H,I',rd,h0 hz⟩) (I.fpOk l1 (I.hok.fresh l1)) I1 ⟨_,aF _ (bQ _ rfl),rfl,rfl⟩ (bQ _ rfl)
 ·have hi:gS ns (xs.length - 1) < xs.length:=gP (HJ _ _) (by omega);exact WR hc F hr hq (by omega) (fun s' u I' hv=>⟨_,H,I',hv _ (bC hi),h _ (bC hi)⟩) (I.fpOk l1 (I.hok.fresh l1)) (I.fpOk l2 (I.hok.fresh l2)) (by rw[sz];exact eI (lE _)) I1 ⟨_,aF _ (bQ _ rfl),rfl,rfl⟩ (bQ _ rfl)
end
section
variable {X:Cx} {k:Nat} {e ek ed:Expr} {te tk td:TE} {p kp kp2 pos:Pos}
theorem Ky (hr:jE (k+1) X.A) (hc:X.calm=true) (he:PE X e te) (hk:PE X ek tk) (hm:X.mg "min"=none) (hg:Gl X "min":=by rfl) (hs:bO [e] X.env=[(false,gZ e X.env)]:=by rfl):
  PE X (.Call (.Name "min" p) [e] [⟨some "key",ek,kp⟩] pos) (fun σ H Q=>te σ H fun x H1=>tk σ H1 fun y H2=>∃l f xs ns,x=.ref l∧y=.ref f∧gX X.K H2 l xs∧ME X k f H2 xs ns∧0 < xs.length∧∀v,xs[gS ns (xs.length - 1)]?=some v→Q v H2):=by
 intro pins s σ H Q I h;refine hJ (tY I hg hm boot_min ?_);refine callWith_kw ?_ (by rw[hs];rfl) (by rw[hs];rfl);refine spliced_more (kT (he pins s σ H _ I h) fun u s1 ⟨x,H1,I1,r1,q1⟩=>spliced_none ?_) hs;refine kws_cons (kT (hk pins s1 σ H1 _ I1 q1) fun u2 s2 ⟨y,H2,I2,r2,l,f,xs,ns,ex,ey,hq,F,hne,q⟩=>kws_nil ?_);subst ex ey;obtain rfl:u=dC l:=r1;obtain rfl:u2=dC f:=r2;exact Mn hc F hr hq hne I2 q
theorem Rx (hr:jE (k+1) X.A) (hc:X.calm=true) (he:PE X e te) (hk:PE X ek tk) (hd:PE X ed td) (hm:X.mg "min"=none) (hg:Gl X "min":=by rfl) (hs:bO [e] X.env=[(false,gZ e X.env)]:=by rfl):
  PE X (.Call (.Name "min" p) [e] [⟨some "key",ek,kp⟩,⟨some "default",ed,kp2⟩] pos) (fun σ H Q=>te σ H fun x H1=>tk σ H1 fun y H2=>td σ H2 fun z H3=>∃l f xs ns,x=.ref l∧y=.ref f∧gX X.K H3 l xs∧ME X k f H3 xs ns∧(xs.length=0→Q z H3)∧∀v,xs[gS ns (xs.length - 1)]?=some v→Q v H3):=by
 intro pins s σ H Q I h;refine hJ (tY I hg hm boot_min ?_);refine callWith_kw ?_ (by rw[hs];rfl) (by rw[hs];rfl);refine spliced_more (kT (he pins s σ H _ I h) fun u s1 ⟨x,H1,I1,r1,q1⟩=>spliced_none ?_) hs;refine kws_cons (kT (hk pins s1 σ H1 _ I1 q1) fun u2 s2 ⟨y,H2,I2,r2,q2⟩=>kws_cons (kT (hd pins s2 σ H2 _ I2 q2) fun u3 s3 ⟨z,H3,I3,r3,l,f,xs,ns,ex,ey,hq,F,h0,q⟩=>kws_nil ?_));subst ex ey;obtain rfl:u=dC l:=r1;obtain rfl:u2=dC f:=r2;exact Hc hc F hr hq I3 r3 h0 q
end
section
variable {X:Cx} {k:Nat} {C:aQ} {ps:List Str} {sp:Sp} {x:Str} {p pos:Pos} {e:Expr} {es:List Expr} {t:TA}
theorem Uv (F:Vr X.prog X.w X.K X.mg X.base k C ps sp) (hm:X.mg x=some (.ref C)) (hr:jE (k+1) X.A) (ha:PA X (e::es) t) (hg:Gl X x:=by rfl)
  (hdb:(x == ("__debug__":Str))=false:=by decide) (he:bO (e::es) X.env=(false,gZ e X.env)::bO es X.env:=by rfl) (hpl:(jD pos (bO es X.env)).any (·.1)=false:=by rfl):
  PE X (.Call (.Name x p) (e::es) [] pos) (XQ C sp [] E0 t):=by
 obtain⟨f,fd,M,hb,F⟩:=F.ex;exact Kx M F hr hg hm hb .nil Rq ha hdb he hpl
end
theorem dH.forget (I:dH X pins (σ.set i (some v)) H s) (h:σ[i]?=some none):dH X pins σ H s:=
 ⟨I.ok,I.os,I.bare,I.base,(let ⟨m,hn,hl⟩:=I.loc
  ⟨m,hn,fun j x v' e1 e2 e3=>hl j x v' e1 (by rw[vR (fun z=>by rw[←z,h]at e2;cases e2)];exact e2) e3⟩),I.cell,I.free,I.freeC,I.pin,I.hok,by rw[←I.len,List.length_set]⟩
theorem En {X:Cx} {e:Expr} {i:Nat} {y:Str} {te:XK→TE} {tr:XK→TS} {pos' rpos:Pos} {rest:List yL} (hN:X.N.Nodup) (hi:X.N[i]?=some y) (hx:Wa X.env.scope y) (he:Xs X e te) (hr:Xt X rest tr) (hs:wM e (some (.Name y pos')) rpos.line X.env=pure false:=by rfl)
  (hf:X.fn y=true∨X.env.scope.names.lookup y=some .local:=by first | exact .inl rfl | exact .inr rfl | assumption):
  Xt X (.Assign [.Name y pos'] e rpos::rest) (fun E D σ H=>te E σ H fun v H1=>σ[i]?=some none∧tr E D (σ.set i (some v)) H1):=by
 intro pins s σ H D E I h;refine wN (UB (kT (he pins s σ H _ E I h) fun v s1 ⟨z,H1,I1,r1,e0,q1⟩=>?_) hs);exact DZ I1 hN hi hx r1 (fun s2 I2=>fV (hr pins s2 _ H1 D E I2 q1) (fun _ _ z=>z) fun v s' ⟨H',e',C,a1,F,c⟩=>⟨H',e',C,a1,⟨F.1.forget e0,F.2⟩,c⟩) hf
def G0 (K:aB) (tb:XK→TS) (th:aQ→TS):TS:=fun D σ H=>tb (fun v _ H'=>∃C,v=.ref C∧yR K C=true∧th C D σ H') D σ H
theorem Lb (p:mE X) (hb:Xt X body tb) (hh:PH X (h0::hs) th):PS X (.Try body (h0::hs) [] [] pos) (G0 X.K tb th):=Ij p hb hh
end L2
end
section
namespace VM
open Vatwva
open Vatwvc (Edit Path changeAt doneAt pathIn onList onRecord putAt takeAt moveAt hasField placeOf turned turnedAll applyFrom applyAll rowOn Found Move Plan cheaper andThen plan better lastRow nextRow editsOfPlan diffFrom wordsOfEdit editFrom editOf editsOf isEdit isStep)
theorem gI:∀r:Row,rowOf (entries r)=r
 | .nil=>rfl
 | .text n t r=>by show Row.text n t (rowOf (entries r))=_;rw[gI r]
 | .num n z r=>by show Row.num n z (rowOf (entries r))=_;rw[gI r]
 | .sub n l k r=>by show Row.sub n l k (rowOf (entries r))=_;rw[gI r]
def mJ (v:Value):Prop:=entries v=[([],v)]
theorem mJ.cases (h:mJ v):(∃t,v=vText t)∨(∃z,v=vNum z)∨(∃k,v=vRec k)∨(∃k,v=vList k):=by
 unfold mJ at h;cases v with
 | nil=>simp[entries]at h
 | text n t r=>simp only[entries,dE,FS]at h;obtain⟨⟨rfl,e⟩,_⟩:=h;exact .inl ⟨t,e.symm⟩
 | num n z r=>simp only[entries,dE,FS]at h;obtain⟨⟨rfl,e⟩,_⟩:=h;exact .inr (.inl ⟨z,e.symm⟩)
 | sub n l k r=>
  simp only[entries,dE,FS]at h;obtain⟨⟨rfl,e⟩,_⟩:=h;cases l
  ·exact .inr (.inr (.inl ⟨k,e.symm⟩))
  ·exact .inr (.inr (.inr ⟨k,e.symm⟩))
theorem qT (t:bW):mJ (vText t):=rfl
theorem Uo (z:Int):mJ (vNum z):=rfl
theorem pV (l:List (Name×Value)):mJ (recordOf l):=rfl
theorem uC (l:List Value):mJ (listOf l):=rfl
theorem rW:∀(r:Row),∀x∈entries r,mJ x.2
 | .nil,x,h=>by simp[entries]at h
 | .text n t r,x,h=>by
  rcases aT.mp h with rfl | h
  ·rfl
  ·exact rW r x h
 | .num n z r,x,h=>by
  rcases aT.mp h with rfl | h
  ·rfl
  ·exact rW r x h
 | .sub n l k r,x,h=>by
  rcases aT.mp h with rfl | h
  ·rfl
  ·exact rW r x h
theorem UN (n:Name) (r:Row) (h:mJ v):entries (entry n v r)=(n,v)::entries r:=by rcases h.cases with⟨t,rfl⟩ | ⟨z,rfl⟩ | ⟨k,rfl⟩ | ⟨k,rfl⟩<;>rfl
theorem fC:∀(l:List (Name×Value)),(∀x∈l,mJ x.2)→entries (rowOf l)=l
 | [],_=>rfl
 | (n,v)::l,h=>by show entries (entry n v (rowOf l))=_;rw[UN n _ (h _ aM),fC l (fun x hx=>h x (aL _ hx))]
theorem oN (h:∀x∈l,mJ x.2):kidsOf (recordOf l)=l:=fC l h
theorem Da (h:∀x∈l,mJ x):kidsOf (listOf l)=l.map fun v=>([],v):=by refine fC _ fun x hx=>?_;obtain⟨v,hv,rfl⟩:=aX.mp hx;exact h v hv
theorem lO (h:∀x∈l,mJ x):itemsOf (listOf l)=l:=by unfold itemsOf;rw[Da h,cP];show l.map (fun x=>x)=l;exact List.map_id' l
theorem mQ:∀x∈kidsOf v,mJ x.2:=by
 cases v with
 | nil=>intro x h;simp[kidsOf]at h
 | text n t r=>intro x h;simp[kidsOf]at h
 | num n z r=>intro x h;simp[kidsOf]at h
 | sub n l k r=>exact rW k
theorem lJ:∀x∈itemsOf v,mJ x:=by intro x h;obtain⟨y,hy,rfl⟩:=aX.mp h;exact mQ y hy
theorem fU (h:mJ v) (hr:isRecord v=true):recordOf (kidsOf v)=v:=by
 rcases h.cases with⟨t,rfl⟩ | ⟨z,rfl⟩ | ⟨k,rfl⟩ | ⟨k,rfl⟩
 ·cases hr
 ·cases hr
 ·show vRec (rowOf (entries k))=vRec k;rw[gI]
 ·cases hr
theorem iG (h:mJ v) (hr:isList v=true) (hn:∀x∈kidsOf v,x.1=[]):listOf (itemsOf v)=v:=by
 rcases h.cases with⟨t,rfl⟩ | ⟨z,rfl⟩ | ⟨k,rfl⟩ | ⟨k,rfl⟩
 ·cases hr
 ·cases hr
 ·cases hr
 ·show vList (rowOf (((entries k).map fun x=>x.2).map fun v=>([],v)))=vList k;rw[cP];have e:(entries k).map ((fun v=>(([]:Name),v))∘fun x=>x.2)=entries k:=by
   conv=>rhs;rw[←nX (entries k)]
   refine eO fun x hx=>?_;have:=hn x hx;obtain⟨n,v⟩:=x;simp only at this;subst this;rfl
  rw[e,gI]
def pS:List Nat→Nat
 | []=>0
 | a::l=>max a (pS l)
theorem MN (l m:List Nat):pS (l++m)=max (pS l) (pS m):=by
 induction l with
 | nil=>simp[pS]
 | cons a l ih=>show max a (pS (l++m))=max (max a (pS l)) (pS m);rw[ih,Nat.max_assoc]
theorem pT:pS l≤n↔∀x∈l,x≤n:=by
 induction l with
 | nil=>simp[pS]
 | cons a l ih=>simp[pS,Nat.max_le,ih]
theorem EM (h:mJ v):1≤count v:=by rcases h.cases with⟨t,rfl⟩ | ⟨z,rfl⟩ | ⟨k,rfl⟩ | ⟨k,rfl⟩<;>simp only[vText,vNum,vRec,vList,count]<;>omega
theorem qO (h:mJ v):1≤deep v:=by rcases h.cases with⟨t,rfl⟩ | ⟨z,rfl⟩ | ⟨k,rfl⟩ | ⟨k,rfl⟩<;>simp only[vText,vNum,vRec,vList,deep]<;>omega
theorem kP:∀r:Row,count r=((entries r).map fun x=>count x.2).sum
 | .nil=>rfl
 | .text n t r=>by show 1+count r=(count (vText t)::(entries r).map _).sum;rw[dU,←kP r];rfl
 | .num n z r=>by show 1+count r=(count (vNum z)::(entries r).map _).sum;rw[dU,←kP r];rfl
 | .sub n l k r=>by show 1+count k+count r=(count (.sub [] l k .nil)::(entries r).map _).sum;rw[dU,←kP r];show _=1+count k+0+count r;omega
theorem jM:∀r:Row,deep r=pS ((entries r).map fun x=>deep x.2)
 | .nil=>rfl
 | .text n t r=>by show max 1 (deep r)=max (deep (vText t)) (pS _);rw[←jM r];rfl
 | .num n z r=>by show max 1 (deep r)=max (deep (vNum z)) (pS _);rw[←jM r];rfl
 | .sub n l k r=>by show max (deep k+1) (deep r)=max (deep (.sub [] l k .nil)) (pS _);rw[←jM r];show _=max (max (deep k+1) 0) (deep r);rw[qM]
theorem mL (h:∀x∈l,mJ x.2):count (recordOf l)=1+(l.map fun x=>count x.2).sum:=by show 1+count (rowOf l)+0=_;rw[kP,fC l h];rfl
theorem lY (h:∀x∈l,mJ x.2):deep (recordOf l)=pS (l.map fun x=>deep x.2)+1:=by show max (deep (rowOf l)+1) 0=_;rw[jM,fC l h,qM]
theorem rZ {l:List Value} (h:∀x∈l,mJ x):∀x∈l.map (fun v=>(([]:Name),v)),mJ x.2:=by intro x hx;obtain⟨v,hv,rfl⟩:=aX.mp hx;exact h v hv
theorem lL {l:List Value} (h:∀x∈l,mJ x):count (listOf l)=1+(l.map count).sum:=by show 1+count (rowOf _)+0=_;rw[kP,fC _ (rZ h),cP];rfl
theorem lM {l:List Value} (h:∀x∈l,mJ x):deep (listOf l)=pS (l.map deep)+1:=by show max (deep (rowOf _)+1) 0=_;rw[jM,fC _ (rZ h),cP,qM];rfl
def ok (W:Nat) (named:Bool):Row→Bool
 | .nil=>true
 | .text n t r=>(if named=true then isName n else n.isEmpty) && (isText t && ok W named r)
 | .num n z r=>(if named=true then isName n else n.isEmpty) && (decide (z.natAbs≤GREATEST) && ok W named r)
 | .sub n l k r=>(if named=true then isName n else n.isEmpty) && (decide ((entries k).length≤W) && ((l || distinct ((entries k).map fun x=>x.1)) && (ok W (!l) k && ok W named r)))
theorem DP:∀(r:Row) (named:Bool),isRow named r=ok mH named r
 | .nil,_=>rfl
 | .text n t r,b=>by simp only[isRow,ok,DP r]
 | .num n z r,b=>by simp only[isRow,ok,DP r]
 | .sub n l k r,b=>by simp only[isRow,ok,DP r,DP k]
theorem qQ:∀(r:Row) (named:Bool),yN named r=ok (2 * mH) named r
 | .nil,_=>rfl
 | .text n t r,b=>by simp only[yN,ok,qQ r]
 | .num n z r,b=>by simp only[yN,ok,qQ r]
 | .sub n l k r,b=>by simp only[yN,ok,qQ r,qQ k]
theorem HR:∀(r:Row) (named:Bool),ok W named r=true↔∀x∈entries r,(if named=true then isName x.1 else x.1.isEmpty)=true∧ok W false x.2=true
 | .nil,_=>by simp[ok,entries]
 | .text n t r,b=>by simp[ok,entries,vText,HR r b,and_assoc]
 | .num n z r,b=>by simp[ok,entries,vNum,HR r b,and_assoc]
 | .sub n l k r,b=>by simp[ok,entries,HR r b,and_assoc]
def eB (W:Nat) (v:Value):Prop:=mJ v∧ok W false v=true
theorem Kl (h1:(entries v).length=1) (h2:ok W false v=true):eB W v:=by
 refine⟨?_,h2⟩;cases v with
 | nil=>simp[entries]at h1
 | text n t r=>
  simp only[ok,gL,if_false,aE,BU]at h2;simp only[entries,aK,OP,nE]at h1;have:r=.nil:=by rw[←gI r,h1];rfl
  rw[h2.1,this];rfl
 | num n z r=>
  simp only[ok,gL,if_false,aE,BU]at h2;simp only[entries,aK,OP,nE]at h1;have:r=.nil:=by rw[←gI r,h1];rfl
  rw[h2.1,this];rfl
 | sub n l k r=>
  simp only[ok,gL,if_false,aE,BU]at h2;simp only[entries,aK,OP,nE]at h1;have:r=.nil:=by rw[←gI r,h1];rfl
  rw[h2.1,this];rfl
theorem eB.len (h:eB W v):(entries v).length=1:=by rw[show entries v=[([],v)]from h.1];rfl
theorem ET:eB W (vText t)↔isText t=true:=⟨fun h=>by simpa [ok,vText] using h.2,fun h=>⟨qT t,by simpa [ok,vText] using h⟩⟩
theorem JK:eB W (vNum z)↔z.natAbs≤GREATEST:=⟨fun h=>by simpa [ok,vNum] using h.2,fun h=>⟨Uo z,by simpa [ok,vNum] using h⟩⟩
theorem zO (h:∀x∈l,mJ x.2):eB W (recordOf l)↔l.length≤W∧distinct (l.map fun x=>x.1)=true∧∀x∈l,isName x.1=true∧eB W x.2:=by
 unfold eB;have e:ok W false (recordOf l)=(decide (l.length≤W) && (distinct (l.map fun x=>x.1) && ok W true (rowOf l))):=by show(([]:Name).isEmpty && (decide ((entries (rowOf l)).length≤W) && ((false || distinct ((entries (rowOf l)).map fun x=>x.1)) && (ok W true (rowOf l) && true))))=_;rw[fC l h];simp
 rw[e];simp only[pV,aE,decide_eq_true_eq,true_and];rw[HR,fC l h];simp only[if_true];constructor
 ·rintro⟨a,b,c⟩;exact⟨a,b,fun x hx=>⟨(c x hx).1,h x hx,(c x hx).2⟩⟩
 ·rintro⟨a,b,c⟩;exact⟨a,b,fun x hx=>⟨(c x hx).1,(c x hx).2.2⟩⟩
theorem rX {W:Nat} {l:List Value} (h:∀x∈l,mJ x):eB W (listOf l)↔l.length≤W∧∀x∈l,eB W x:=by
 unfold eB;have e:ok W false (listOf l)=(decide (l.length≤W) && ok W false (rowOf (l.map fun v=>([],v)))):=by show(([]:Name).isEmpty && (decide ((entries (rowOf _)).length≤W) && ((true || distinct ((entries (rowOf _)).map fun x=>x.1)) && (ok W false (rowOf _) && true))))=_;rw[fC _ (rZ h)];simp
 rw[e];simp only[uC,aE,decide_eq_true_eq,true_and];rw[HR,fC _ (rZ h)];constructor
 ·rintro⟨a,b⟩;exact⟨a,fun x hx=>⟨h x hx,(b ([],x) (aX.mpr ⟨x,hx,rfl⟩)).2⟩⟩
 ·rintro⟨a,b⟩;refine⟨a,fun x hx=>?_⟩;obtain⟨v,hv,rfl⟩:=aX.mp hx;exact⟨rfl,(b v hv).2⟩
theorem eB.kids (h:eB W v) (hr:isRecord v=true):(kidsOf v).length≤W∧distinct ((kidsOf v).map fun x=>x.1)=true∧∀x∈kidsOf v,isName x.1=true∧eB W x.2:=by rw[←fU h.1 hr]at h;exact(zO mQ).mp h
theorem eB.names (h:eB W v) (hr:isList v=true):∀x∈kidsOf v,x.1=[]:=by
 rcases h.1.cases with⟨t,rfl⟩ | ⟨z,rfl⟩ | ⟨k,rfl⟩ | ⟨k,rfl⟩
 ·cases hr
 ·cases hr
 ·cases hr
 ·intro x hx;have h2:=h.2;simp only[vList,ok,aE]at h2;have:=((HR k (!true)).mp h2.2.2.2.1 x hx).1;simpa using this
theorem eB.items (h:eB W v) (hr:isList v=true):(itemsOf v).length≤W∧∀x∈itemsOf v,eB W x:=by rw[←iG h.1 hr (h.names hr)]at h;exact(rX lJ).mp h
theorem eB.cases (h:eB W v):(∃t,isText t=true∧v=vText t)∨(∃z,z.natAbs≤GREATEST∧v=vNum z)∨
  (∃l:List (Name×Value),v=recordOf l∧l.length≤W∧distinct (l.map fun x=>x.1)=true∧(∀x∈l,isName x.1=true∧eB W x.2))∨(∃l:List Value,v=listOf l∧l.length≤W∧∀x∈l,eB W x):=by
 rcases h.1.cases with⟨t,rfl⟩ | ⟨z,rfl⟩ | ⟨k,rfl⟩ | ⟨k,rfl⟩
 ·exact .inl ⟨t,ET.mp h,rfl⟩
 ·exact .inr (.inl ⟨z,JK.mp h,rfl⟩)
 ·exact .inr (.inr (.inl ⟨_,(fU h.1 rfl).symm,h.kids rfl⟩))
 ·exact .inr (.inr (.inr ⟨_,(iG h.1 rfl (h.names rfl)).symm,h.items rfl⟩))
theorem LK {l:List Value} {x:Value} (hx:x∈l):count x≤(l.map count).sum:=by
 induction l with
 | nil=>cases hx
 | cons a l ih=>
  rw[aP,dU];rcases aT.mp hx with rfl | hx
  ·omega
  ·have:=ih hx;omega
theorem HM {l:List (Name×Value)} {x:Name×Value} (hx:x∈l):count x.2≤(l.map fun x=>count x.2).sum:=by
 induction l with
 | nil=>cases hx
 | cons a l ih=>
  rw[aP,dU];rcases aT.mp hx with rfl | hx
  ·omega
  ·have:=ih hx;omega
theorem eB.ind {W:Nat} {P:Value→Prop} (ht:∀t,isText t=true→P (vText t)) (hn:∀z:Int,z.natAbs≤GREATEST→P (vNum z))
  (hr:∀l:List (Name×Value),l.length≤W→distinct (l.map fun x=>x.1)=true→(∀x∈l,isName x.1=true∧eB W x.2)→(∀x∈l,P x.2)→P (recordOf l))
  (hl:∀l:List Value,l.length≤W→(∀x∈l,eB W x)→(∀x∈l,P x)→P (listOf l)):∀{v:Value},eB W v→P v:=by
 have key:∀(n:Nat) (v:Value),count v≤n→eB W v→P v:=by
  intro n;induction n with
  | zero=>intro v h g;have:=EM g.1;omega
  | succ n ih=>
   intro v h g;rcases g.cases with⟨t,a,rfl⟩ | ⟨z,a,rfl⟩ | ⟨l,rfl,a,b,c⟩ | ⟨l,rfl,a,b⟩
   ·exact ht t a
   ·exact hn z a
   ·refine hr l a b c fun x hx=>ih _ ?_ (c x hx).2;rw[mL fun x hx=>(c x hx).2.1]at h;have:=HM hx;omega
   ·refine hl l a b fun x hx=>ih _ ?_ (b x hx);rw[lL fun x hx=>(b x hx).1]at h;have:=LK hx;omega
 exact fun {v} g=>key _ v (aR _) g
theorem dR:isValue v=true↔eB mH v∧count v≤MD∧deep v≤DEEP:=by
 unfold isValue;rw[DP];simp only[aE,beq_iff_eq,decide_eq_true_eq];constructor
 ·rintro⟨a,b,c⟩;exact⟨Kl a b,c⟩
 ·rintro⟨a,c⟩;exact⟨a.len,a.2,c⟩
theorem lN:iC v=true↔eB (2 * mH) v∧count v≤2 * MD∧deep v≤DEEP:=by
 unfold iC;rw[qQ];simp only[aE,beq_iff_eq,decide_eq_true_eq];constructor
 ·rintro⟨a,b,c⟩;exact⟨Kl a b,c⟩
 ·rintro⟨a,c⟩;exact⟨a.len,a.2,c⟩
theorem eB.mono {W W':Nat} (hW:W≤W') {v:Value} (h:eB W v):eB W' v:=by
 refine eB.ind (P:=eB W') (fun t h=>ET.mpr h) (fun z h=>JK.mpr h) (fun l a b c d=>?_) (fun l a b c=>?_) h
 ·exact(zO fun x hx=>(c x hx).2.1).mpr ⟨bI a hW,b,fun x hx=>⟨(c x hx).1,d x hx⟩⟩
 ·exact(rX fun x hx=>(b x hx).1).mpr ⟨bI a hW,c⟩
theorem Fk (l:List A) (i:Nat) (a:A) (h:i≤l.length):(l.take i++(a::l.drop i)).eraseIdx i=l:=by
 rw[KS (by rw[bJ];omega)];have e:i - (l.take i).length=0:=by rw[bJ];omega
 rw[e];show l.take i++l.drop i=l;exact gB i l
theorem Ep (h:l[i]?=some a):(l.eraseIdx i).take i++(a::(l.eraseIdx i).drop i)=l:=by
 obtain⟨hi,e⟩:=aS.mp h;rw[jI,List.take_append_of_le_length (by rw[bJ];omega),List.take_take,Gh];have e2:(l.take i++l.drop (i+1)).drop i=l.drop (i+1):=by
  rw[List.drop_append_of_le_length (by rw[bJ];omega)];have:(l.take i).drop i=[]:=by rw[Ji,bJ];omega
  rw[this];rfl
 rw[e2,←e,List.getElem_cons_drop,gB]
theorem iW:putAt l i a=some m↔i≤l.length∧m=l.take i++(a::l.drop i):=by
 unfold putAt;split
 ·rename_i h;simp[h,eq_comm]
 ·rename_i h;simp[h]
theorem iE [BEq A] [LawfulBEq A] (l:List A):distinct l=true↔l.Nodup:=by
 induction l with
 | nil=>simp[distinct]
 | cons a l ih=>simp[distinct,ih]
theorem WV {l:List (Name×Value)} (h:distinct (l.map fun x=>x.1)=true):∀x∈l,∀y∈l,x.1=y.1→x=y:=by
 rw[iE]at h;induction l with
 | nil=>intro x hx;cases hx
 | cons a l ih=>
  rw[aP,eL]at h;intro x hx y hy e;rcases aT.mp hx with hx1 | hx1<;>rcases aT.mp hy with hy1 | hy1
  ·rw[hx1,hy1]
  ·exact absurd (aX.mpr ⟨y,hy1,by rw[←e,hx1]⟩:a.1∈l.map fun x=>x.1) h.1
  ·exact absurd (aX.mpr ⟨x,hx1,by rw[e,hy1]⟩:a.1∈l.map fun x=>x.1) h.1
  ·exact ih h.2 x hx1 y hy1 e
theorem jN:hasField l n=true↔∃x∈l,x.1=n:=by simp[hasField]
theorem pD:hasField l n=false↔∀x∈l,x.1≠n:=by simp[hasField]
theorem BQ (h:valueAt n l=some v):(n,v)∈l:=by
 unfold valueAt at h;cases e:l.find? (fun x=>x.1 == n)with
 | none=>rw[e]at h;cases h
 | some x=>rw[e]at h;have h1:=XZ e;have h2:=List.find?_some e;simp only[beq_iff_eq]at h2;cases h;rw[←h2];exact h1
theorem DE:∀(p:Path) {v x:Value},eB W v→atPath p v=some x→eB W x
 | [],v,x,g,h=>by cases h;exact g
 | .field n::p,v,x,g,h=>by
  unfold atPath at h;split at h
  ·rename_i hr
   cases e:valueAt n (kidsOf v)with
   | none=>rw[e]at h;cases h
   | some y=>rw[e]at h;exact DE p (((g.kids hr).2.2 _ (BQ e)).2) h
  ·cases h
 | .item i::p,v,x,g,h=>by
  unfold atPath at h;split at h
  ·rename_i hr
   cases e:(itemsOf v)[i]? with
   | none=>rw[e]at h;cases h
   | some y=>rw[e]at h;exact DE p ((g.items hr).2 _ (bA e)) h
  ·cases h
theorem IY (hf:∀x y,f x=some y→mJ y):∀(p:Path) {v w:Value},changeAt f p v=some w→mJ w
 | [],v,w,h=>hf _ _ h
 | .field n::p,v,w,h=>by
  unfold changeAt at h;split at h
  ·simp only at h;split at h
   ·obtain⟨y,_,rfl⟩:=aO.mp h;exact pV _
   ·cases h
  ·cases h
 | .item i::p,v,w,h=>by
  unfold changeAt at h;split at h
  ·simp only at h;split at h
   ·obtain⟨y,_,rfl⟩:=aO.mp h;exact uC _
   ·cases h
  ·cases h
theorem ES {l:List (Name×Value)} {n:Name} {x:Name×Value} (h:l.find? (fun x=>x.1 == n)=some x):x∈l∧x.1=n:=by have h1:=XZ h;have h2:=List.find?_some h;simp only[beq_iff_eq]at h2;exact⟨h1,h2⟩
theorem ZA {l:List (Name×Value)} {n:Name} {x:Name×Value} {w:Value} (h:l.find? (fun x=>x.1 == n)=some x):
  (l.map fun y=>if y.1=n then (n,w)else y).find? (fun x=>x.1 == n)=some (n,w):=by
 induction l with
 | nil=>cases h
 | cons a l ih=>
  rw[aP,jG];by_cases e:a.1=n
  ·rw[if_pos e];simp
  ·rw[if_neg e];rw[jG]at h;have:(a.1 == n)=false:=by simpa using e
   rw[this]at h ⊢;exact ih h
theorem yP {W:Nat} {f g:Value→Option Value} (hf:∀x y,f x=some y→mJ y):∀(p:Path) {v w x:Value},eB W v→changeAt f p v=some w→atPath p v=some x→
  (∀y,f x=some y→g y=some x)→changeAt g p w=some v
 | [],v,w,x,_,h,e,hg=>by cases e;exact hg w h
 | .field n::p,v,w,x,gv,h,e,hg=>by
  unfold changeAt at h;unfold atPath at e;by_cases hr:isRecord v=true
  ·rw[if_pos hr]at h e;simp only at h;cases q:(kidsOf v).find? (fun x=>x.1 == n)with
   | none=>rw[q]at h;cases h
   | some x0=>
    rw[q]at h;simp only at h;obtain⟨w0,h0,rfl⟩:=aO.mp h;have e0:valueAt n (kidsOf v)=some x0.2:=by unfold valueAt;rw[q];rfl
    rw[e0]at e;obtain⟨m0,n0⟩:=ES q;have gk:=gv.kids hr;have ih:=yP hf p (gk.2.2 _ m0).2 h0 e hg;have o0:mJ w0:=IY hf p h0;have hk:kidsOf (recordOf ((kidsOf v).map fun y=>if y.1=n then (n,w0)else y))=(kidsOf v).map fun y=>if y.1=n then (n,w0)else y:=by
     refine oN fun y hy=>?_;obtain⟨z,hz,rfl⟩:=aX.mp hy;by_cases c:z.1=n
     ·rw[if_pos c];exact o0
     ·rw[if_neg c];exact mQ z hz
    unfold changeAt;rw[if_pos (show isRecord (recordOf _)=true from rfl)];simp only;rw[hk,ZA q];simp only;rw[ih];simp only[kF,lF]
    conv=>rhs;rw[←fU gv.1 hr]
    congr 1;rw[cP]
    conv=>rhs;rw[←nX (kidsOf v)]
    refine eO fun y hy=>?_;simp only[Bs,id];by_cases c:y.1=n
    ·rw[if_pos c,if_pos rfl];have:y=x0:=WV gk.2.1 y hy x0 m0 (c.trans n0.symm);rw[this,←n0]
    ·rw[if_neg c,if_neg c]
  ·rw[if_neg hr]at h;cases h
 | .item i::p,v,w,x,gv,h,e,hg=>by
  unfold changeAt at h;unfold atPath at e;by_cases hr:isList v=true
  ·rw[if_pos hr]at h e;simp only at h;cases q:(itemsOf v)[i]? with
   | none=>rw[q]at h;cases h
   | some x0=>
    rw[q]at h e;simp only at h;obtain⟨w0,h0,rfl⟩:=aO.mp h;have gk:=gv.items hr;have ih:=yP hf p (gk.2 _ (bA q)) h0 e hg;have o0:mJ w0:=IY hf p h0;obtain⟨hi,ei⟩:=aS.mp q;have hk:itemsOf (listOf ((itemsOf v).set i w0))=(itemsOf v).set i w0:=by
     refine lO fun y hy=>?_;rcases List.mem_or_eq_of_mem_set hy with c | c
     ·exact lJ y c
     ·rw[c];exact o0
    unfold changeAt;rw[if_pos (show isList (listOf _)=true from rfl)];simp only;rw[hk,oJ hi];simp only;rw[ih];simp only[kF,lF];rw[MB,←ei,List.set_getElem_self];exact iG gv.1 hr (gv.names hr)
  ·rw[if_neg hr]at h;cases h
theorem xQ:∀(p:Path) {v w:Value},changeAt f p v=some w→∃x y,atPath p v=some x∧f x=some y
 | [],v,w,h=>⟨v,w,rfl,h⟩
 | .field n::p,v,w,h=>by
  unfold changeAt at h;by_cases hr:isRecord v=true
  ·rw[if_pos hr]at h;simp only at h;cases q:(kidsOf v).find? (fun x=>x.1 == n)with
   | none=>rw[q]at h;cases h
   | some x0=>rw[q]at h;simp only at h;obtain⟨w0,h0,_⟩:=aO.mp h;obtain⟨x,y,h1,h2⟩:=xQ p h0;refine⟨x,y,?_,h2⟩;unfold atPath;rw[if_pos hr];unfold valueAt;rw[q];exact h1
  ·rw[if_neg hr]at h;cases h
 | .item i::p,v,w,h=>by
  unfold changeAt at h;by_cases hr:isList v=true
  ·rw[if_pos hr]at h;simp only at h;cases q:(itemsOf v)[i]? with
   | none=>rw[q]at h;cases h
   | some x0=>rw[q]at h;simp only at h;obtain⟨w0,h0,_⟩:=aO.mp h;obtain⟨x,y,h1,h2⟩:=xQ p h0;refine⟨x,y,?_,h2⟩;unfold atPath;rw[if_pos hr,q];exact h1
  ·rw[if_neg hr]at h;cases h
def tT (W:Nat):gE→Prop
 | .set _ v=>eB W v
 | .put _ _ v=>eB W v
 | .add _ _ n v=>isName n=true∧eB W v
 | .drop _ n=>isName n=true
 | .rename _ n m=>isName n=true∧isName m=true
 | _=>True
theorem eS:onList f v=some w↔isList v=true∧∃m,f (itemsOf v)=some m∧w=listOf m:=by
 unfold onList;split
 ·rename_i h
  rw[aO];exact⟨fun⟨m,a,b⟩=>⟨h,m,a,b.symm⟩,fun⟨_,m,a,b⟩=>⟨m,a,b.symm⟩⟩
 ·rename_i h;simp[h]
theorem dS:onRecord f v=some w↔isRecord v=true∧∃m,f (kidsOf v)=some m∧w=recordOf m:=by
 unfold onRecord;split
 ·rename_i h
  rw[aO];exact⟨fun⟨m,a,b⟩=>⟨h,m,a,b.symm⟩,fun⟨_,m,a,b⟩=>⟨m,a,b.symm⟩⟩
 ·rename_i h;simp[h]
theorem PY (h:doneAt (.put p i w) x=some y):onList (fun l=>putAt l i w) x=some y:=h
theorem LD (h:doneAt (.take p i) x=some y):onList (fun l=>takeAt l i) x=some y:=h
theorem LC (h:doneAt (.move p i j) x=some y):onList (fun l=>moveAt l i j) x=some y:=h
theorem PV (h:doneAt (.add p i n w) x=some y):onRecord (fun l=>if hasField l n=true then none else putAt l i (n,w)) x=some y:=h
theorem EQ (h:doneAt (.drop p n) x=some y):onRecord (fun l=>if hasField l n=true then some (l.filter fun x=>x.1 != n)else none) x=some y:=h
theorem DK (h:doneAt (.rename p n m) x=some y):onRecord (fun l=>if (hasField l n && (n == m || !hasField l m))=true then some (l.map fun x=>if x.1=n then (m,x.2)else x)else none) x=some y:=h
theorem Hj (hf:tT W e) (h:doneAt e x=some y):mJ y:=by
 cases e with
 | set p v=>cases h;exact hf.1
 | put p i v=>obtain⟨_,m,_,rfl⟩:=eS.mp (PY h);exact uC m
 | take p i=>obtain⟨_,m,_,rfl⟩:=eS.mp (LD h);exact uC m
 | move p i j=>obtain⟨_,m,_,rfl⟩:=eS.mp (LC h);exact uC m
 | add p i n v=>obtain⟨_,m,_,rfl⟩:=dS.mp (PV h);exact pV m
 | drop p n=>obtain⟨_,m,_,rfl⟩:=dS.mp (EQ h);exact pV m
 | rename p n m=>obtain⟨_,m,_,rfl⟩:=dS.mp (DK h);exact pV m
def YN (e:gE) (x:Value):Option gE:=match e with
 | .set p _=>some (.set p x)
 | .put p i _=>some (.take p i)
 | .take p i=>((itemsOf x)[i]?).map fun w=>.put p i w
 | .move p i j=>some (.move p j i)
 | .add p _ n _=>some (.drop p n)
 | .drop p n=>(valueAt n (kidsOf x)).map fun w=>.add p (placeOf (kidsOf x) n) n w
 | .rename p n m=>some (.rename p m n)
theorem yS (h:l.find? (fun x=>x.1 == n)=some x):
  ∃a b,l=a++x::b∧(∀y∈a,y.1≠n)∧placeOf l n=a.length:=by
 induction l with
 | nil=>cases h
 | cons c l ih=>
  rw[jG]at h;by_cases e:c.1=n
  ·have:(c.1 == n)=true:=by simpa using e
   rw[this]at h;cases h;refine⟨[],l,rfl,fun y hy=>(by cases hy),?_⟩;simp[placeOf,List.findIdx_cons,e]
  ·have:(c.1 == n)=false:=by simpa using e
   rw[this]at h;obtain⟨a,b,h1,h2,h3⟩:=ih h;refine⟨c::a,b,by rw[h1];rfl,fun y hy=>?_,?_⟩
   ·rcases aT.mp hy with rfl | hy
    ·exact e
    ·exact h2 y hy
   ·unfold placeOf at h3 ⊢;rw[List.findIdx_cons,this,aK,cond_false,h3]
theorem Mh {W:Nat} {e:gE} {x y:Value} (hf:tT W e) (gx:eB W x) (h:doneAt e x=some y):
  ∃b,YN e x=some b∧pathIn b=pathIn e∧tT W b∧doneAt b y=some x:=by
 cases e with
 | set p v=>exact⟨_,rfl,rfl,gx,rfl⟩
 | put p i v=>
  refine⟨_,rfl,rfl,trivial,?_⟩;obtain⟨hl,m,hm,rfl⟩:=eS.mp (PY h);obtain⟨hi,rfl⟩:=iW.mp hm;refine(eS (f:=fun l=>takeAt l i)).mpr ⟨rfl,itemsOf x,?_,(iG gx.1 hl (gx.names hl)).symm⟩;rw[lO]
  ·unfold takeAt;rw[if_pos (by simp only[aC,bJ,aK,cW];omega),Fk _ _ _ hi]
  ·intro z hz;rcases eE.mp hz with hz | hz
   ·exact lJ z (iS hz)
   ·rcases aT.mp hz with rfl | hz
    ·exact hf.1
    ·exact lJ z (fP hz)
 | take p i=>
  obtain⟨hl,m,hm,rfl⟩:=eS.mp (LD h);unfold takeAt at hm;split at hm
  ·rename_i hi
   cases hm;have ei:(itemsOf x)[i]?=some (itemsOf x)[i]:=bC hi;refine⟨.put p i (itemsOf x)[i],?_,rfl,?_,?_⟩
   ·show((itemsOf x)[i]?).map _=_;rw[ei];rfl
   ·exact(gx.items hl).2 _ (List.getElem_mem hi)
   ·refine(eS (f:=fun l=>putAt l i (itemsOf x)[i])).mpr ⟨rfl,itemsOf x,?_,(iG gx.1 hl (gx.names hl)).symm⟩;rw[lO fun z hz=>lJ z (jW hz)];exact iW.mpr ⟨by rw[qA hi];omega,(Ep ei).symm⟩
  ·cases hm
 | move p i j=>
  refine⟨_,rfl,rfl,trivial,?_⟩;obtain⟨hl,m,hm,rfl⟩:=eS.mp (LC h);unfold moveAt at hm;split at hm
  ·rename_i hj
   cases ei:(itemsOf x)[i]? with
   | none=>rw[ei]at hm;cases hm
   | some a=>
    rw[ei]at hm;obtain⟨hj',rfl⟩:=iW.mp hm;obtain⟨hi,ea⟩:=aS.mp ei;refine(eS (f:=fun l=>moveAt l j i)).mpr ⟨rfl,itemsOf x,?_,(iG gx.1 hl (gx.names hl)).symm⟩;have ho:∀z∈((itemsOf x).eraseIdx i).take j++(a::((itemsOf x).eraseIdx i).drop j),mJ z:=by
     intro z hz;rcases eE.mp hz with hz | hz
     ·exact lJ z (jW (iS hz))
     ·rcases aT.mp hz with rfl | hz
      ·exact lJ _ (bA ei)
      ·exact lJ z (jW (fP hz))
    rw[lO ho];unfold moveAt;have hlen:(((itemsOf x).eraseIdx i).take j++(a::((itemsOf x).eraseIdx i).drop j)).length=(itemsOf x).length:=by simp only[aC,bJ,aK,cW];have:=qA hi;omega
    rw[if_pos (by rw[hlen];exact hi)];have ej:(((itemsOf x).eraseIdx i).take j++(a::((itemsOf x).eraseIdx i).drop j))[j]?=some a:=by
     rw[gM (by rw[bJ];omega)];have:j - (((itemsOf x).eraseIdx i).take j).length=0:=by rw[bJ];omega
     rw[this];rfl
    rw[ej];show putAt _ i a=_;rw[Fk _ _ _ hj'];exact iW.mpr ⟨by rw[qA hi];omega,(Ep ei).symm⟩
  ·cases hm
 | add p i n v=>
  refine⟨_,rfl,rfl,hf.1,?_⟩;obtain⟨hl,m,hm,rfl⟩:=dS.mp (PV h);split at hm
  ·cases hm
  ·rename_i hn
   have hn:=pD.mp (hZ.mpr hn);obtain⟨hi,rfl⟩:=iW.mp hm;refine(dS (f:=fun l=>if hasField l n=true then some (l.filter fun x=>x.1 != n)else none)).mpr ⟨rfl,kidsOf x,?_,(fU gx.1 hl).symm⟩;rw[oN]
   ·rw[if_pos (jN.mpr ⟨(n,v),by simp,rfl⟩)];rw[KN,BS];have hno:∀l:List (Name×Value),(∀z∈l,z.1≠n)→l.filter (fun x=>x.1 != n)=l:=fun l h=>by rw[IC];intro z hz;simpa using h z hz
    rw[hno _ fun z hz=>hn z (iS hz),hno _ fun z hz=>hn z (fP hz)];simp[gB]
   ·intro z hz;rcases eE.mp hz with hz | hz
    ·exact mQ z (iS hz)
    ·rcases aT.mp hz with rfl | hz
     ·exact hf.2.1
     ·exact mQ z (fP hz)
 | drop p n=>
  obtain⟨hl,m,hm,rfl⟩:=dS.mp (EQ h);split at hm
  ·rename_i hn
   cases hm;obtain⟨x1,hx1,n1⟩:=jN.mp hn;cases q:(kidsOf x).find? (fun x=>x.1 == n)with
   | none=>have:=xM.mp q x1 hx1;simp[n1]at this
   | some x0=>
    obtain⟨m0,n0⟩:=ES q;have gk:=gx.kids hl;refine⟨.add p (placeOf (kidsOf x) n) n x0.2,?_,rfl,⟨by rw[←n0];exact(gk.2.2 _ m0).1,(gk.2.2 _ m0).2⟩,?_⟩
    ·show(valueAt n (kidsOf x)).map _=_;unfold valueAt;rw[q];rfl
    ·refine(dS (f:=fun l=>if hasField l n=true then none else putAt l (placeOf (kidsOf x) n) (n,x0.2))).mpr ⟨rfl,kidsOf x,?_,(fU gx.1 hl).symm⟩;rw[oN fun z hz=>mQ z (kJ.mp hz).1];rw[if_neg (by intro c;obtain⟨z,hz,zn⟩:=jN.mp c;have:=(kJ.mp hz).2;simp[zn]at this)];obtain⟨a,b,h1,h2,h3⟩:=yS q;have hb:∀y∈b,y.1≠n:=by have hd:=gk.2.1;rw[iE,h1,aW,aP,oW]at hd;intro y hy c;have:=(eL.mp hd.2.1).1;exact this (aX.mpr ⟨y,hy,by rw[c,n0]⟩)
     have hno:∀l:List (Name×Value),(∀z∈l,z.1≠n)→l.filter (fun x=>x.1 != n)=l:=fun l h=>by rw[IC];intro z hz;simpa using h z hz
     have ef:(kidsOf x).filter (fun x=>x.1 != n)=a++b:=by rw[h1,KN,BS,hno a h2,hno b hb];simp[n0]
     rw[ef,h3];refine iW.mpr ⟨by rw[aC];omega,?_⟩;rw[FR,pZ,h1,←n0]
  ·cases hm
 | rename p n m=>
  refine⟨_,rfl,rfl,⟨hf.2,hf.1⟩,?_⟩;obtain⟨hl,k,hk,rfl⟩:=dS.mp (DK h);split at hk
  ·rename_i hc
   cases hk;rw[aE,gN,beq_iff_eq,fF]at hc;obtain⟨hn,hm⟩:=hc;obtain⟨x1,hx1,n1⟩:=jN.mp hn;refine(dS (v:=recordOf _) (f:=fun l=>if (hasField l m && (m == n || !hasField l n))=true then some (l.map fun x=>if x.1=m then (n,x.2)else x)else none)).mpr ⟨rfl,kidsOf x,?_,(fU gx.1 hl).symm⟩;rw[oN fun z hz=>by
    obtain⟨y,hy,rfl⟩:=aX.mp hz;by_cases c:y.1=n
    ·rw[if_pos c];exact mQ y hy
    ·rw[if_neg c];exact mQ y hy]
   have h1:hasField ((kidsOf x).map fun x=>if x.1=n then (m,x.2)else x) m=true:=jN.mpr ⟨(m,x1.2),aX.mpr ⟨x1,hx1,by rw[if_pos n1]⟩,rfl⟩;have h2:(m == n || !hasField ((kidsOf x).map fun x=>if x.1=n then (m,x.2)else x) n)=true:=by
    by_cases c:n=m
    ·simp[c]
    ·rw[gN,fF];refine .inr (pD.mpr fun z hz=>?_);obtain⟨y,hy,rfl⟩:=aX.mp hz;by_cases cc:y.1=n
     ·rw[if_pos cc];exact fun q=>c q.symm
     ·rw[if_neg cc];exact cc
   rw[h1,h2];simp only[Bool.and_self,if_true,lF];rw[cP]
   conv=>rhs;rw[←nX (kidsOf x)]
   refine eO fun y hy=>?_;simp only[Bs,id];by_cases c:y.1=n
   ·rw[if_pos c,if_pos rfl,←c]
   ·rw[if_neg c];rcases hm with hm | hm
    ·rw[if_neg (by rw[←hm];exact c)]
    ·rw[if_neg (pD.mp hm y hy)]
  ·cases hk
theorem LX (e:gE) (v:Value):turned e v=(dO e v).bind fun _=>(atPath (pathIn e) v).bind (YN e):=by unfold turned YN;rfl
theorem nN:dO e v=some w↔changeAt (doneAt e) (pathIn e) v=some w∧iC w=true:=by
 unfold dO;cases changeAt (doneAt e) (pathIn e) v with
 | none=>simp
 | some u=>
  simp only[jJ];split
  ·rename_i h
   simp only[lF];constructor
   ·rintro rfl;exact⟨rfl,h⟩
   ·exact fun h=>h.1
  ·rename_i h
   simp only[lF];constructor
   ·rintro⟨⟩
   ·rintro⟨rfl,h'⟩;exact absurd h' h
theorem XS (hf:tT (2 * mH) e) (hv:iC v=true) (h:dO e v=some w):
  ∃b,turned e v=some b∧tT (2 * mH) b∧dO b w=some v:=by
 have gv:=(lN.mp hv).1;have hc:=(nN.mp h).1;obtain⟨x,y,hx,hy⟩:=xQ _ hc;obtain⟨b,hb,hp,fb,db⟩:=Mh hf (DE _ gv hx) hy;refine⟨b,?_,fb,nN.mpr ⟨?_,hv⟩⟩
 ·rw[LX,h,hx];exact hb
 ·rw[hp];refine yP (fun _ _ q=>Hj hf q) _ gv hc hx fun z hz=>?_;rw[hy]at hz;cases hz;exact db
def runs:List gE→Value→Option Value
 | [],v=>some v
 | e::r,v=>(dO e v).bind (runs r)
theorem AL:∀(es:List gE) (k:Nat) (v w:Value),applyFrom k es v=.ok w↔runs es v=some w
 | [],k,v,w=>by simp[applyFrom,runs]
 | e::r,k,v,w=>by
  unfold applyFrom runs;cases dO e v with
  | none=>simp
  | some u=>exact AL r (k+1) u w
theorem nU:rowOn es v=some x↔runs es v=some x.1∧isValue x.1=true∧x.2=turnedAll es v:=by
 unfold rowOn applyAll;cases h:applyFrom 0 es v with
 | error k=>simp only[reduceCtorEq,false_iff];rintro⟨q,_⟩;rw[←AL es 0 v]at q;rw[h]at q;cases q
 | ok w=>
  have e:=(AL es 0 v w).mp h;rw[e];simp only[lF];obtain⟨x1,x2⟩:=x;split
  ·rename_i hw
   simp only[lF,FS];constructor
   ·rintro⟨rfl,rfl⟩;exact⟨rfl,hw,rfl⟩
   ·rintro⟨rfl,_,rfl⟩;exact⟨rfl,rfl⟩
  ·rename_i hw
   simp only[reduceCtorEq,false_iff];rintro⟨rfl,q,_⟩;exact hw q
theorem MZ:∀(a b:List gE) (v:Value),runs (a++b) v=(runs a v).bind (runs b)
 | [],b,v=>rfl
 | e::a,b,v=>by
  show(dO e v).bind (runs (a++b))=((dO e v).bind (runs a)).bind (runs b);cases dO e v with
  | none=>rfl
  | some u=>exact MZ a b u
theorem gR (h:isValue v=true):iC v=true:=by
 obtain⟨a,b,c⟩:=dR.mp h;have q:MD≤2 * MD:=by decide
 exact lN.mpr ⟨a.mono (by decide),bI b q,c⟩
theorem KI:∀{es:List gE} {v w:Value},(∀e∈es,tT (2 * mH) e)→iC v=true→runs es v=some w→
  runs (turnedAll es v) w=some v∧(∀b∈turnedAll es v,tT (2 * mH) b)
 | [],v,w,_,_,h=>by cases h;exact⟨rfl,fun b hb=>by cases hb⟩
 | e::r,v,w,hf,hv,h=>by
  unfold runs at h;cases q:dO e v with
  | none=>rw[q]at h;cases h
  | some u=>
   rw[q]at h;have h:runs r u=some w:=h;obtain⟨b,hb,fb,ab⟩:=XS (hf e aM) hv q;obtain⟨i1,i2⟩:=KI (fun e he=>hf e (aL _ he)) (nN.mp q).2 h;unfold turnedAll;rw[hb,q];simp only;refine⟨?_,fun c hc=>?_⟩
   ·rw[MZ,i1];show(dO b u).bind (runs [])=_;rw[ab];rfl
   ·rcases eE.mp hc with hc | hc
    ·exact i2 c hc
    ·rw[bU]at hc;rw[hc];exact fb
theorem Im (hf:∀e∈es,tT (2 * mH) e) (hv:isValue v=true) (h:rowOn es v=some x):
  rowOn x.2 x.1=some (v,turnedAll x.2 x.1)∧∀b∈x.2,tT (2 * mH) b:=by
 obtain⟨h1,h2,h3⟩:=nU.mp h;obtain⟨i1,i2⟩:=KI hf (gR hv) h1;rw[h3];exact⟨nU.mpr ⟨i1,hv,rfl⟩,i2⟩
inductive sQ:Value→List (List gE)→List Value→Prop where
 | nil (v:Value):sQ v [] []
 | cons {v u:Value} {es b:List gE} {ls:List (List gE)} {vs:List Value}:rowOn es v=some (u,b)→(∀e∈es,tT (2 * mH) e)→isValue u=true→sQ u ls vs→sQ v (es::ls) (u::vs)
theorem sQ.length (h:sQ v ls vs):ls.length=vs.length:=by
 induction h with
 | nil=>rfl
 | cons _ _ _ _ ih=>simp[ih]
theorem sQ.deed (hv:isValue v=true) (hf:∀e∈es,tT (2 * mH) e) (h:rowOn es v=some x) (c:sQ v ls vs):
  sQ x.1 (x.2::ls) (v::vs):=by
 obtain⟨i1,i2⟩:=Im hf hv h;exact .cons i1 i2 hv c
theorem JB (s:Step) (e:gE):doneAt (gU s e)=doneAt e:=by cases e<;>rfl
theorem tF (s:Step) (e:gE):pathIn (gU s e)=s::pathIn e:=by cases e<;>rfl
theorem QE (h:tT W e):tT W (gU s e):=by cases e<;>exact h
inductive rG (C D:Nat):List gE→Value→Value→Prop where
 | nil (x:Value):rG C D [] x x
 | cons {e:gE} {es:List gE} {x y z:Value}:tT (2 * mH) e→changeAt (doneAt e) (pathIn e) x=some y→eB (2 * mH) y→count y≤C→deep y≤D→rG C D es y z→rG C D (e::es) x z
theorem rG.append (h:rG C D a x y) (k:rG C D b y z):rG C D (a++b) x z:=by
 induction h with
 | nil=>exact k
 | cons f e g c d _ ih=>exact .cons f e g c d (ih k)
theorem rG.fine (h:rG C D a x y):∀e∈a,tT (2 * mH) e:=by
 induction h with
 | nil=>intro e he;cases he
 | cons f _ _ _ _ _ ih=>
  intro e he;rcases aT.mp he with rfl | he
  ·exact f
  ·exact ih e he
theorem rG.runs (hC:C≤2 * MD) (hD:D≤DEEP) (h:rG C D a x y):runs a x=some y:=by
 induction h with
 | nil=>rfl
 | cons f e g c d _ ih=>show(dO _ _).bind _=_;rw[nN.mpr ⟨e,lN.mpr ⟨g,bI c hC,bI d hD⟩⟩];exact ih
theorem sum_append (a b:List Nat):(a++b).sum=a.sum+b.sum:=by
 induction a with
 | nil=>simp
 | cons x a ih=>simp[ih,Bu]
def wR (l:List Value):Nat:=(l.map count).sum
def xJ (l:List Value):Nat:=pS (l.map deep)
theorem uX (a b:List Value):wR (a++b)=wR a+wR b:=by unfold wR;rw[aW,sum_append]
theorem rV (x:Value) (b:List Value):wR (x::b)=count x+wR b:=by unfold wR;rw[aP,dU]
theorem uV (a b:List Value):xJ (a++b)=max (xJ a) (xJ b):=by unfold xJ;rw[aW,MN]
theorem rT (x:Value) (b:List Value):xJ (x::b)=max (deep x) (xJ b):=rfl
theorem oM {W:Nat} {l:List Value} (h:∀x∈l,eB W x):∀x∈l,mJ x:=fun x hx=>(h x hx).1
theorem EV (ha:∀x∈a,eB W x) (hx:eB W x) (hb:∀x∈b,eB W x):∀y∈a++x::b,eB W y:=by
 intro y hy;rcases eE.mp hy with h | h
 ·exact ha y h
 ·rcases aT.mp h with rfl | h
  ·exact hx
  ·exact hb y h
theorem zP {W:Nat} {a b:List Value} (ha:∀x∈a,eB W x) (hb:∀x∈b,eB W x):∀y∈a++b,eB W y:=by
 intro y hy;rcases eE.mp hy with h | h
 ·exact ha y h
 ·exact hb y h
theorem Ve (a b:List A) (x y:A):(a++x::b).set a.length y=a++y::b:=by rw[Gf _ _ (aR _),mG];rfl
theorem Ts (a b:List A) (x:A):(a++x::b)[a.length]?=some x:=by rw[gM (aR _),mG];rfl
theorem rG.item {C D:Nat} {es:List gE} {x y:Value} (h:rG C D es x y) {a b:List Value} (ha:∀x∈a,eB (2 * mH) x) (hb:∀x∈b,eB (2 * mH) x) (gx:eB (2 * mH) x)
  (hl:a.length+1+b.length≤2 * mH) {C' D':Nat} (hC:1+wR a+C+wR b≤C') (hD:max (xJ a) (max D (xJ b))+1≤D'):
  rG C' D' (es.map (gU (.item a.length))) (listOf (a++x::b)) (listOf (a++y::b)):=by
 induction h with
 | nil=>exact .nil _
 | @cons e es x y z f e1 g c d _ ih=>
  have o1:=oM (EV ha gx hb);have o2:=oM (EV ha g hb);refine .cons (y:=listOf (a++y::b)) (QE f) ?_ ((rX o2).mpr ⟨by simp only[aC,aK];omega,EV ha g hb⟩) ?_ ?_ (ih g)
  ·rw[JB,tF];unfold changeAt;rw[if_pos (show isList (listOf _)=true from rfl)];simp only;rw[lO o1,Ts];simp only;rw[e1];simp only[kF,Ve]
  ·rw[lL o2];show 1+wR (a++y::b)≤C';rw[uX,rV];omega
  ·rw[lM o2];show xJ (a++y::b)+1≤D';rw[uV,rT];omega
def CI (l:List (Name×Value)):Nat:=(l.map fun x=>count x.2).sum
def DU (l:List (Name×Value)):Nat:=pS (l.map fun x=>deep x.2)
theorem MU (a b:List (Name×Value)):CI (a++b)=CI a+CI b:=by unfold CI;rw[aW,sum_append]
theorem FF (x:Name×Value) (b:List (Name×Value)):CI (x::b)=count x.2+CI b:=by unfold CI;rw[aP,dU]
theorem MT (a b:List (Name×Value)):DU (a++b)=max (DU a) (DU b):=by unfold DU;rw[aW,MN]
theorem FD (x:Name×Value) (b:List (Name×Value)):DU (x::b)=max (deep x.2) (DU b):=rfl
def pA (W:Nat) (l:List (Name×Value)):Prop:=∀x∈l,isName x.1=true∧eB W x.2
theorem pA.one (h:pA W l):∀x∈l,mJ x.2:=fun x hx=>(h x hx).2.1
theorem pA.mid (ha:pA W a) (hn:isName n=true) (hx:eB W x) (hb:pA W b):pA W (a++(n,x)::b):=by
 intro y hy;rcases eE.mp hy with h | h
 ·exact ha y h
 ·rcases aT.mp h with rfl | h
  ·exact⟨hn,hx⟩
  ·exact hb y h
theorem Qq {a b:List (Name×Value)} {n:Name} {x:Value} (ha:∀y∈a,y.1≠n):(a++(n,x)::b).find? (fun x=>x.1 == n)=some (n,x):=by
 induction a with
 | nil=>simp
 | cons c a ih=>
  rw[iR,jG];have:(c.1 == n)=false:=by simpa using ha c aM
  rw[this];exact ih fun y hy=>ha y (aL _ hy)
theorem Uf {a b:List (Name×Value)} {n:Name} {x w:Value} (ha:∀y∈a,y.1≠n) (hb:∀y∈b,y.1≠n):((a++(n,x)::b).map fun y=>if y.1=n then (n,w)else y)=a++(n,w)::b:=by
 have e:∀l:List (Name×Value),(∀y∈l,y.1≠n)→(l.map fun y=>if y.1=n then (n,w)else y)=l:=fun l h=>by
  conv=>rhs;rw[←nX l]
  exact eO fun y hy=>by rw[if_neg (h y hy)];rfl
 rw[aW,aP,e a ha,e b hb,if_pos rfl]
theorem Nk {a b:List (Name×Value)} {n:Name} {x:Value} (h:distinct ((a++(n,x)::b).map fun x=>x.1)=true):(∀y∈a,y.1≠n)∧(∀y∈b,y.1≠n):=by
 rw[iE,aW,aP,oW]at h;refine⟨fun y hy c=>?_,fun y hy c=>?_⟩
 ·exact h.2.2 y.1 (aX.mpr ⟨y,hy,rfl⟩) n aM c
 ·exact(eL.mp h.2.1).1 (aX.mpr ⟨y,hy,c⟩)
theorem WT {a b:List (Name×Value)} {n:Name} (x y:Value):((a++(n,x)::b).map fun x=>x.1)=((a++(n,y)::b).map fun x=>x.1):=by simp only[aW,aP]
theorem rG.field {C D:Nat} {es:List gE} {x y:Value} (h:rG C D es x y) {a b:List (Name×Value)} {n:Name} (ha:pA (2 * mH) a) (hb:pA (2 * mH) b) (hn:isName n=true) (gx:eB (2 * mH) x)
  (hd:distinct ((a++(n,x)::b).map fun x=>x.1)=true) (hl:a.length+1+b.length≤2 * mH) {C' D':Nat} (hC:1+CI a+C+CI b≤C') (hD:max (DU a) (max D (DU b))+1≤D'):
  rG C' D' (es.map (gU (.field n))) (recordOf (a++(n,x)::b)) (recordOf (a++(n,y)::b)):=by
 induction h with
 | nil=>exact .nil _
 | @cons e es x y z f e1 g c d _ ih=>
  have o1:=(pA.mid ha hn gx hb).one;have f2:=pA.mid ha hn g hb;have hd2:=hd;rw[WT x y]at hd2;obtain⟨na,nb⟩:=Nk hd;refine .cons (y:=recordOf (a++(n,y)::b)) (QE f) ?_ ((zO f2.one).mpr ⟨by simp only[aC,aK];omega,hd2,f2⟩) ?_ ?_ (ih g hd2)
  ·rw[JB,tF];unfold changeAt;rw[if_pos (show isRecord (recordOf _)=true from rfl)];simp only;rw[oN o1,Qq na];simp only;rw[e1];simp only[kF,Uf na nb]
  ·rw[mL f2.one];show 1+CI (a++(n,y)::b)≤C';rw[MU,FF];simp only;omega
  ·rw[lY f2.one];show DU (a++(n,y)::b)+1≤D';rw[MT,FD];simp only;omega
inductive DC:List Move→List Value→List Value→Prop where
 | nil:DC [] [] []
 | keep {es:List gE} {m:List Move} {x y:Value} {a b:List Value}:rG (count x+count y) (max (deep x) (deep y)) es x y→DC m a b→DC (.keep es::m) (x::a) (y::b)
 | take {m:List Move} {x:Value} {a b:List Value}:DC m a b→DC (.take::m) (x::a) b
 | put {m:List Move} {y:Value} {a b:List Value}:DC m a b→DC (.put y::m) a (y::b)
theorem tU (a b:List A) (x:A):a++x::b=(a++[x])++b:=by simp
theorem Ov {m:List Move} {a b:List Value} (h:DC m a b):∀{pre:List Value} {C D:Nat},(∀x∈pre,eB (2 * mH) x)→(∀x∈a,eB (2 * mH) x)→(∀x∈b,eB (2 * mH) x)→
  pre.length+a.length+b.length≤2 * mH→1+wR pre+wR a+wR b≤C→max (xJ pre) (max (xJ a) (xJ b))+1≤D→
  rG C D (rE pre.length m) (listOf (pre++a)) (listOf (pre++b)):=by
 induction h with
 | nil=>intro pre C D _ _ _ _ _ _;exact .nil _
 | @keep es m x y a b w v ih=>
  intro pre C D gp ga gb hl hC hD;rw[rV,rV]at hC;rw[rT,rT]at hD;simp only[aK]at hl;have gx:=ga x aM;have gy:=gb y aM;have ga':∀x∈a,eB (2 * mH) x:=fun z hz=>ga z (aL _ hz);have gb':∀x∈b,eB (2 * mH) x:=fun z hz=>gb z (aL _ hz);show rG C D (es.map (gU (.item pre.length))++rE (pre.length+1) m) _ _;refine(w.item gp ga' gx (by omega) (by omega) (by omega)).append ?_;rw[tU pre a y,tU pre b y];have e:pre.length+1=(pre++[y]).length:=by simp
  rw[e];refine ih (zP gp fun z hz=>by rw[bU]at hz;rw[hz];exact gy) ga' gb' (by simp only[aC,aK,gO];omega) ?_ ?_
  ·rw[uX,rV];show 1+(wR pre+(count y+0))+wR a+wR b≤C;omega
  ·rw[uV,rT];show max (max (xJ pre) (max (deep y) 0)) (max (xJ a) (xJ b))+1≤D;omega
 | @take m x a b v ih=>
  intro pre C D gp ga gb hl hC hD;rw[rV]at hC;rw[rT]at hD;simp only[aK]at hl;have ga':∀x∈a,eB (2 * mH) x:=fun z hz=>ga z (aL _ hz);have gpa:=zP gp ga';show rG C D (.take [] pre.length::rE pre.length m) _ _;refine .cons (y:=listOf (pre++a)) trivial ?_ ((rX (oM gpa)).mpr ⟨by rw[aC];omega,gpa⟩) ?_ ?_ (ih gp ga' gb (by omega) (by omega) (by omega))
  ·show Vatwvc.onList (fun l=>Vatwvc.takeAt l pre.length) (listOf (pre++x::a))=some (listOf (pre++a));refine eS.mpr ⟨rfl,_,?_,rfl⟩;rw[lO (oM (zP gp ga))];unfold Vatwvc.takeAt;rw[if_pos (by simp only[aC,aK];omega),KS (aR _),mG];rfl
  ·rw[lL (oM gpa)];show 1+wR (pre++a)≤C;rw[uX];omega
  ·rw[lM (oM gpa)];show xJ (pre++a)+1≤D;rw[uV];omega
 | @put m y a b v ih=>
  intro pre C D gp ga gb hl hC hD;rw[rV]at hC;rw[rT]at hD;simp only[aK]at hl;have gy:=gb y aM;have gb':∀x∈b,eB (2 * mH) x:=fun z hz=>gb z (aL _ hz);have gpa:=EV gp gy ga;show rG C D (.put [] pre.length y::rE (pre.length+1) m) _ _;refine .cons (y:=listOf (pre++y::a)) gy ?_ ((rX (oM gpa)).mpr ⟨by simp only[aC,aK];omega,gpa⟩) ?_ ?_ ?_
  ·show Vatwvc.onList (fun l=>Vatwvc.putAt l pre.length y) (listOf (pre++a))=some (listOf (pre++y::a));refine eS.mpr ⟨rfl,_,?_,rfl⟩;rw[lO (oM (zP gp ga))];refine iW.mpr ⟨by rw[aC];omega,?_⟩;rw[FR,pZ]
  ·rw[lL (oM gpa)];show 1+wR (pre++y::a)≤C;rw[uX,rV];omega
  ·rw[lM (oM gpa)];show xJ (pre++y::a)+1≤D;rw[uV,rT];omega
  ·rw[tU pre a y,tU pre b y];have e:pre.length+1=(pre++[y]).length:=by simp
   rw[e];refine ih (zP gp fun z hz=>by rw[bU]at hz;rw[hz];exact gy) ga gb' (by simp only[aC,aK,gO];omega) ?_ ?_
   ·rw[uX,rV];show 1+(wR pre+(count y+0))+wR a+wR b≤C;omega
   ·rw[uV,rT];show max (max (xJ pre) (max (deep y) 0)) (max (xJ a) (xJ b))+1≤D;omega
inductive Rows (a:List Value):List Value→List Plan→Prop where
 | nil {p:Plan}:DC p.moves a []→Rows a [] [p]
 | cons {p:Plan} {y:Value} {b:List Value} {ps:List Plan}:DC p.moves a (y::b)→Rows a b ps→Rows a (y::b) (p::ps)
theorem Rows.head (h:Rows a b ps):∃p r,ps=p::r∧DC p.moves a b:=by
 cases h with
 | nil v=>exact⟨_,_,rfl,v⟩
 | cons v _=>exact⟨_,_,rfl,v⟩
theorem QX:∀b:List Value,Rows [] b (UE b)
 | []=>.nil .nil
 | w::r=>by have ih:=QX r;obtain⟨p,t,e,v⟩:=ih.head;show Rows [] (w::r) (UF (1+count w) (.put w) ((UE r).headD ⟨0,[]⟩)::UE r);refine .cons ?_ ih;rw[e];exact .put v
theorem IX (a b:Plan):GY a b=a∨GY a b=b:=by unfold GY;split<;>simp
theorem RD:∀{b:List Value} {ps:List Plan},(∀y∈b,rG (count x+count y) (max (deep x) (deep y)) (g y).edits x y)→Rows a b ps→Rows (x::a) b (sG (b.map g) b ps)
 | [],_,_,.nil v=>by show Rows (x::a) [] [UF 1 .take _];exact .nil (.take v)
 | y::b,_,hw,.cons (p:=p) (ps:=ps) v t=>by
  have ih:=RD (fun z hz=>hw z (aL _ hz)) t;obtain⟨q,r,e,vq⟩:=ih.head;obtain⟨q',r',e',vq'⟩:=t.head;show Rows (x::a) (y::b) (GY (GY (UF (g y).cost (.keep (g y).edits) (ps.headD ⟨0,[]⟩)) (UF 1 .take p)) (UF (1+count y) (.put y) ((sG (b.map g) b ps).headD ⟨0,[]⟩))::sG (b.map g) b ps);refine .cons ?_ ih;rcases IX (GY (UF (g y).cost (.keep (g y).edits) (ps.headD ⟨0,[]⟩)) (UF 1 .take p)) (UF (1+count y) (.put y) ((sG (b.map g) b ps).headD ⟨0,[]⟩))with h | h
  ·rw[h];rcases IX (UF (g y).cost (.keep (g y).edits) (ps.headD ⟨0,[]⟩)) (UF 1 .take p)with h | h
   ·rw[h,e'];exact .keep (hw y aM) vq'
   ·rw[h];exact .take v
  ·rw[h,e];exact .put vq
theorem Le {g:Value→Value→iN} {b:List Value}:∀{a:List Value},(∀x∈a,∀y∈b,rG (count x+count y) (max (deep x) (deep y)) (g x y).edits x y)→
  Rows a b (a.foldr (fun x row=>sG (b.map (g x)) b row) (UE b))
 | [],_=>QX b
 | x::a,h=>RD (h x aM) (Le fun z hz=>h z (aL _ hz))
def tV (g:Value→Value→iN) (l:List ((Name×Value)×(Name×Value))):List gE:=l.flatMap fun z=>(g z.1.2 z.2.2).edits.map (gU (.field z.1.1))
theorem JG (g:Value→Value→iN):∀(l:List ((Name×Value)×(Name×Value))) (d:iN),
  l.foldl (fun d z=>(let x:=g z.1.2 z.2.2;andThen d ⟨x.cost,x.edits.map (gU (.field z.1.1))⟩)) d=⟨d.cost+(l.map fun z=>(g z.1.2 z.2.2).cost).sum,d.edits++tV g l⟩
 | [],d=>by simp[tV]
 | z::l,d=>by rw[lW,JG g l];simp[andThen,tV,Bu]
theorem NA {g:Value→Value→iN}:∀(a b:List (Name×Value)) {pre:List (Name×Value)} {C D:Nat},a.map (fun x=>x.1)=b.map (fun x=>x.1)→pA (2 * mH) pre→pA (2 * mH) a→pA (2 * mH) b→
  distinct ((pre++a).map fun x=>x.1)=true→pre.length+a.length≤2 * mH→1+CI pre+CI a+CI b≤C→max (DU pre) (max (DU a) (DU b))+1≤D→
  (∀z∈a.zip b,rG (count z.1.2+count z.2.2) (max (deep z.1.2) (deep z.2.2)) (g z.1.2 z.2.2).edits z.1.2 z.2.2)→
  rG C D (tV g (a.zip b)) (recordOf (pre++a)) (recordOf (pre++b))
 | [],[],pre,C,D,_,_,_,_,_,_,_,_,_=>.nil _
 | [],_::_,_,_,_,h,_,_,_,_,_,_,_,_=>by cases h
 | _::_,[],_,_,_,h,_,_,_,_,_,_,_,_=>by cases h
 | (n,x)::a,(m,y)::b,pre,C,D,h,fp,fa,fb,hd,hl,hC,hD,hw=>by
  simp only[aP,dE]at h;obtain⟨rfl,h⟩:=h;rw[FF,FF]at hC;rw[FD,FD]at hD;simp only[aK]at hl;simp only at hC hD;obtain⟨hn,gx⟩:=fa _ aM;obtain⟨_,gy⟩:=fb _ aM;have fa':pA (2 * mH) a:=fun z hz=>fa z (aL _ hz);have fb':pA (2 * mH) b:=fun z hz=>fb z (aL _ hz);have w:=hw ((n,x),(n,y)) (by rw[KQ];exact aM);have e:tV g (((n,x)::a).zip ((n,y)::b))=(g x y).edits.map (gU (.field n))++tV g (a.zip b):=by rw[KQ];unfold tV;rw[dX]
  rw[e];refine(w.field fp fa' hn gx hd (by omega) (by simp only;omega) (by simp only;omega)).append ?_;simp only;rw[tU pre a (n,y),tU pre b (n,y)];refine NA a b h (fun z hz=>?_) fa' fb' ?_ (by simp only[aC,aK,gO];omega) ?_ ?_ (fun z hz=>hw z (by rw[KQ];exact aL _ hz))
  ·  rcases eE.mp hz with hz | hz
     ·exact fp z hz
     ·rw[bU]at hz;rw[hz];exact⟨hn,gy⟩
  ·  rw[←tU,←WT x y];exact hd
  ·  rw[MU,FF];show 1+(CI pre+(count y+0))+CI a+CI b≤C;omega
  ·  rw[MT,FD];show max (max (DU pre) (max (deep y) 0)) (max (DU a) (DU b))+1≤D;omega
theorem Mw:∀(f:Nat) {v w:Value},eB mH v→eB mH w→rG (count v+count w) (max (deep v) (deep w)) (rD f v w).edits v w:=by
 have hset:∀{v w:Value},eB mH w→rG (count v+count w) (max (deep v) (deep w)) [.set [] w] v w:=fun {v w} gw=>.cons (gw.mono (by decide)) rfl (gw.mono (by decide)) (by omega) (by omega) (.nil _);have hch:∀{v w:Value} {a b:iN} {C D:Nat},rG C D a.edits v w→rG C D b.edits v w→rG C D (cheaper a b).edits v w:=fun {v w a b C D} ha hb=>by
  unfold cheaper;split
  ·exact hb
  ·exact ha
 intro f;induction f with
 | zero=>
  intro v w gv gw;unfold rD;split
  ·rename_i h;rw[h];exact .nil _
  ·exact hset gw
 | succ f ih=>
  intro v w gv gw;unfold rD;simp only;split
  ·rename_i h;rw[h];exact .nil _
  ·split
   ·rename_i hr
    split
    ·rename_i hn
     refine hch ?_ (hset gw);rw[JG (fun x y=>rD f x y)];simp only[iI];have ka:=gv.kids hr.1;have kb:=gw.kids hr.2;have fa:pA mH (kidsOf v):=ka.2.2;have fb:pA mH (kidsOf w):=kb.2.2;have cv:count v=1+CI (kidsOf v):=by
      conv=>lhs;rw[←fU gv.1 hr.1]
      exact mL fa.one
     have cw:count w=1+CI (kidsOf w):=by
      conv=>lhs;rw[←fU gw.1 hr.2]
      exact mL fb.one
     have dv:deep v=DU (kidsOf v)+1:=by
      conv=>lhs;rw[←fU gv.1 hr.1]
      exact lY fa.one
     have dw:deep w=DU (kidsOf w)+1:=by
      conv=>lhs;rw[←fU gw.1 hr.2]
      exact lY fb.one
     have:=NA (g:=fun x y=>rD f x y) (kidsOf v) (kidsOf w) (pre:=[]) (C:=count v+count w) (D:=max (deep v) (deep w)) hn (fun z hz=>by cases hz)
      (fun z hz=>⟨(fa z hz).1,(fa z hz).2.mono (by decide)⟩) (fun z hz=>⟨(fb z hz).1,(fb z hz).2.mono (by decide)⟩) ka.2.1
      (by have:=ka.1;simp only[gO];unfold mH at *;omega) (by rw[cv,cw];show 1+0+_+_≤_;omega) (by rw[dv,dw];show max 0 _+1≤_;omega)
      (fun z hz=>by have m:=oU hz;exact ih (fa _ m.1).2 (fb _ m.2).2)
     simp only[iI]at this;rw[fU gv.1 hr.1,fU gw.1 hr.2]at this;exact this
    ·exact hset gw
   ·split
    ·rename_i hr
     refine hch ?_ (hset gw);have ka:=gv.items hr.1;have kb:=gw.items hr.2;obtain⟨p,r,e,vp⟩:=(Le (g:=fun x y=>rD f x y) (b:=itemsOf w) (a:=itemsOf v) fun x hx y hy=>ih (ka.2 x hx) (kb.2 y hy)).head;have e':(List.foldr (fun x row=>sG (List.map (rD f x) (itemsOf w)) (itemsOf w) row) (UE (itemsOf w)) (itemsOf v)).headD ⟨0,[]⟩=p:=by have:List.foldr (fun x row=>sG (List.map (rD f x) (itemsOf w)) (itemsOf w) row) (UE (itemsOf w)) (itemsOf v)=p::r:=e;rw[this];rfl
     rw[e'];simp only;have cv:count v=1+wR (itemsOf v):=by
      conv=>lhs;rw[←iG gv.1 hr.1 (gv.names hr.1)]
      exact lL lJ
     have cw:count w=1+wR (itemsOf w):=by
      conv=>lhs;rw[←iG gw.1 hr.2 (gw.names hr.2)]
      exact lL lJ
     have dv:deep v=xJ (itemsOf v)+1:=by
      conv=>lhs;rw[←iG gv.1 hr.1 (gv.names hr.1)]
      exact lM lJ
     have dw:deep w=xJ (itemsOf w)+1:=by
      conv=>lhs;rw[←iG gw.1 hr.2 (gw.names hr.2)]
      exact lM lJ
     have:=Ov vp (pre:=[]) (C:=count v+count w) (D:=max (deep v) (deep w)) (fun z hz=>by cases hz) (fun z hz=>(ka.2 z hz).mono (by decide)) (fun z hz=>(kb.2 z hz).mono (by decide))
      (by have:=ka.1;have:=kb.1;simp only[gO];unfold mH at *;omega) (by rw[cv,cw];show 1+0+_+_≤_;omega) (by rw[dv,dw];show max 0 _+1≤_;omega)
     simp only[iI,gO]at this;rw[iG gv.1 hr.1 (gv.names hr.1),iG gw.1 hr.2 (gw.names hr.2)]at this;exact this
    ·exact hset gw
theorem Hh (hv:isValue v=true) (hw:isValue w=true):Vatwvc.rowOn (cC v w).edits v=some (w,Vatwvc.turnedAll (cC v w).edits v)∧∀e∈(cC v w).edits,tT (2 * mH) e:=by
 obtain⟨gv,cv,dv⟩:=dR.mp hv;obtain⟨gw,cw,dw⟩:=dR.mp hw;have h:=Mw (deep v+1) gv gw;refine⟨nU.mpr ⟨h.runs ?_ ?_,hw,rfl⟩,h.fine⟩
 ·unfold MD at *;omega
 ·omega
theorem wT (o:mJ v) (h:x∈kidsOf v):deep x.2+1≤deep v:=by
 rcases o.cases with⟨t,rfl⟩ | ⟨z,rfl⟩ | ⟨k,rfl⟩ | ⟨k,rfl⟩
 ·cases h
 ·cases h
 all_goals
  show _≤max (deep k+1) 0
  rw[jM k]
  have:=pT.mp (aR (pS ((entries k).map fun x=>deep x.2))) _ (aX.mpr ⟨x,h,rfl⟩)
  omega
theorem Mr (o:mJ v) (h:x∈kidsOf v):count x.2+1≤count v:=by
 rcases o.cases with⟨t,rfl⟩ | ⟨z,rfl⟩ | ⟨k,rfl⟩ | ⟨k,rfl⟩
 ·cases h
 ·cases h
 all_goals
  show _≤1+count k+0
  rw[kP k]
  have:=HM (l:=entries k) h
  omega
theorem oR (h:isValue v=true) (hx:x∈kidsOf v):isValue x.2=true:=by
 obtain⟨g,c,d⟩:=dR.mp h;refine dR.mpr ⟨?_,by have:=Mr g.1 hx;omega,by have:=wT g.1 hx;omega⟩;rcases g.1.cases with⟨t,rfl⟩ | ⟨z,rfl⟩ | ⟨k,rfl⟩ | ⟨k,rfl⟩
 ·cases hx
 ·cases hx
 ·exact((g.kids rfl).2.2 x hx).2
 ·exact(g.items rfl).2 x.2 (aX.mpr ⟨x,hx,rfl⟩)
theorem BR (h:isValue v=true) (hx:x∈itemsOf v):isValue x=true:=by obtain⟨y,hy,rfl⟩:=aX.mp hx;exact oR h hy
theorem QF:∀{l:List A} (b:B),(∀b,∀a∈l,f b a=g b a)→l.foldl f b=l.foldl g b
 | [],_,_=>rfl
 | a::l,b,h=>by rw[lW,lW,h b a aM];exact QF _ fun b x hx=>h b x (aL _ hx)
theorem QG:∀{l:List A} (b:B),(∀b,∀a∈l,f a b=g a b)→l.foldr f b=l.foldr g b
 | [],_,_=>rfl
 | a::l,b,h=>by rw[List.foldr_cons,List.foldr_cons,QG b fun b x hx=>h b x (aL _ hx)];exact h _ a aM
def mV (w:Value):iN:=⟨1+count w,[.set [] w]⟩
def CB (s:Step) (x:iN):iN:=⟨x.cost,x.edits.map (gU s)⟩
def LU (G:Value→Value→iN) (a b:List (Name×Value)):iN:=(a.zip b).foldl (fun d z=>andThen d (CB (.field z.1.1) (G z.1.2 z.2.2))) ⟨0,[]⟩
def oE (G:Value→Value→iN) (a b:List Value):List Plan:=a.foldr (fun x row=>sG (b.map (G x)) b row) (UE b)
def mR (G:Value→Value→iN) (a b:List Value):Plan:=(oE G a b).headD ⟨0,[]⟩
def gQ (G:Value→Value→iN) (a b:List Value) (j:Nat):iN:=⟨(mR G a b).cost,rE j (mR G a b).moves⟩
def lQ (G:Value→Value→iN) (v w:Value):iN:=if v=w then ⟨0,[]⟩else if isRecord v=true∧isRecord w=true then (if (kidsOf v).map (fun x=>x.1)=(kidsOf w).map (fun x=>x.1)then cheaper (LU G (kidsOf v) (kidsOf w)) (mV w)else mV w)else if isList v=true∧isList w=true then cheaper (gQ G (itemsOf v) (itemsOf w) 0) (mV w)else mV w
theorem yQ (f:Nat) (v w:Value):rD (f+1) v w=lQ (rD f) v w:=rfl
theorem JN (h:∀x∈kidsOf v,∀y,F x.2 y=G x.2 y):lQ F v w=lQ G v w:=by
 have e1:LU F (kidsOf v) (kidsOf w)=LU G (kidsOf v) (kidsOf w):=QF _ fun b z hz=>by show andThen b (CB _ (F _ _))=andThen b (CB _ (G _ _));rw[h z.1 (oU hz).1 z.2.2]
 have e2:oE F (itemsOf v) (itemsOf w)=oE G (itemsOf v) (itemsOf w):=QG _ fun b x hx=>by obtain⟨y,hy,rfl⟩:=aX.mp hx;show sG ((itemsOf w).map (F y.2)) _ _=sG ((itemsOf w).map (G y.2)) _ _;rw[show F y.2=G y.2 from funext (h y hy)]
 unfold lQ gQ mR;rw[e1,e2]
theorem WH:∀(f g:Nat) {v w:Value},mJ v→deep v≤f→deep v≤g→rD f v w=rD g v w
 | 0,_,v,w,o,hf,_=>absurd (qO o) (by omega)
 | _+1,0,v,w,o,_,hg=>absurd (qO o) (by omega)
 | f+1,g+1,v,w,o,hf,hg=>by rw[yQ,yQ];refine JN fun x hx y=>?_;have:=wT o hx;exact WH f g (mQ x hx) (by omega) (by omega)
theorem Kg (o:mJ v):cC v w=lQ cC v w:=by show rD (deep v+1) v w=_;rw[yQ];refine JN fun x hx y=>?_;have:=wT o hx;exact WH _ _ (mQ x hx) (by omega) (by omega)
section
variable {G:Value→Value→iN}
theorem KB:∀a:List Value,∃p,oE G a []=[p]
 | []=>⟨_,rfl⟩
 | x::a=>by obtain⟨p,e⟩:=KB a;refine⟨UF 1 .take p,?_⟩;show sG [] [] (oE G a [])=_;rw[e];rfl
theorem GJ:∀(a:List Value) (w:Value) (b:List Value),∃p,oE G a (w::b)=p::oE G a b
 | [],w,b=>⟨_,rfl⟩
 | x::a,w,b=>by obtain⟨p,e⟩:=GJ a w b;show ∃q,sG (G x w::b.map (G x)) (w::b) (oE G a (w::b))=q::sG (b.map (G x)) b (oE G a b);rw[e];exact⟨_,rfl⟩
theorem El (x:Value) (a:List Value):mR G (x::a) []=UF 1 .take (mR G a []):=by obtain⟨p,e⟩:=KB (G:=G) a;show(sG [] [] (oE G a [])).headD _=UF 1 .take ((oE G a []).headD _);rw[e];rfl
theorem Ek (x:Value) (a:List Value) (w:Value) (b:List Value):mR G (x::a) (w::b)=
  GY (GY (UF (G x w).cost (.keep (G x w).edits) (mR G a b)) (UF 1 .take (mR G a (w::b)))) (UF (1+count w) (.put w) (mR G (x::a) b)):=by
 obtain⟨p,e⟩:=GJ (G:=G) a w b;have e2:mR G a (w::b)=p:=by unfold mR;rw[e];rfl
 show(sG (G x w::b.map (G x)) (w::b) (oE G a (w::b))).headD _=_;rw[e2,e];rfl
def KG (j:Nat):iN:=⟨1,[.take [] j]⟩
def SG (j:Nat) (w:Value):iN:=⟨1+count w,[.put [] j w]⟩
theorem PQ (w:Value) (b:List Value) (j:Nat):gQ G [] (w::b) j=andThen (SG j w) (gQ G [] b (j+1)):=rfl
theorem PP (x:Value) (a:List Value) (j:Nat):gQ G (x::a) [] j=andThen (KG j) (gQ G a [] j):=by unfold gQ;rw[El];rfl
theorem PL (p q:Plan) (j:Nat):(⟨(GY p q).cost,rE j (GY p q).moves⟩:iN)=cheaper ⟨p.cost,rE j p.moves⟩ ⟨q.cost,rE j q.moves⟩:=by
 unfold GY cheaper;show _=if q.cost < p.cost then _ else _
 split<;>rfl
theorem PN (x:Value) (a:List Value) (w:Value) (b:List Value) (j:Nat):gQ G (x::a) (w::b) j=
  cheaper (cheaper (andThen (CB (.item j) (G x w)) (gQ G a b (j+1))) (andThen (KG j) (gQ G a (w::b) j))) (andThen (SG j w) (gQ G (x::a) b (j+1))):=by
 show(⟨(mR G (x::a) (w::b)).cost,rE j (mR G (x::a) (w::b)).moves⟩:iN)=_;rw[Ek,PL,PL];rfl
end
structure nZ (n d:Nat) (r:iN):Prop where
 len:r.edits.length≤r.cost
 le:r.cost≤n
 ok:∀e∈r.edits,isEdit e=true∧(pathIn e).length≤d
theorem nZ.mono (h:nZ n d r) (l:n≤m) (l':d≤d'):nZ m d' r:=⟨h.len,bI h.le l,fun e he=>⟨(h.ok e he).1,bI (h.ok e he).2 l'⟩⟩
theorem nZ.zero (n d:Nat):nZ n d ⟨0,[]⟩:=⟨aR _,aY _,fun e he=>by cases he⟩
theorem nZ.andThen (h:nZ n d r) (k:nZ m d q):nZ (n+m) d (andThen r q):=⟨by show(r.edits++q.edits).length≤r.cost+q.cost;rw[aC];have:=h.len;have:=k.len;omega,by show r.cost+q.cost≤_;have:=h.le;have:=k.le;omega,fun e he=>(eE.mp he).elim (h.ok e) (k.ok e)⟩
theorem nZ.cheaper (h:nZ n d r) (k:nZ n d q):nZ n d (cheaper r q):=by unfold Vatwvc.cheaper;split<;>assumption
theorem nZ.cheap (h:nZ n d r) (k:nZ m d q):nZ m d (Vatwvc.cheaper r q):=by
 unfold Vatwvc.cheaper;split
 ·exact k
 ·exact⟨h.len,by have:=k.le;omega,h.ok⟩
theorem ZD (hs:isStep s=true) (h:isEdit e=true):isEdit (gU s e)=true:=by unfold isEdit at h ⊢;rw[aE]at h ⊢;refine⟨?_,by cases e<;>exact h.2⟩;rw[tF,cQ,hs,h.1];rfl
theorem nZ.led (hs:isStep s=true) (h:nZ n d r):nZ n (d+1) (CB s r):=⟨by show(r.edits.map _).length≤r.cost;rw[aJ];exact h.len,h.le,fun e he=>by obtain⟨e',he',rfl⟩:=aX.mp he;refine⟨ZD hs (h.ok e' he').1,?_⟩;rw[tF,aK];have:=(h.ok e' he').2;omega⟩
theorem BA (d:Nat) (h:isValue w=true):nZ 61 d (mV w):=
 ⟨by show 1≤1+_;omega,by obtain⟨_,c,_⟩:=dR.mp h;show 1+count w≤61;unfold MD at c;omega,fun e he=>by
  cases he with
  | head=>exact⟨by unfold isEdit;exact h,aY _⟩
  | tail _ h=>cases h⟩
theorem pG (h:j≤100):decide (j≤GREATEST)=true:=decide_eq_true (bI h (by decide))
theorem WU (d:Nat) (h:j≤100):nZ 61 d (KG j):=
 ⟨aR _,by show 1≤61;omega,fun e he=>by
  cases he with
  | head=>exact⟨pG h,aY _⟩
  | tail _ h=>cases h⟩
theorem Dq (d:Nat) (h:j≤100) (hw:isValue w=true):nZ 61 d (SG j w):=
 ⟨by show 1≤1+_;omega,by obtain⟨_,c,_⟩:=dR.mp hw;show 1+count w≤61;unfold MD at c;omega,fun e he=>by
  cases he with
  | head=>exact⟨by show(true && (decide (j≤GREATEST) && isValue w))=true;rw[pG h,hw];rfl,aY _⟩
  | tail _ h=>cases h⟩
theorem uA:∀(a b:List Value) (j:Nat),j+b.length≤100→(∀y∈b,isValue y=true)→(∀x∈a,∀y∈b,nZ 61 d (G x y))→nZ (61 * (a.length+b.length)) (d+1) (gQ G a b j)
 | [],[],j,_,_,_=>nZ.zero _ _
 | [],w::b,j,hj,hb,hg=>by rw[PQ];rw[aK]at hj;have:=(Dq (d+1) (j:=j) (by omega) (hb w aM)).andThen (uA [] b (j+1) (by omega) (fun y hy=>hb y (aL _ hy)) (fun x hx=>by cases hx) (G:=G));exact this.mono (by simp only[aK];omega) (aR _)
 | x::a,[],j,hj,hb,hg=>by rw[PP];have:=(WU (d+1) (j:=j) (by omega)).andThen (uA a [] j hj hb (fun x hx y hy=>by cases hy) (G:=G));exact this.mono (by simp only[aK];omega) (aR _)
 | x::a,w::b,j,hj,hb,hg=>by rw[PN];rw[aK]at hj;have hb':∀y∈b,isValue y=true:=fun y hy=>hb y (aL _ hy);have h1:=((hg x aM w aM).led (s:=.item j) (pG (by omega))).andThen (uA a b (j+1) (by omega) hb' fun x hx y hy=>hg x (aL _ hx) y (aL _ hy));have h2:=(WU (d+1) (j:=j) (by omega)).andThen (uA a (w::b) j (by simp only[aK];omega) hb fun x hx=>hg x (aL _ hx));have h3:=(Dq (d+1) (j:=j) (by omega) (hb w aM)).andThen (uA (x::a) b (j+1) (by omega) hb' fun x hx y hy=>hg x hx y (aL _ hy));refine nZ.cheaper (nZ.cheaper (h1.mono ?_ (aR _)) (h2.mono ?_ (aR _))) (h3.mono ?_ (aR _))<;>simp only[aK]<;>omega
theorem LL {G:Value→Value→iN} {d:Nat}:∀(l:List ((Name×Value)×(Name×Value))) (r:iN) (n:Nat),nZ n (d+1) r→(∀z∈l,isName z.1.1=true∧nZ 61 d (G z.1.2 z.2.2))→
  nZ (n+61 * l.length) (d+1) (l.foldl (fun d z=>andThen d (CB (.field z.1.1) (G z.1.2 z.2.2))) r)
 | [],r,n,h,_=>h
 | z::l,r,n,h,hl=>by have hz:=hl z aM;have:=LL l _ (n+61) (h.andThen (hz.2.led (s:=.field z.1.1) hz.1)) fun y hy=>hl y (aL _ hy);rw[lW];exact this.mono (by simp only[aK];omega) (aR _)
theorem uB:∀(n:Nat) {v w:Value},deep v≤n→isValue v=true→isValue w=true→nZ 61 n (cC v w)
 | 0,v,w,hn,hv,_=>absurd (qO (dR.mp hv).1.1) (by omega)
 | n+1,v,w,hn,hv,hw=>by
  obtain⟨gv,cv,dv⟩:=dR.mp hv;obtain⟨gw,cw,dw⟩:=dR.mp hw;have ih:∀x∈kidsOf v,∀y,isValue y=true→nZ 61 n (cC x.2 y):=fun x hx y hy=>uB n (by have:=wT gv.1 hx;omega) (oR hv hx) hy;rw[Kg gv.1];unfold lQ;split
  ·exact nZ.zero _ _
  ·split
   ·rename_i hr
    split
    ·refine nZ.cheap (n:=0+61 * ((kidsOf v).zip (kidsOf w)).length) (LL _ _ _ (nZ.zero _ _) fun z hz=>?_) (BA _ hw);have m:=oU hz;exact⟨((gv.kids hr.1).2.2 _ m.1).1,ih _ m.1 _ (oR hw m.2)⟩
    ·exact BA _ hw
   ·split
    ·rename_i hr
     refine nZ.cheap (uA _ _ 0 ?_ (fun y hy=>BR hw hy) fun x hx y hy=>?_) (BA _ hw)
     ·have:=(gw.items hr.2).1;unfold mH at this;omega
     ·obtain⟨x',hx',rfl⟩:=aX.mp hx;exact ih x' hx' y (BR hw hy)
    ·exact BA _ hw
theorem NO:∀(n:Nat) (f g:Nat),n < f→n < g→OV f n=OV g n:=by
 intro n;induction n using wK with
 | _ n ih=>
  intro f g hf hg;cases f with
  | zero=>omega
  | succ f=>
   cases g with
   | zero=>omega
   | succ g=>
    unfold OV;split
    ·rfl
    ·rw[ih (n / 10) (by omega) f g (by omega) (by omega)]
theorem nO (h:n < 10):decimal n=[sJ (48+n)]:=by unfold decimal OV;rw[if_pos h]
theorem rH (h:¬n < 10):decimal n=decimal (n / 10)++[sJ (48+n % 10)]:=by
 conv=>lhs;unfold decimal OV
 rw[if_neg h];unfold decimal;rw[NO (n / 10) n (n / 10+1) (by omega) (by omega)]
def DI (d:Nat):UInt8:=sJ (48+d)
theorem pC (h:d < 10):(DI d).toNat=48+d:=by unfold DI;rw[UInt8.toNat_ofNat'];omega
theorem kQ:isDigit b=true↔48≤b.toNat∧b.toNat≤57:=by simp only[isDigit,aE,decide_eq_true_eq,CV];exact NB
theorem uZ:isSmall b=true↔97≤b.toNat∧b.toNat≤122:=by simp only[isSmall,aE,decide_eq_true_eq,CV];exact NB
theorem QP:isSign b=true↔32≤b.toNat∧b.toNat≤126:=by simp only[isSign,aE,decide_eq_true_eq,CV];exact NB
theorem GC (h:d < 10):isDigit (DI d)=true:=by rw[kQ,pC h];omega
theorem Cm (h:isDigit b=true):b=DI (b.toNat - 48):=by rw[kQ]at h;apply lU.mp;rw[pC (by omega)];omega
theorem pB:∀n:Nat,(decimal n).all isDigit=true:=by
 intro n;induction n using wK with
 | _ n ih=>
  by_cases h:n < 10
  ·rw[nO h];simp only[cQ,List.all_nil,lA];exact GC h
  ·rw[rH h,TK,ih _ (by omega)];simp only[cQ,List.all_nil,lA,Bool.true_and];exact GC (YA _ (by decide))
theorem wS (n:Nat):decimal n≠[]:=by
 by_cases h:n < 10
 ·rw[nO h];simp
 ·rw[rH h];simp
def val (t:bW):Nat:=t.foldl (fun n b=>10 * n+(b.toNat - 48)) 0
theorem Fq (t:bW) (b:UInt8):val (t++[b])=10 * val t+(b.toNat - 48):=by unfold val;rw[LZ];rfl
theorem EE:∀n:Nat,val (decimal n)=n:=by
 intro n;induction n using wK with
 | _ n ih=>
  by_cases h:n < 10
  ·rw[nO h];show 10 * 0+((DI n).toNat - 48)=n;rw[pC h];omega
  ·rw[rH h,Fq,ih _ (by omega)];show 10 * (n / 10)+((DI (n % 10)).toNat - 48)=n;rw[pC (YA _ (by decide))];omega
theorem YT:∀n:Nat,1≤n→(decimal n).head?≠some 48:=by
 intro n;induction n using wK with
 | _ n ih=>
  intro h1;by_cases h:n < 10
  ·rw[nO h];intro e;have e:DI n=48:=cO e;have:=congrArg hX e;rw[pC h]at this;have:(48:UInt8).toNat=48:=rfl;omega
  ·rw[rH h,List.head?_append];have h2:=ih (n / 10) (by omega) (by omega);cases q:(decimal (n / 10)).head? with
   | none=>exact absurd (List.head?_eq_none_iff.mp q) (wS _)
   | some b=>rw[q]at h2;exact h2
theorem mM:∀(k n:Nat),n < 10 ^ (k+1)→(decimal n).length≤k+1
 | 0,n,h=>by rw[nO (by omega)];simp
 | k+1,n,h=>by
  by_cases c:n < 10
  ·rw[nO c];simp
  ·rw[rH c,aC];have:=mM k (n / 10) (by rw[Nat.pow_succ]at h;omega);simp only[aK,gO];omega
theorem gA (h:n≤GREATEST):naturalOf (decimal n)=some n:=by
 unfold naturalOf;have hl:=mM 9 n (by unfold GREATEST at h;omega);have c:(!(decimal n).isEmpty && (decide ((decimal n).length≤10) && ((decimal n).all isDigit && ((decimal n).length == 1 || (decimal n).head? != some 48))))=true:=by
  simp only[aE,decide_eq_true_eq,fF,gN,beq_iff_eq,bne_iff_ne];refine⟨by cases q:decimal n with
   | nil=>exact absurd q (wS n)
   | cons a b=>rfl,hl,pB n,?_⟩
  by_cases z:n < 1
  ·left;rw[nO (by omega)];rfl
  ·right;exact YT n (by omega)
 rw[if_pos c];show(if val (decimal n)≤GREATEST then some (val (decimal n))else none)=some n;rw[EE,if_pos h]
theorem Vg (h:l≠[]):∃a b,l=a++[b]:=⟨l.dropLast,l.getLast h,(wD h).symm⟩
theorem Ci:∀(k:Nat) (t:bW),t.length=k→t≠[]→t.all isDigit=true→(t.length=1∨t.head?≠some 48)→decimal (val t)=t∧(t.head?≠some 48→1≤val t):=by
 intro k;induction k with
 | zero=>intro t h n;exact absurd (nE.mp h) n
 | succ k ih=>
  intro t h n hd hz;obtain⟨a,b,rfl⟩:=Vg n;rw[TK,aE]at hd;have hb:isDigit b=true:=by simpa using hd.2
  have hb':=kQ.mp hb;cases a with
  | nil=>
   have e:val ([]++[b])=b.toNat - 48:=by show 10 * 0+_=_;omega
   rw[e];refine⟨?_,fun z=>?_⟩
   ·rw[nO (by omega)];show [DI (b.toNat - 48)]=[b];rw[←Cm hb]
   ·have:b≠48:=fun q=>z (by rw[q];rfl);have:b.toNat≠48:=fun q=>this (lU.mp q);omega
  | cons c a=>
   simp only[aC,aK,gO]at h hz;have hz:(c::a).head?≠some 48:=by
    rcases hz with z | z
    ·omega
    ·exact z
   obtain⟨i1,i2⟩:=ih (c::a) (by simp only[aK];omega) (by simp) hd.1 (.inr hz);have i2:=i2 hz;have hv:=Fq (c::a) b;rw[hv];refine⟨?_,fun _=>by omega⟩;rw[rH (by omega)];have e1:(10 * val (c::a)+(b.toNat - 48)) / 10=val (c::a):=by omega
   have e2:(10 * val (c::a)+(b.toNat - 48)) % 10=b.toNat - 48:=by omega
   rw[e1,e2,i1];show _++[DI (b.toNat - 48)]=_;rw[←Cm hb]
theorem mB:naturalOf t=some n↔n≤GREATEST∧decimal n=t:=by
 constructor
 ·intro h;unfold naturalOf at h;split at h
  ·rename_i c
   simp only[aE,decide_eq_true_eq,fF,gN,beq_iff_eq,bne_iff_ne]at c;obtain⟨c1,c2,c3,c4⟩:=c;have h:(if val t≤GREATEST then some (val t)else none)=some n:=h;split at h
   ·rename_i g
    cases h;exact⟨g,(Ci _ t rfl (by intro q;rw[q]at c1;cases c1) c3 c4).1⟩
   ·cases h
  ·cases h
 ·rintro⟨h,rfl⟩;exact gA h
theorem AR (n:Nat):∃b r,decimal n=b::r∧isDigit b=true:=by
 cases q:decimal n with
 | nil=>exact absurd q (wS n)
 | cons b r=>have:=pB n;rw[q,cQ,aE]at this;exact⟨b,r,rfl,this.1⟩
theorem Ck (h:isDigit b=true) (hc:¬(48≤c.toNat∧c.toNat≤57)):b≠c:=by rintro rfl;exact hc (kQ.mp h)
theorem JL (h:z.natAbs≤GREATEST):integerOf (integer z)=some z:=by
 unfold integer;split
 ·rename_i hz
  show((naturalOf (decimal z.natAbs)).bind fun n=>if n=0 then none else some (-(n:Int)))=some z;rw[gA h];simp only[jJ];rw[if_neg (by omega)];congr 1;omega
 ·rename_i hz
  obtain⟨b,r,e,hb⟩:=AR z.toNat;have hn:b≠45:=Ck hb (by decide);have:integerOf (decimal z.toNat)=(naturalOf (decimal z.toNat)).map fun n=>(n:Int):=by
   rw[e];unfold integerOf;split
   ·rename_i q;cases q;exact absurd rfl hn
   ·rfl
  rw[this,gA (by omega)];show some ((z.toNat:Int))=some z;congr 1;omega
def pU (b:UInt8):Bool:=isDigit b || b == 45
theorem GB (z:Int):(integer z).all pU=true:=by
 have h:∀n,(decimal n).all pU=true:=fun n=>by rw[cD];intro b hb;have:=cD.mp (pB n) b hb;unfold pU;rw[this];rfl
 unfold integer;split
 ·rw[cQ,h];rfl
 ·exact h _
theorem sX (z:Int):∃b r,integer z=b::r∧pU b=true:=by
 have h:=GB z;cases q:integer z with
 | nil=>
  unfold integer at q;split at q
  ·cases q
  ·exact absurd q (wS _)
 | cons b r=>rw[q,cQ,aE]at h;exact⟨b,r,rfl,h.1⟩
def qE (p:UInt8→Bool) (r:bW):Prop:=∀b,r.head?=some b→p b=false
theorem pM:∀{w r:bW},w.all p=true→qE p r→(w++r).takeWhile p=w
 | [],r,_,h=>by
  cases r with
  | nil=>rfl
  | cons b r=>rw[iI,ID,h b rfl];rfl
 | a::w,r,hw,h=>by rw[cQ,aE]at hw;rw[iR,ID,hw.1,pM hw.2 h];rfl
def marked (b:UInt8):bW:=if b=34∨b=92 then [92,b]else [b]
theorem pW (t:bW):quoted t=34::(t.flatMap marked++[34]):=rfl
theorem ED:∀(t:bW) (r:bW),t.all isSign=true→unquoted (t.flatMap marked++(34::r))=some (t,r)
 | [],r,_=>by show unquoted (34::r)=_;unfold unquoted;rfl
 | b::t,r,h=>by
  rw[cQ,aE]at h;have ih:=ED t r h.2;rw[dX];unfold marked;split
  ·rename_i hb
   show unquoted (92::b::(t.flatMap marked++(34::r)))=_;rw[unquoted,if_pos hb,ih]
   ·rfl
  ·rename_i hb
   rw[not_or]at hb;show unquoted (b::(t.flatMap marked++(34::r)))=_;have:unquoted (b::(t.flatMap marked++(34::r)))=if (isSign b && b != 92)=true then (unquoted (t.flatMap marked++(34::r))).map fun x=>(b::x.1,x.2)else none:=by
    rw[unquoted]
    ·intro q;exact hb.1 q
    ·intro b' r' q _;exact hb.2 q
   rw[this,ih,if_pos (by rw[h.1];simpa using hb.2)];rfl
theorem mU (t:bW):valueText (vText t)=quoted t:=by show []++(quoted t++(if Row.nil=.nil then []else _))=_;rw[if_pos rfl,cK];rfl
theorem oQ (z:Int):valueText (vNum z)=integer z:=by show []++(integer z++(if Row.nil=.nil then []else _))=_;rw[if_pos rfl,cK];rfl
theorem zA (k:Row):valueText (vRec k)=123::(rowText true k++[125]):=by show []++((if false=true then 91 else 123)::(rowText (!false) k++((if false=true then 93 else 125)::(if Row.nil=.nil then []else _))))=_;rw[if_pos rfl];rfl
theorem xC (k:Row):valueText (vList k)=91::(rowText false k++[93]):=by show []++((if true=true then 91 else 123)::(rowText (!true) k++((if true=true then 93 else 125)::(if Row.nil=.nil then []else _))))=_;rw[if_pos rfl];rfl
theorem UU (named:Bool) (n:Name) (r:Row) (h:mJ v):rowText named (entry n v r)=nameText named n++(valueText v++(if r=.nil then []else 44::32::rowText named r)):=by
 rcases h.cases with⟨t,rfl⟩ | ⟨z,rfl⟩ | ⟨k,rfl⟩ | ⟨k,rfl⟩
 ·rw[mU];rfl
 ·rw[oQ];rfl
 ·rw[zA];show nameText named n++(123::(rowText true k++(125::(if r=.nil then []else 44::32::rowText named r))))=_;simp
 ·rw[xC];show nameText named n++(91::(rowText false k++(93::(if r=.nil then []else 44::32::rowText named r))))=_;simp
def cI (named:Bool):List (Name×Value)→bW
 | []=>[]
 | x::l=>nameText named x.1++(valueText x.2++(if l.isEmpty=true then []else 44::32::cI named l))
theorem GL (h:∀x∈l,mJ x.2):rowOf l=.nil↔l.isEmpty=true:=by
 cases l with
 | nil=>simp[rowOf]
 | cons x l=>simp only[List.isEmpty_cons,gL,iff_false];intro e;have:=fC _ h;rw[e]at this;cases this
theorem yX (named:Bool):∀{l:List (Name×Value)},(∀x∈l,mJ x.2)→rowText named (rowOf l)=cI named l
 | [],_=>rfl
 | x::l,h=>by
  have h':∀y∈l,mJ y.2:=fun y hy=>h y (aL _ hy);show rowText named (entry x.1 x.2 (rowOf l))=_;rw[UU named x.1 _ (h x aM),yX named h'];show _=nameText named x.1++(valueText x.2++(if l.isEmpty=true then []else 44::32::cI named l));by_cases c:l.isEmpty=true
  ·rw[if_pos c,if_pos ((GL h').mpr c)]
  ·rw[if_neg c,if_neg fun q=>c ((GL h').mp q)]
def jA:List Value→bW
 | []=>[]
 | x::l=>valueText x++(if l.isEmpty=true then []else 44::32::jA l)
theorem kU:∀l:List Value,cI false (l.map fun v=>([],v))=jA l
 | []=>rfl
 | x::l=>by show []++(valueText x++(if (l.map _).isEmpty=true then []else 44::32::cI false (l.map _)))=_;rw[kU l,List.isEmpty_map];rfl
theorem nV (h:∀x∈l,mJ x.2):valueText (recordOf l)=123::(cI true l++[125]):=by show valueText (vRec (rowOf l))=_;rw[zA,yX true h]
theorem pY (h:∀x∈l,mJ x):valueText (listOf l)=91::(jA l++[93]):=by show valueText (vList (rowOf _))=_;rw[xC,yX false (rZ h),kU]
theorem xB (h:mJ v):∃b r,valueText v=b::r∧(pU b=true∨b=34∨b=91∨b=123):=by
 rcases h.cases with⟨t,rfl⟩ | ⟨z,rfl⟩ | ⟨k,rfl⟩ | ⟨k,rfl⟩
 ·exact⟨34,_,mU t,.inr (.inl rfl)⟩
 ·obtain⟨b,r,e,hb⟩:=sX z;exact⟨b,r,by rw[oQ,e],.inl hb⟩
 ·exact⟨123,_,zA k,.inr (.inr (.inr rfl))⟩
 ·exact⟨91,_,xC k,.inr (.inr (.inl rfl))⟩
theorem wU (h:pU b=true) (hc:pU c=false):b≠c:=by rintro rfl;rw[h]at hc;cases hc
def cG (b:UInt8):Bool:=isSmall b || isDigit b
theorem tZ (h:isName n=true):n.all cG=true∧∃b r,n=b::r∧isSmall b=true:=by
 unfold isName at h;simp only[aE]at h;refine⟨h.2.2,?_⟩;cases n with
 | nil=>simp at h
 | cons b r=>exact⟨b,r,rfl,by simpa using h.1⟩
theorem Sf (h:z.natAbs≤GREATEST) (hs:qE pU r):gD (f+1) .value (integer z++r)=some (vNum z,r):=by
 obtain⟨b,t,e,hb⟩:=sX z;have hd:(integer z++r).takeWhile (fun b=>isDigit b || b == 45)=integer z:=pM (GB z) hs;have n34:b≠34:=wU hb (by decide);have n91:b≠91:=wU hb (by decide);have n123:b≠123:=wU hb (by decide);rw[e,iR]at hd ⊢;unfold gD;split
 ·rename_i q;exact absurd (iQ q).1 n34
 ·rename_i q;exact absurd (iQ q).1 n91
 ·rename_i q;exact absurd (iQ q).1 n123
 ·rename_i q;exact absurd (iQ q).1 n91
 ·rename_i q;exact absurd (iQ q).1 n123
 ·simp only;rw[hd,←e,JL h];simp only[kF];rw[e,←iR,pZ]
theorem Oa (h:isText t=true):gD (f+1) .value (quoted t++r)=some (vText t,r):=by unfold isText at h;rw[aE]at h;show(unquoted ((t.flatMap marked++[34])++r)).map (fun x=>(vText x.1,x.2))=_;rw[fH,show([34]:bW)++r=34::r from rfl,ED t r h.2];rfl
def fJ (named:Bool) (l:List (Name×Value)):bW:=if l.isEmpty=true then []else 44::32::cI named l
theorem lI (named:Bool) (x:Name×Value) (l:List (Name×Value)):cI named (x::l)=nameText named x.1++(valueText x.2++fJ named l):=rfl
def dG (isl:Bool):UInt8:=if isl=true then 93 else 125
theorem Ja:qE pU (fJ (!isl) l++dG isl::r):=by
 intro b hb;unfold fJ at hb;cases l with
 | nil=>
  have:dG isl=b:=by simpa using hb
  rw[←this];cases isl<;>decide
 | cons x l=>
  have:(44:UInt8)=b:=by simpa using hb
  rw[←this];decide
theorem BK:∀(l:List (Name×Value)) (f:Nat) (r:bW),l≠[]→(∀x∈l,mJ x.2)→(∀x∈l,(isl=true→x.1=[])∧(isl=false→isName x.1=true))→
  (∀x∈l,∀g s,2 * (valueText x.2).length≤g→qE pU s→gD g .value (valueText x.2++s)=some (x.2,s))→2 * (cI (!isl) l).length+1≤f→
  gD f (.entries isl) (cI (!isl) l++dG isl::r)=some (rowOf l,r)
 | [],_,_,h,_,_,_,_=>absurd rfl h
 | x::l,0,_,_,_,_,_,hf=>by omega
 | x::l,f+1,r,_,ho,hn,hv,hf=>by
  rw[lI]at hf ⊢;simp only[aC]at hf;have hx:=hv x aM f (fJ (!isl) l++dG isl::r) (by omega) Ja;have hxn:=hn x aM;have ox:=ho x aM;have key:gD (f+1) (.entries isl) (nameText (!isl) x.1++(valueText x.2++fJ (!isl) l)++dG isl::r)=(gD f .value (valueText x.2++(fJ (!isl) l++dG isl::r))).bind fun y=>match y.2 with
    | 44::32::r=>(gD f (.entries isl) r).map fun z=>(entry x.1 y.1 z.1,z.2)
    | c::r=>if c=dG isl then some (entry x.1 y.1 .nil,r)else none
    | []=>none:=by
   cases isl with
   | true=>have e:x.1=[]:=hxn.1 rfl;rw[gD];simp only[if_true,jJ];show(gD f .value ([]++(valueText x.2++fJ false l)++dG true::r)).bind _=_;rw[iI,fH,e];rfl
   | false=>
    obtain⟨nb,b,t,e,hb⟩:=tZ (hxn.2 rfl);have et:nameText true x.1++(valueText x.2++fJ true l)++dG false::r=x.1++(58::32::(valueText x.2++(fJ true l++dG false::r))):=by show(x.1++[58,32])++_++_=_;simp
    have hw:(x.1++(58::32::(valueText x.2++(fJ true l++dG false::r)))).takeWhile (fun b=>isSmall b || isDigit b)=x.1:=pM nb (by
     intro c hc;have:(58:UInt8)=c:=by simpa using hc
     rw[←this];decide)
    show gD (f+1) (.entries false) (nameText true x.1++(valueText x.2++fJ true l)++dG false::r)=_;rw[et,gD];simp only[gL,if_false];rw[hw,pZ];simp only[jJ];rfl
  rw[key,hx];simp only[jJ];cases l with
  | nil=>
   have:fJ (!isl) []++dG isl::r=dG isl::r:=rfl;rw[this];show(match dG isl::r with
    | 44::32::r=>(gD f (.entries isl) r).map fun(z:Row×bW)=>(entry x.1 x.2 z.1,z.2)
    | c::r=>if c=dG isl then some (entry x.1 x.2 .nil,r)else none
    | []=>none)=_
   cases isl<;>rfl
  | cons y l=>
   have:fJ (!isl) (y::l)++dG isl::r=44::32::(cI (!isl) (y::l)++dG isl::r):=rfl;rw[this];have hf':2 * (cI (!isl) (y::l)).length+1≤f:=by have:(fJ (!isl) (y::l)).length=(cI (!isl) (y::l)).length+2:=rfl;omega
   have ih:=BK (isl:=isl) (y::l) f r (by simp) (fun z hz=>ho z (aL _ hz)) (fun z hz=>hn z (aL _ hz)) (fun z hz=>hv z (aL _ hz)) hf';show(gD f (.entries isl) (cI (!isl) (y::l)++dG isl::r)).map (fun(z:Row×bW)=>(entry x.1 x.2 z.1,z.2))=_;rw[ih];rfl
theorem Il (h:eB W v):∀f r,2 * (valueText v).length≤f→qE pU r→gD f .value (valueText v++r)=some (v,r):=by
 refine eB.ind (P:=fun v=>∀f r,2 * (valueText v).length≤f→qE pU r→gD f .value (valueText v++r)=some (v,r)) ?_ ?_ ?_ ?_ h
 ·intro t ht f r hf _;rw[mU]at hf ⊢;cases f with
  | zero=>simp[quoted]at hf
  | succ f=>exact Oa ht
 ·intro z hz f r hf hs;rw[oQ]at hf ⊢;obtain⟨b,t,e,_⟩:=sX z;cases f with
  | zero=>rw[e]at hf;simp at hf
  | succ f=>exact Sf hz hs
 ·intro l _ _ hn hp f r hf hs;have ho:∀x∈l,mJ x.2:=fun x hx=>(hn x hx).2.1;rw[nV ho]at hf ⊢;simp only[aK,aC,gO]at hf;cases f with
  | zero=>omega
  | succ f=>
   cases l with
   | nil=>rfl
   | cons x l=>
    have he:=BK (isl:=false) (x::l) f r (by simp) ho (fun y hy=>⟨fun q=>(by cases q),fun _=>(hn y hy).1⟩) (fun y hy=>hp y hy) (by show 2 * (cI true (x::l)).length+1≤f;omega);obtain⟨_,b,t,e,hb⟩:=tZ (hn x aM).1;have e2:∃u,cI true (x::l)=b::u:=⟨_,by rw[lI,e];rfl⟩;obtain⟨u,e2⟩:=e2;have nb:b≠125:=by rintro rfl;revert hb;decide
    show gD (f+1) .value (123::((cI true (x::l)++[125])++r))=_;have e3:(cI true (x::l)++[125])++r=cI true (x::l)++dG false::r:=by simp[dG]
    rw[e3];have he:gD f (.entries false) (cI true (x::l)++dG false::r)=some (rowOf (x::l),r):=he;have k:gD (f+1) .value (123::(cI true (x::l)++dG false::r))=(gD f (.entries false) (cI true (x::l)++dG false::r)).map fun x=>(vRec x.1,x.2):=by rw[e2,iR];rw[gD];intro r' q;cases q;exact nb rfl
    rw[k,he];rfl
 ·intro l _ hn hp f r hf hs;have ho:∀x∈l,mJ x:=fun x hx=>(hn x hx).1;rw[pY ho]at hf ⊢;simp only[aK,aC,gO]at hf;cases f with
  | zero=>omega
  | succ f=>
   cases l with
   | nil=>rfl
   | cons x l=>
    have he:=BK (isl:=true) ((x::l).map fun v=>([],v)) f r (by simp) (rZ ho) (fun y hy=>⟨fun _=>(by obtain⟨v,_,rfl⟩:=aX.mp hy;rfl),fun q=>(by cases q)⟩) (fun y hy=>by obtain⟨v,hv,rfl⟩:=aX.mp hy;exact hp v hv) (by show 2 * (cI false _).length+1≤f;rw[kU];omega);have he:gD f (.entries true) (cI false ((x::l).map fun v=>([],v))++dG true::r)=some (rowOf ((x::l).map fun v=>([],v)),r):=he;rw[kU]at he;obtain⟨b,t,e,hb⟩:=xB (ho x aM);have e2:∃u,jA (x::l)=b::u:=⟨_,by unfold jA;rw[e];rfl⟩;obtain⟨u,e2⟩:=e2;have nb:b≠93:=by rintro rfl;revert hb;decide
    show gD (f+1) .value (91::((jA (x::l)++[93])++r))=_;have e3:(jA (x::l)++[93])++r=jA (x::l)++dG true::r:=by simp[dG]
    rw[e3];have k:gD (f+1) .value (91::(jA (x::l)++dG true::r))=(gD f (.entries true) (jA (x::l)++dG true::r)).map fun x=>(vList x.1,x.2):=by rw[e2,iR];rw[gD];intro r' q;cases q;exact nb rfl
    rw[k,he];rfl
theorem sC:valueOf t=some v↔isValue v=true∧valueText v=t:=by
 unfold valueOf;constructor
 ·intro h;cases q:gD (2 * t.length+2) .value t with
  | none=>rw[q]at h;cases h
  | some x=>
   rw[q]at h;simp only[jJ]at h;split at h
   ·rename_i c
    cases h;simp only[aE,beq_iff_eq]at c;exact c.2
   ·cases h
 ·rintro⟨h,rfl⟩;have g:=(dR.mp h).1;have:=Il g (2 * (valueText v).length+2) [] (by omega) (by intro b hb;cases hb);rw[cK]at this;rw[this];simp only[jJ];rw[if_pos (by simp[h])]
theorem AQ (c:UInt8) (t:bW):UD c (c::t)=[]::UD c t:=by rw[UD,if_pos rfl]
theorem DH (c:UInt8):∀(w t:bW),(∀b∈w,b≠c)→UD c (w++c::t)=w::UD c t
 | [],t,_=>AQ c t
 | a::w,t,h=>by rw[iR,UD,if_neg (h a aM),DH c w t fun b hb=>h b (aL _ hb)]
theorem HG (c:UInt8):∀(w:bW),(∀b∈w,b≠c)→UD c w=[w]
 | [],_=>rfl
 | a::w,h=>by rw[UD,if_neg (h a aM),HG c w fun b hb=>h b (aL _ hb)]
theorem Ft (h:cG b=true) (hc:cG c=false):b≠c:=by rintro rfl;rw[h]at hc;cases hc
theorem JA (n:Nat):(decimal n).all cG=true:=by rw[cD];intro b hb;have:=cD.mp (pB n) b hb;unfold cG;rw[this];simp
theorem wG (h:isStep s=true):(stepText s).all cG=true∧stepText s≠[]:=by
 cases s with
 | field n=>obtain⟨a,b,r,e,_⟩:=tZ (show isName n=true from h);exact⟨a,by show n≠[];rw[e];simp⟩
 | item i=>exact⟨JA i,wS i⟩
theorem KM {w:bW} (h:w.all cG=true) {c:UInt8} (hc:cG c=false):∀b∈w,b≠c:=fun b hb=>Ft (cD.mp h b hb) hc
theorem QN (n:Nat):isName (decimal n)=false:=by
 obtain⟨b,r,e,hb⟩:=AR n;rw[e];unfold isName;have:isSmall b=false:=by rw[hZ];intro q;have:=uZ.mp q;have:=kQ.mp hb;omega
 simp[this]
theorem XI (h:isStep s=true):stepOf (stepText s)=some s:=by
 cases s with
 | field n=>show(if isName n=true then some (Step.field n)else _)=_;rw[if_pos (show isName n=true from h)]
 | item i=>show(if isName (decimal i)=true then some (Step.field (decimal i))else (naturalOf (decimal i)).map Step.item)=_;rw[QN,gA (by simpa [isStep] using h)];rfl
def cZ (p:Path):bW:=p.flatMap fun s=>47::stepText s
theorem WE:∀(p:Path),p.all isStep=true→UD 47 (cZ p)=if p.isEmpty=true then [[]]else []::p.map stepText
 | [],_=>rfl
 | [s],h=>by rw[cQ,aE]at h;show UD 47 (47::(stepText s++[]))=_;rw[cK,AQ,HG _ _ (KM (wG h.1).1 (by decide))];rfl
 | s::s'::p,h=>by rw[cQ,aE]at h;have ih:=WE (s'::p) h.2;rw[if_neg (by simp)]at ih;have e:cZ (s::s'::p)=47::(stepText s++cZ (s'::p)):=rfl;obtain⟨u,eu⟩:∃u,cZ (s'::p)=47::u:=⟨_,rfl⟩;rw[e,AQ,eu,DH _ _ _ (KM (wG h.1).1 (by decide)),if_neg (by simp)];rw[eu,AQ]at ih;have:=(iQ ih).2;rw[this];rfl
theorem VW:∀{l:List B},(∀x∈l,f (g x)=some x)→allOf ((l.map g).map f)=some l
 | [],_=>rfl
 | x::l,h=>by show(f (g x)).bind (fun a=>(allOf ((l.map g).map f)).map fun l=>a::l)=_;rw[h x aM,VW fun y hy=>h y (aL _ hy)];rfl
theorem ZX:pathText []=[47]:=rfl
theorem qU (s:Step) (p:Path):pathText (s::p)=cZ (s::p):=rfl
theorem Np (h:p.all isStep=true):pathOf (pathText p)=some p:=by
 cases p with
 | nil=>rfl
 | cons s p=>
  rw[qU];unfold pathOf;have h':=h;rw[cQ,aE]at h';have ne:cZ (s::p)≠[47]:=by show 47::(stepText s++cZ p)≠[47];intro q;have:=(iQ q).2;have:=(List.append_eq_nil_iff.mp this).1;exact(wG h'.1).2 this
  rw[if_neg ne,WE _ h,if_neg (by simp)];show(if ((s::p).map stepText).isEmpty=true then none else allOf (((s::p).map stepText).map stepOf))=_;rw[if_neg (by simp)];exact VW fun x hx=>XI (cD.mp h x hx)
theorem Nq {p:Path} (h:p.all isStep=true):∀b∈pathText p,b≠32:=by
 cases p with
 | nil=>intro b hb;rw[ZX,bU]at hb;rw[hb];decide
 | cons s p=>
  rw[qU];intro b hb;obtain⟨t,ht,hb⟩:=List.mem_flatMap.mp hb;rcases aT.mp hb with rfl | hb
  ·decide
  ·exact KM (wG (cD.mp h t ht)).1 (by decide) b hb
theorem rN (h:∀b∈w,b≠32):lD (w++32::r)=(w,r):=by
 unfold lD;have:(w++32::r).takeWhile (fun b=>b != 32)=w:=pM (by rw[cD];intro b hb;simpa using h b hb) (by
  intro b hb;have:(32:UInt8)=b:=by simpa using hb
  rw[←this];rfl)
 rw[this];simp
def iH:gE→bW
 | .set _ _=>ascii "set"
 | .put _ _ _=>ascii "put"
 | .take _ _=>ascii "take"
 | .move _ _ _=>ascii "move"
 | .add _ _ _ _=>ascii "add"
 | .drop _ _=>ascii "drop"
 | .rename _ _ _=>ascii "rename"
def yY:gE→bW
 | .set _ v=>valueText v
 | .put _ i v=>decimal i++(32::valueText v)
 | .take _ i=>decimal i
 | .move _ i j=>decimal i++(32::decimal j)
 | .add _ i n v=>decimal i++(32::(n++(32::valueText v)))
 | .drop _ n=>n
 | .rename _ n m=>n++(32::m)
theorem Fw (e:gE):wordsOfEdit e=iH e++(32::(pathText (pathIn e)++(32::yY e))):=by
 have k:∀(a b c t:bW),a=b++[32]→a++(c++(32::t))=b++(32::(c++(32::t))):=fun a b c t h=>by rw[h];simp
 cases e with
 | set p v=>exact k _ (ascii "set") _ _ (by decide)
 | put p j v=>exact k _ (ascii "put") _ _ (by decide)
 | take p j=>exact k _ (ascii "take") _ _ (by decide)
 | move p j l=>exact k _ (ascii "move") _ _ (by decide)
 | add p j n v=>exact k _ (ascii "add") _ _ (by decide)
 | drop p n=>exact k _ (ascii "drop") _ _ (by decide)
 | rename p n m=>exact k _ (ascii "rename") _ _ (by decide)
theorem Ox (e:gE):∀b∈iH e,b≠32:=by
 have k:∀t:bW,t.all (fun b=>b != 32)=true→∀b∈t,b≠32:=fun t h b hb=>by have:=cD.mp h b hb;simpa using this
 cases e with
 | set p v=>exact k (ascii "set") (by decide)
 | put p j v=>exact k (ascii "put") (by decide)
 | take p j=>exact k (ascii "take") (by decide)
 | move p j l=>exact k (ascii "move") (by decide)
 | add p j n v=>exact k (ascii "add") (by decide)
 | drop p n=>exact k (ascii "drop") (by decide)
 | rename p n m=>exact k (ascii "rename") (by decide)
theorem AZ (n:Nat):∀b∈decimal n,b≠32:=KM (JA n) (by decide)
theorem WS {n:Name} (h:isName n=true):∀b∈n,b≠32:=KM (tZ h).1 (by decide)
def Jc (w:bW) (p:Path) (t:bW):Option gE:=
 let c:=lD t;let d:=lD c.2
  if w=Vatwva.ascii "set" then (Vatwva.valueOf t).map fun v=>.set p v
  else if w=Vatwva.ascii "put" then (Vatwva.naturalOf c.1).bind fun i=>(Vatwva.valueOf c.2).map fun v=>.put p i v
  else if w=Vatwva.ascii "take" then (Vatwva.naturalOf t).map fun i=>.take p i
  else if w=Vatwva.ascii "move" then (Vatwva.naturalOf c.1).bind fun i=>(Vatwva.naturalOf c.2).map fun j=>.move p i j
  else if w=Vatwva.ascii "add" then (Vatwva.naturalOf c.1).bind fun i=>(Vatwva.valueOf d.2).map fun v=>.add p i d.1 v
  else if w=Vatwva.ascii "drop" then some (.drop p t)
  else if w=Vatwva.ascii "rename" then some (.rename p c.1 c.2)
  else none
theorem Cn (t:bW):editFrom t=(pathOf (lD (lD t).2).1).bind fun p=>Jc (lD t).1 p (lD (lD t).2).2:=rfl
theorem On (h:isEdit e=true):Jc (iH e) (pathIn e) (yY e)=some e:=by
 unfold isEdit at h;rw[aE]at h;have hk:=h.2;unfold Jc;cases e with
 | set p v=>have hk:isValue v=true:=hk;simp only[iH,yY,pathIn];rw[if_pos trivial,sC.mpr ⟨hk,rfl⟩];rfl
 | put p i v=>simp only[aE,decide_eq_true_eq]at hk;simp only[iH,yY,pathIn];rw[if_neg (by decide),if_pos trivial,rN (AZ i)];simp only;rw[gA hk.1,sC.mpr ⟨hk.2,rfl⟩];rfl
 | take p i=>simp only[decide_eq_true_eq]at hk;simp only[iH,yY,pathIn];rw[if_neg (by decide),if_neg (by decide),if_pos trivial,gA hk];rfl
 | move p i j=>simp only[aE,decide_eq_true_eq]at hk;simp only[iH,yY,pathIn];rw[if_neg (by decide),if_neg (by decide),if_neg (by decide),if_pos trivial,rN (AZ i)];simp only;rw[gA hk.1,gA hk.2];rfl
 | add p i n v=>simp only[aE,decide_eq_true_eq]at hk;simp only[iH,yY,pathIn];rw[if_neg (by decide),if_neg (by decide),if_neg (by decide),if_neg (by decide),if_pos trivial,rN (AZ i)];simp only;rw[rN (WS hk.2.1)];simp only;rw[gA hk.1,sC.mpr ⟨hk.2.2,rfl⟩];rfl
 | drop p n=>simp only[iH,yY,pathIn];rw[if_neg (by decide),if_neg (by decide),if_neg (by decide),if_neg (by decide),if_neg (by decide),if_pos trivial]
 | rename p n m=>simp only[aE]at hk;simp only[iH,yY,pathIn];rw[if_neg (by decide),if_neg (by decide),if_neg (by decide),if_neg (by decide),if_neg (by decide),if_neg (by decide),if_pos trivial,rN (WS hk.1)]
theorem Co (h:isEdit e=true):editFrom (wordsOfEdit e)=some e:=by have h':=h;unfold isEdit at h';rw[aE]at h';rw[Cn,Fw,rN (Ox e)];simp only;rw[rN (Nq h'.1)];simp only;rw[Np h'.1];exact On h
theorem AT:editOf t=some e↔isEdit e=true∧wordsOfEdit e=t:=by
 unfold editOf;constructor
 ·intro h;cases q:editFrom t with
  | none=>rw[q]at h;cases h
  | some x=>
   rw[q]at h;simp only[jJ]at h;split at h
   ·rename_i c
    cases h;simp only[aE,beq_iff_eq]at c;exact c
   ·cases h
 ·rintro⟨h,rfl⟩;rw[Co h];simp only[jJ];rw[if_pos (by simp[h])]
theorem ZB (h:isEdit e=true):tT (2 * mH) e:=by
 unfold isEdit at h;rw[aE]at h;have hk:=h.2;have g:∀{v:Value},isValue v=true→eB (2 * mH) v:=fun h=>(dR.mp h).1.mono (by decide);cases e with
 | set p v=>exact g hk
 | put p i v=>simp only[aE]at hk;exact g hk.2
 | take p i=>trivial
 | move p i j=>trivial
 | add p i n v=>simp only[aE]at hk;exact⟨hk.2.1,g hk.2.2⟩
 | drop p n=>exact hk
 | rename p n m=>simp only[aE]at hk;exact hk
def tO:bW→bW→List bW×bW
 | acc,[]=>([],acc)
 | acc,b::r=>if b=10 then (let x:=tO [] r;(acc::x.1,x.2))else tO (acc++[b]) r
theorem LB:∀(t acc:bW),(∀b∈acc,b≠10)→UD 10 (acc++t)=(tO acc t).1++[(tO acc t).2]
 | [],acc,h=>by rw[cK,HG _ _ h];rfl
 | b::t,acc,h=>by
  unfold tO;by_cases c:b=10
  ·subst c;rw[if_pos rfl,DH _ _ _ h];have:=LB t [] (fun b hb=>by cases hb);rw[iI]at this;rw[this];rfl
  ·rw[if_neg c];have:=LB t (acc++[b]) (fun x hx=>by
    rcases eE.mp hx with hx | hx
    ·exact h x hx
    ·rw[bU]at hx;rw[hx];exact c)
   rw[fH]at this;exact this
theorem HH (t:bW):editsOf t=if (tO [] t).2=[]then allOf ((tO [] t).1.map editOf)else none:=by unfold editsOf;have:=LB t [] (fun b hb=>by cases hb);rw[iI]at this;simp only;rw[this];simp
section
open Vatwvc
def jV (r:bW):bW:=r.takeWhile cG
def kD (r:bW):bW:=r.dropWhile cG
theorem uL (r:bW):jV r++kD r=r:=List.takeWhile_append_dropWhile
def jF (w r:bW):Option bW:=if w.isPrefixOf r=true then some (r.drop w.length)else none
theorem iF:jF w r=some r'↔r=w++r':=by
 unfold jF;constructor
 ·intro h;split at h
  ·rename_i hp
   cases h;obtain⟨s,rfl⟩:=VQ.mp hp;rw[pZ]
  ·cases h
 ·rintro rfl;rw[if_pos (VQ.mpr ⟨r',rfl⟩),pZ]
def uG (r:bW):Option (Name×bW):=if isName (jV r)=true then some (jV r,kD r)else none
def kN (r:bW):Option (Nat×bW):=(naturalOf (jV r)).map fun n=>(n,kD r)
def KD (r:bW):Option (Int×bW):=if r.head?=some 45 then (kN r.tail).bind fun x=>if x.1=0 then none else some (-(x.1:Int),x.2)else (kN r).map fun x=>((x.1:Int),x.2)
def DX (r:bW):Option (Value×bW):=(unquoted r).bind fun x=>if x.1.length≤30 then some (vText x.1,x.2)else none
def uF (named:Bool) (ns:List Name) (r:bW):Option (Name×bW):=if named=true then (uG r).bind fun n=>if ns.contains n.1=true then none else (jF [58,32] n.2).map fun r2=>(n.1,r2)else some ([],r)
def cT (named:Bool) (f:bW→Option (Value×bW)) (ns:List Name) (r:bW):Option (List (Name×Value)×bW):=if r.head?=some (dG (!named))then some ([],r.tail)else (if ns.isEmpty=true then some r else jF [44,32] r).bind fun r1=>(uF named ns r1).bind fun h=>(f h.2).bind fun x=>if h':x.2.length < r.length then (cT named f (ns++[h.1]) x.2).map fun y=>((h.1,x.1)::y.1,y.2)else none
termination_by r.length
def dI:Nat→bW→Option (Value×bW)
 | 0,_=>none
 | d+1,r=>if r.head?=some 123 then (cT true (dI d) [] r.tail).map fun x=>(recordOf x.1,x.2)else if r.head?=some 91 then (cT false (dI d) [] r.tail).map fun x=>(listOf (x.1.map fun y=>y.2),x.2)else if r.head?=some 34 then DX r.tail else (KD r).map fun x=>(vNum x.1,x.2)
theorem mO (h:r.head?=some b):r=b::r.tail:=by
 cases r with
 | nil=>cases h
 | cons c r=>cases h;rfl
theorem HU (r:bW):qE cG (kD r):=by
 intro b hb;unfold kD at hb;cases hc:r.dropWhile cG with
 | nil=>rw[hc]at hb;cases hb
 | cons c s=>rw[hc]at hb;cases hb;have:=List.head?_dropWhile_not cG r;rw[hc]at this;simpa using this
theorem vG (hw:w.all cG=true) (hs:qE cG r):jV (w++r)=w∧kD (w++r)=r:=by have h1:jV (w++r)=w:=pM hw hs;refine⟨h1,?_⟩;have h2:=uL (w++r);rw[h1]at h2;exact Bt h2
theorem vE:uG r=some x↔isName x.1=true∧r=x.1++x.2∧qE cG x.2:=by
 unfold uG;constructor
 ·intro h;split at h
  ·rename_i hn
   cases h;exact⟨hn,(uL r).symm,HU r⟩
  ·cases h
 ·rintro⟨hn,rfl,hs⟩;obtain⟨e1,e2⟩:=vG (tZ hn).1 hs;rw[e1,e2,if_pos hn]
theorem UM (n:Nat):(decimal n).all cG=true:=by have:=pB n;rw[cD]at this ⊢;intro b hb;unfold cG;rw[this b hb,Bool.or_true]
theorem pX:kN r=some x↔x.1≤GREATEST∧r=decimal x.1++x.2∧qE cG x.2:=by
 unfold kN;constructor
 ·intro h;obtain⟨n,hn,rfl⟩:=aO.mp h;obtain⟨h1,h2⟩:=mB.mp hn;refine⟨h1,?_,HU r⟩;show r=decimal n++kD r;rw[h2,uL]
 ·rintro⟨hn,hr,hs⟩;obtain⟨n,r'⟩:=x;dsimp only at hn hr hs;subst hr;obtain⟨e1,e2⟩:=vG (UM n) hs;rw[e1,e2,mB.mpr ⟨hn,rfl⟩];rfl
theorem SJ:KD r=some x↔x.1.natAbs≤GREATEST∧r=integer x.1++x.2∧qE cG x.2:=by
 obtain⟨z,r'⟩:=x;unfold KD;constructor
 ·intro h;split at h
  ·rename_i hh
   obtain⟨⟨n,r1⟩,hn,h⟩:=bE.mp h;obtain⟨h1,h2,h3⟩:=pX.mp hn;dsimp only at h h1 h2 h3;split at h
   ·cases h
   ·rename_i h0
    cases h;refine⟨by show(-(n:Int)).natAbs≤_;omega,?_,h3⟩;show r=integer (-(n:Int))++r';unfold integer;rw[if_pos (by omega),mO hh,h2];have:(-(n:Int)).natAbs=n:=by omega
    rw[this];rfl
  ·obtain⟨⟨n,r1⟩,hn,h⟩:=aO.mp h;cases h;obtain⟨h1,h2,h3⟩:=pX.mp hn;refine⟨by show((n:Int)).natAbs≤_;simpa using h1,?_,h3⟩;show r=integer (n:Int)++r1;unfold integer;rw[if_neg (by omega)];exact h2
 ·rintro⟨h1,rfl,h3⟩;dsimp only at h1 h3;show(if (integer z++r').head?=some 45 then (kN (integer z++r').tail).bind _ else (kN (integer z++r')).map _)=some (z,r');unfold integer;split
  ·rename_i hz
   rw[if_pos (show(45::decimal z.natAbs++r').head?=some 45 from rfl)];show(kN (decimal z.natAbs++r')).bind _=_;rw[pX.mpr ⟨show(z.natAbs,r').1≤GREATEST from h1,rfl,h3⟩];show(if z.natAbs=0 then none else some (-(z.natAbs:Int),r'))=_;rw[if_neg (by omega)];have: -(z.natAbs:Int)=z:=by omega
   rw[this]
  ·rename_i hz
   have hd:¬(decimal z.toNat++r').head?=some 45:=by
    obtain⟨b,s,e,hb⟩:=AR z.toNat;rw[e];intro c;have:b=45:=by simpa using c
    exact Ck hb (by decide) this
   rw[if_neg hd,pX.mpr ⟨show(z.toNat,r').1≤GREATEST by show z.toNat≤_;omega,rfl,h3⟩];show some ((z.toNat:Int),r')=_;have:(z.toNat:Int)=z:=by omega
   rw[this]
theorem yZ:∀(n:Nat) {r:bW} {x:bW×bW},r.length≤n→unquoted r=some x→x.1.all isSign=true∧r=x.1.flatMap marked++(34::x.2)
 | n,[],x,_,h=>by unfold unquoted at h;cases h
 | 0,_::_,_,hl,_=>by simp at hl
 | n+1,b::r,x,hl,h=>by
  have hl:r.length≤n:=by simpa using hl
  by_cases h34:b=34
  ·subst h34;unfold unquoted at h;cases h;exact⟨rfl,rfl⟩
  ·by_cases h92:b=92
   ·subst h92;cases r with
    | nil=>
     have e:unquoted [92]=if (isSign 92 && (92:UInt8) != 92)=true then (unquoted []).map fun x=>(92::x.1,x.2)else none:=by
      rw[unquoted]
      ·intro q;cases q
      ·intro b' r' _ q;cases q
     rw[e]at h;simp at h
    | cons c r=>
     rw[unquoted]at h;split at h
     ·rename_i hc
      obtain⟨y,hy,rfl⟩:=aO.mp h;obtain⟨h1,h2⟩:=yZ n (by simp at hl;omega) hy;refine⟨?_,?_⟩
      ·show(c::y.1).all isSign=true;rw[cQ,h1,lA];rcases hc with rfl | rfl<;>decide
      ·show _=(c::y.1).flatMap marked++_;rw[dX]
       conv=>lhs;rw[h2]
       unfold marked;rw[if_pos hc];rfl
     ·cases h
   ·have e:unquoted (b::r)=if (isSign b && b != 92)=true then (unquoted r).map fun x=>(b::x.1,x.2)else none:=by
     rw[unquoted]
     ·intro q;exact h34 q
     ·intro b' r' q _;exact h92 q
    rw[e]at h;split at h
    ·rename_i hs
     rw[aE]at hs;obtain⟨y,hy,rfl⟩:=aO.mp h;obtain⟨h1,h2⟩:=yZ n hl hy;refine⟨?_,?_⟩
     ·show(b::y.1).all isSign=true;rw[cQ,h1,hs.1];rfl
     ·show _=(b::y.1).flatMap marked++_;rw[dX]
      conv=>lhs;rw[h2]
      unfold marked;rw[if_neg (by rw[not_or];exact⟨h34,h92⟩)];rfl
    ·cases h
theorem MY:DX r=some x↔∃t,isText t=true∧x.1=vText t∧(34:UInt8)::r=quoted t++x.2:=by
 obtain⟨v,r'⟩:=x;unfold DX;constructor
 ·intro h;obtain⟨⟨t,r1⟩,ht,h⟩:=bE.mp h;dsimp only at h;split at h
  ·rename_i hl
   cases h;obtain⟨h1,h2⟩:=yZ _ (aR _) ht;refine⟨t,by unfold isText;rw[aE];exact⟨decide_eq_true hl,h1⟩,rfl,?_⟩;rw[pW,h2];simp
  ·cases h
 ·rintro⟨t,ht,hv,hr⟩;dsimp only at hv hr;subst hv;unfold isText at ht;rw[aE]at ht;have e:r=t.flatMap marked++(34::r'):=by rw[pW]at hr;have:=iQ (show(34:UInt8)::r=34::(t.flatMap marked++[34]++r')from hr);rw[this.2];simp
  subst e;rw[ED t r' ht.2];show(if t.length≤30 then some (vText t,r')else none)=_;exact if_pos (of_decide_eq_true ht.1)
def pH (named:Bool) (ns:List Name) (l:List (Name×Value)):bW:=if ns.isEmpty=true then cI named l else fJ named l
theorem MP (named:Bool) (ns:List Name) (n:Name) (l:List (Name×Value)):pH named (ns++[n]) l=fJ named l:=by unfold pH;rw[if_neg (by simp)]
def ZH (named:Bool) (n:Name):Prop:=if named=true then isName n=true else n=[]
theorem MX (h:uF named ns r=some x):ZH named x.1∧(named=true→x.1∉ns)∧r=nameText named x.1++x.2:=by
 unfold uF at h;cases named with
 | false=>rw[if_neg (by decide)]at h;cases h;exact⟨rfl,fun z=>(by cases z),rfl⟩
 | true=>
  rw[if_pos rfl]at h;obtain⟨n,hn,h⟩:=bE.mp h;split at h
  ·cases h
  ·rename_i hc
   obtain⟨r2,hr,rfl⟩:=aO.mp h;obtain⟨h1,h2,h3⟩:=vE.mp hn;have h4:=iF.mp hr;refine⟨h1,fun _ c=>hc (by simpa using c),?_⟩;rw[h2,h4];show _=(n.1++[58,32])++r2;simp
theorem Nw (h1:ZH named n) (h2:named=true→n∉ns):uF named ns (nameText named n++r)=some (n,r):=by
 unfold uF;cases named with
 | false=>rw[if_neg (by decide)];have:n=[]:=h1;subst this;rfl
 | true=>
  rw[if_pos rfl];have h1:isName n=true:=h1;have e:nameText true n++r=n++(58::32::r):=by show(n++[58,32])++r=_;simp
  rw[e,vE.mpr ⟨show isName (n,(58::32::r:bW)).1=true from h1,rfl,fun b hb=>by cases hb;decide⟩];show(if ns.contains n=true then none else (jF [58,32] (58::32::r)).map _)=_;rw[if_neg (by simpa using h2 rfl),iF.mpr (show(58::32::r:bW)=[58,32]++r from rfl)];rfl
theorem DW (hf:∀r x,r.length≤W→f r=some x→eB W x.1∧deep x.1≤d∧r=valueText x.1++x.2):
  ∀(n:Nat) (ns:List Name) (r:bW) (x:List (Name×Value)×bW),r.length≤n→r.length≤W→(named=true→ns.Nodup)→cT named f ns r=some x→
   (∀y∈x.1,eB W y.2∧deep y.2≤d∧ZH named y.1)∧(named=true→(ns++x.1.map fun y=>y.1).Nodup)∧r=pH named ns x.1++dG (!named)::x.2∧x.1.length≤r.length:=by
 intro n;induction n with
 | zero=>
  intro ns r x hl _ hnd h;have:r=[]:=eA (by omega);subst this;rw[cT,if_neg (by intro c;cases c)]at h;obtain⟨r1,hr1,h⟩:=bE.mp h;obtain⟨hh,hh1,h⟩:=bE.mp h;obtain⟨y,hy,h⟩:=bE.mp h;split at h
  ·rename_i hlt;simp at hlt
  ·cases h
 | succ n ih=>
  intro ns r x hl hW hnd h;rw[cT]at h;split at h
  ·rename_i hc
   cases h;refine⟨fun y hy=>(by cases hy),fun z=>(by simpa using hnd z),?_,aY _⟩
   conv=>lhs;rw[mO hc]
   unfold pH fJ cI;split<;>rfl
  ·obtain⟨r1,hr1,h⟩:=bE.mp h;obtain⟨hh,hh1,h⟩:=bE.mp h;obtain⟨y,hy,h⟩:=bE.mp h;split at h
   ·rename_i hlt
    obtain⟨z,hz,rfl⟩:=aO.mp h;obtain⟨k1,k2,k3⟩:=MX hh1;have hr:r=(if ns.isEmpty=true then []else [44,32])++r1:=by
     split at hr1
     ·cases hr1;rename_i q;rw[if_pos q];rfl
     ·rename_i q;rw[if_neg q];exact iF.mp hr1
    have hl1:r1.length≤W:=by rw[hr,aC]at hW;omega
    have hl2:hh.2.length≤W:=by rw[k3,aC]at hl1;omega
    obtain⟨g1,g2,g3⟩:=hf _ _ hl2 hy;obtain⟨i1,i2,i3,i4⟩:=ih (ns++[hh.1]) y.2 z (by omega) (by omega) (fun q=>by
     rw[oW];refine⟨hnd q,by simp,fun a ha b hb=>?_⟩;have:b=hh.1:=by simpa using hb
     subst this;exact fun e=>k2 q (e▸ha)) hz
    refine⟨fun w hw=>?_,fun q=>?_,?_,?_⟩
    ·rcases aT.mp hw with rfl | hw
     ·exact⟨g1,g2,k1⟩
     ·exact i1 w hw
    ·have:=i2 q;rw[fH]at this;exact this
    ·rw[MP]at i3;rw[hr,k3,g3,i3];show _=pH named ns ((hh.1,y.1)::z.1)++_;unfold pH;by_cases q:ns.isEmpty=true
     ·rw[if_pos q,if_pos q,lI];simp
     ·rw[if_neg q,if_neg q,show fJ named ((hh.1,y.1)::z.1)=44::32::cI named ((hh.1,y.1)::z.1)from rfl,lI];simp
    ·show(_::z.1).length≤r.length;rw[aK];omega
   ·cases h
theorem MW (hf:∀v r,eB W v→deep v≤d→qE cG r→f (valueText v++r)=some (v,r)):
  ∀(l:List (Name×Value)) (ns:List Name) (r:bW),(∀y∈l,eB W y.2∧deep y.2≤d∧ZH named y.1)→(named=true→(ns++l.map fun y=>y.1).Nodup)→
   cT named f ns (pH named ns l++dG (!named)::r)=some (l,r):=by
 intro l;induction l with
 | nil=>
  intro ns r _ _;have e:pH named ns []=[]:=by unfold pH fJ cI;split<;>rfl
  rw[e,cT,iI];exact if_pos rfl
 | cons x l ih=>
  intro ns r h1 h2;obtain⟨gx,dx,nx⟩:=h1 x aM;have e0:pH named ns (x::l)++dG (!named)::r=(if ns.isEmpty=true then []else [44,32])++(nameText named x.1++(valueText x.2++(fJ named l++dG (!named)::r))):=by
   unfold pH;by_cases q:ns.isEmpty=true
   ·rw[if_pos q,if_pos q,lI];simp
   ·rw[if_neg q,if_neg q,show fJ named (x::l)=44::32::cI named (x::l)from rfl,lI];simp
  obtain⟨b,s,eb,hb⟩:=xB gx.1;have hhead:¬(pH named ns (x::l)++dG (!named)::r).head?=some (dG (!named)):=by
   rw[e0];split
   ·cases named with
    | false=>
     have:x.1=[]:=nx;show ¬([]++([]++(valueText x.2++_))).head?=_;rw[eb];intro c;have c:b=93:=by simpa [dG] using c
     rcases hb with hb | rfl | rfl | rfl
     ·exact wU hb (by decide) c
     ·cases c
     ·cases c
     ·cases c
    | true=>
     obtain⟨_,b',s',e',hb'⟩:=tZ (show isName x.1=true from nx);show ¬([]++((x.1++[58,32])++_)).head?=_;rw[e'];intro c;have c:b'=125:=by simpa [dG] using c
     subst c;revert hb';decide
   ·cases named<;>(intro c;revert c;simp[dG])
  have hns:named=true→x.1∉ns:=fun q c=>by have:=h2 q;rw[oW]at this;exact this.2.2 x.1 c x.1 (by simp) rfl
  have hst:qE cG (fJ named l++dG (!named)::r):=by
   intro c hc;unfold fJ at hc;cases l with
   | nil=>
    have:dG (!named)=c:=by simpa using hc
    rw[←this];cases named<;>decide
   | cons y l=>
    have:(44:UInt8)=c:=by simpa using hc
    rw[←this];decide
  have hih:=ih (ns++[x.1]) r (fun y hy=>h1 y (aL _ hy)) (fun q=>by have:=h2 q;rw[fH];exact this);rw[MP]at hih;rw[cT,if_neg hhead];have hlen:(fJ named l++dG (!named)::r).length < (pH named ns (x::l)++dG (!named)::r).length:=by rw[e0,eb];simp only[aC,aK];omega
  have e1:(if ns.isEmpty=true then some (pH named ns (x::l)++dG (!named)::r)else jF [44,32] (pH named ns (x::l)++dG (!named)::r))=some (nameText named x.1++(valueText x.2++(fJ named l++dG (!named)::r))):=by
   rw[e0];split
   ·rfl
   ·exact iF.mpr rfl
  rw[e1];show(uF named ns (nameText named x.1++_)).bind _=_;rw[Nw nx hns];show(f (valueText x.2++_)).bind _=_;rw[hf x.2 _ gx dx hst];show(if h':(fJ named l++dG (!named)::r).length < _ then _ else none)=_;rw[dif_pos hlen];show(cT named f (ns++[x.1]) _).map _=_;rw[hih];rfl
theorem tH:∀(d W:Nat) (r:bW) (x:Value×bW),r.length≤W→dI d r=some x→eB W x.1∧deep x.1≤d∧r=valueText x.1++x.2
 | 0,W,r,x,_,h=>by cases h
 | d+1,W,r,x,hl,h=>by
  rw[dI]at h;split at h
  ·rename_i hh
   obtain⟨y,hy,rfl⟩:=aO.mp h;have ht:r.tail.length≤W:=by rw[NY];omega
   obtain⟨h1,h2,h3,h4⟩:=DW (fun r x hl' hx=>tH d W r x hl' hx) _ [] r.tail y (aR _) ht (fun _=>FQ) hy;have ho:∀z∈y.1,mJ z.2:=fun z hz=>(h1 z hz).1.1;refine⟨(zO ho).mpr ⟨by omega,(iE _).mpr (by simpa using h2 rfl),fun z hz=>⟨(h1 z hz).2.2,(h1 z hz).1⟩⟩,?_,?_⟩
   ·rw[lY ho];apply Nat.succ_le_succ;rw[pT];intro k hk;obtain⟨z,hz,rfl⟩:=aX.mp hk;exact(h1 z hz).2.1
   ·show r=valueText (recordOf y.1)++y.2;rw[nV ho]
    conv=>lhs;rw[mO hh,h3]
    show _::(cI true y.1++125::y.2)=_;simp
  ·split at h
   ·rename_i hh
    obtain⟨y,hy,rfl⟩:=aO.mp h;have ht:r.tail.length≤W:=by rw[NY];omega
    obtain⟨h1,h2,h3,h4⟩:=DW (fun r x hl' hx=>tH d W r x hl' hx) _ [] r.tail y (aR _) ht (fun _=>FQ) hy;have ho:∀z∈y.1.map (fun y=>y.2),mJ z:=fun z hz=>by obtain⟨w,hw,rfl⟩:=aX.mp hz;exact(h1 w hw).1.1
    refine⟨(rX ho).mpr ⟨by rw[aJ];omega,fun z hz=>?_⟩,?_,?_⟩
    ·obtain⟨w,hw,rfl⟩:=aX.mp hz;exact(h1 w hw).1
    ·rw[lM ho];apply Nat.succ_le_succ;rw[pT];intro k hk;obtain⟨z,hz,rfl⟩:=aX.mp hk;obtain⟨w,hw,rfl⟩:=aX.mp hz;exact(h1 w hw).2.1
    ·show r=valueText (listOf (y.1.map fun y=>y.2))++y.2;rw[pY ho]
     conv=>lhs;rw[mO hh,h3]
     have e:y.1=(y.1.map fun y=>y.2).map fun v=>(([]:Name),v):=by
      rw[cP]
      conv=>lhs;rw[←nX y.1]
      refine eO fun z hz=>?_;have:z.1=[]:=(h1 z hz).2.2;show z=([],z.2);rw[←this]
     have e2:cI false y.1=jA (y.1.map fun y=>y.2):=by
      conv=>lhs;rw[e]
      exact kU _
     show _::(cI false y.1++93::y.2)=_;rw[e2];simp
   ·split at h
    ·rename_i hh
     obtain⟨t,ht,hx,hr⟩:=MY.mp h;refine⟨by rw[hx];exact ET.mpr ht,by rw[hx];exact Nat.le_add_left 1 d,?_⟩;rw[hx,mU,←hr];exact mO hh
    ·obtain⟨y,hy,rfl⟩:=aO.mp h;obtain⟨h1,h2,_⟩:=SJ.mp hy;refine⟨JK.mpr h1,Nat.le_add_left 1 d,?_⟩;show r=valueText (vNum y.1)++y.2;rw[oQ];exact h2
theorem LS:∀(d W:Nat) (v:Value) (r:bW),eB W v→deep v≤d→qE cG r→dI d (valueText v++r)=some (v,r)
 | 0,W,v,r,g,hd,_=>by have:=qO g.1;omega
 | d+1,W,v,r,g,hd,hs=>by
  rcases g.cases with⟨t,ht,rfl⟩ | ⟨z,hz,rfl⟩ | ⟨l,rfl,gl⟩ | ⟨l,rfl,gl⟩
  ·rw[mU,dI,if_neg (by rw[pW];intro c;cases c),if_neg (by rw[pW];intro c;cases c),if_pos (by rw[pW];rfl)];exact MY.mpr ⟨t,ht,rfl,by rw[pW];rfl⟩
  ·obtain⟨b,s,e,hb⟩:=sX z;have hne:∀c:UInt8,pU c=false→¬(integer z++r).head?=some c:=fun c hc q=>by
    rw[e]at q;have:b=c:=by simpa using q
    exact wU hb hc this
   rw[oQ,dI,if_neg (hne _ (by decide)),if_neg (hne _ (by decide)),if_neg (hne _ (by decide)),SJ.mpr ⟨show(z,r).1.natAbs≤GREATEST from hz,rfl,hs⟩];rfl
  ·have ho:∀z∈l,mJ z.2:=fun z hz=>(gl.2.2 z hz).2.1;rw[lY ho]at hd;have hd':=pT.mp (tP hd);have hk:=MW (named:=true) (fun v r g h1 h2=>LS d W v r g h1 h2) l [] r (fun y hy=>⟨(gl.2.2 y hy).2,hd' _ (aX.mpr ⟨y,hy,rfl⟩),(gl.2.2 y hy).1⟩) (fun _=>by simpa using (iE _).mp gl.2.1);have hh:(123::(cI true l++[125])++r:bW).head?=some 123:=rfl;rw[nV ho,dI,if_pos hh];have e:(123::(cI true l++[125])++r).tail=pH true [] l++dG (!true)::r:=by show(cI true l++[125])++r=cI true l++125::r;simp
   rw[e,hk];rfl
  ·have ho:∀z∈l,mJ z:=fun z hz=>(gl.2 z hz).1;rw[lM ho]at hd;have hd':=pT.mp (tP hd);have hk:=MW (named:=false) (fun v r g h1 h2=>LS d W v r g h1 h2) (l.map fun v=>([],v)) [] r (fun y hy=>by obtain⟨w,hw,rfl⟩:=aX.mp hy;exact⟨gl.2 w hw,hd' _ (aX.mpr ⟨w,hw,rfl⟩),rfl⟩) (fun q=>by cases q);have hh:(91::(jA l++[93])++r:bW).head?=some 91:=rfl;rw[pY ho,dI,if_neg (by intro c;cases c),if_pos hh];have e:(91::(jA l++[93])++r).tail=pH false [] (l.map fun v=>([],v))++dG (!false)::r:=by show(jA l++[93])++r=cI false (l.map fun v=>([],v))++93::r;rw[kU];simp
   rw[e,hk];show some (listOf ((l.map _).map _),r)=_;rw[cP];have:l.map ((fun y:Name×Value=>y.2)∘fun v=>([],v))=l:=by
    conv=>rhs;rw[←nX l]
    rfl
   rw[this]
end
section
open Vatwvc
def qZ (r:bW):Option (Value×bW):=(dI 6 r).bind fun x=>if isValue x.1=true then some x else none
theorem GK (h:qZ r=some x):isValue x.1=true∧r=valueText x.1++x.2:=by
 obtain⟨y,hy,h⟩:=bE.mp h;split at h
 ·rename_i hv
  cases h;exact⟨hv,(tH 6 r.length r _ (aR _) hy).2.2⟩
 ·cases h
theorem SK (h:isValue v=true) (hs:qE cG r):qZ (valueText v++r)=some (v,r):=by obtain⟨g,_,d⟩:=dR.mp h;unfold qZ;rw[LS 6 _ v r g d hs];exact if_pos h
theorem XJ:qE p []:=fun b h=>by cases h
theorem DY:qZ t=some (v,[])↔valueOf t=some v:=by
 rw[sC];constructor
 ·intro h;obtain⟨h1,h2⟩:=GK h;exact⟨h1,by rw[h2,cK]⟩
 ·rintro⟨h1,rfl⟩;have:=SK (r:=[]) h1 XJ
  rwa [cK]at this
def uH (r:bW):Option (Step×bW):=(stepOf (jV r)).map fun s=>(s,kD r)
theorem Fh (h:stepOf w=some s):isStep s=true∧stepText s=w:=by
 unfold stepOf at h;split at h
 ·rename_i hn
  cases h;exact⟨hn,rfl⟩
 ·obtain⟨n,hn,rfl⟩:=aO.mp h;obtain⟨h1,h2⟩:=mB.mp hn;exact⟨decide_eq_true h1,h2⟩
theorem yA:uH r=some x↔isStep x.1=true∧r=stepText x.1++x.2∧qE cG x.2:=by
 unfold uH;constructor
 ·intro h;obtain⟨s,hs,rfl⟩:=aO.mp h;obtain⟨h1,h2⟩:=Fh hs;exact⟨h1,by show r=stepText s++kD r;rw[h2,uL],HU r⟩
 ·rintro⟨h1,rfl,h3⟩;obtain⟨e1,e2⟩:=vG (wG h1).1 h3;rw[e1,e2,XI h1];rfl
def pK (r:bW):Option (List Step×bW):=if r.head?=some 47 then (uH r.tail).bind fun s=>if h:s.2.length < r.length then (pK s.2).map fun y=>(s.1::y.1,y.2)else none else some ([],r)
termination_by r.length
def qI (r:bW):Option (Path×bW):=if r.head?=some 47 then (if r.tail.head?=some 32 then some ([],r.tail)else (uH r.tail).bind fun s=>(pK s.2).map fun y=>(s.1::y.1,y.2))else none
theorem Af:∀(n:Nat) (r:bW) (x:List Step×bW),r.length≤n→pK r=some x→x.1.all isStep=true∧r=cZ x.1++x.2:=by
 intro n;induction n with
 | zero=>intro r x hl h;have:r=[]:=eA (by omega);subst this;rw[pK,if_neg (by intro c;cases c)]at h;cases h;exact⟨rfl,rfl⟩
 | succ n ih=>
  intro r x hl h;rw[pK]at h;split at h
  ·rename_i hh
   obtain⟨s,hs,h⟩:=bE.mp h;split at h
   ·rename_i hlt
    obtain⟨y,hy,rfl⟩:=aO.mp h;obtain⟨h1,h2,h3⟩:=yA.mp hs;obtain⟨i1,i2⟩:=ih s.2 y (by omega) hy;refine⟨by show(s.1::y.1).all isStep=true;rw[cQ,h1,i1];rfl,?_⟩
    conv=>lhs;rw[mO hh,h2,i2]
    show _=cZ (s.1::y.1)++y.2;unfold cZ;rw[dX];simp
   ·cases h
  ·cases h;exact⟨rfl,rfl⟩
theorem Ny:∀(p:List Step) (r:bW),p.all isStep=true→qE cG r→r.head?≠some 47→pK (cZ p++r)=some (p,r):=by
 intro p;induction p with
 | nil=>intro r _ _ h;rw[pK,show cZ []++r=r from rfl,if_neg h]
 | cons s p ih=>
  intro r hp hs h;rw[cQ,aE]at hp;have e:cZ (s::p)++r=47::(stepText s++(cZ p++r)):=by unfold cZ;rw[dX];simp
  have hst:qE cG (cZ p++r):=by
   cases p with
   | nil=>exact hs
   | cons s' p=>
    intro b hb;have:(47:UInt8)=b:=by unfold cZ at hb;rw[dX]at hb;simpa using hb
    rw[←this];decide
  rw[e,pK];have hh:(47::(stepText s++(cZ p++r)):bW).head?=some 47:=rfl;rw[if_pos hh];show(uH (stepText s++(cZ p++r))).bind _=_;rw[yA.mpr ⟨show isStep (s,cZ p++r).1=true from hp.1,rfl,hst⟩];show(if h:(cZ p++r).length < _ then _ else none)=_;rw[dif_pos (by simp only[aK,aC];omega)];show(pK (cZ p++r)).map _=_;rw[ih r hp.2 hs h];rfl
theorem Ag (h:qI r=some x):x.1.all isStep=true∧r=pathText x.1++x.2:=by
 unfold qI at h;split at h
 ·rename_i hh
  split at h
  ·cases h;refine⟨rfl,?_⟩;exact mO hh
  ·obtain⟨s,hs,h⟩:=bE.mp h;obtain⟨y,hy,rfl⟩:=aO.mp h;obtain⟨h1,h2,h3⟩:=yA.mp hs;obtain⟨i1,i2⟩:=Af _ _ _ (aR _) hy;refine⟨by show(s.1::y.1).all isStep=true;rw[cQ,h1,i1];rfl,?_⟩;show r=pathText (s.1::y.1)++y.2;rw[qU]
   conv=>lhs;rw[mO hh,h2,i2]
   unfold cZ;rw[dX];simp
 ·cases h
theorem Nz (hp:p.all isStep=true):qI (pathText p++32::r)=some (p,32::r):=by
 unfold qI;cases p with
 | nil=>rfl
 | cons s p=>
  have hp0:=hp;rw[cQ,aE]at hp;have e:pathText (s::p)++32::r=47::(stepText s++(cZ p++32::r)):=by rw[qU];unfold cZ;rw[dX];simp
  have hst:qE cG (cZ p++32::r):=by
   cases p with
   | nil=>
    intro b hb;have:(32:UInt8)=b:=by simpa [cZ] using hb
    rw[←this];decide
   | cons s' p=>
    intro b hb;have:(47:UInt8)=b:=by unfold cZ at hb;rw[dX]at hb;simpa using hb
    rw[←this];decide
  rw[e];have hh:(47::(stepText s++(cZ p++32::r)):bW).head?=some 47:=rfl;rw[if_pos hh];show(if (stepText s++(cZ p++32::r)).head?=some 32 then _ else (uH (stepText s++(cZ p++32::r))).bind _)=_;have hn:¬(stepText s++(cZ p++32::r)).head?=some 32:=by
   obtain⟨h1,h2⟩:=wG hp.1;cases q:stepText s with
   | nil=>exact absurd q h2
   | cons b w=>
    intro c;have c:b=32:=by simpa using c
    rw[q,cQ,aE]at h1;rw[c]at h1;exact absurd h1.1 (by decide)
  rw[if_neg hn,yA.mpr ⟨show isStep (s,cZ p++32::r).1=true from hp.1,rfl,hst⟩];show(pK (cZ p++32::r)).map _=_;rw[Ny p _ hp.2 (fun b hb=>by cases hb;decide) (by intro c;cases c)];rfl
inductive NL where
 | place
 | name
 | value
deriving DecidableEq
inductive rF where
 | place (n:Nat)
 | name (n:Name)
 | value (v:Value)
def rF.form:rF→NL
 | .place _=>.place
 | .name _=>.name
 | .value _=>.value
def rF.ok:rF→Bool
 | .place n=>decide (n≤GREATEST)
 | .name n=>isName n
 | .value v=>isValue v
def rF.text:rF→bW
 | .place n=>decimal n
 | .name n=>n
 | .value v=>valueText v
def MV:NL→bW→Option (rF×bW)
 | .place,r=>(kN r).map fun x=>(.place x.1,x.2)
 | .name,r=>(uG r).map fun x=>(.name x.1,x.2)
 | .value,r=>(qZ r).map fun x=>(.value x.1,x.2)
def oS:List NL→bW→Option (List rF×bW)
 | [],r=>some ([],r)
 | f::fs,r=>(jF [32] r).bind fun r1=>(MV f r1).bind fun x=>(oS fs x.2).map fun y=>(x.1::y.1,y.2)
def jU (ds:List rF):bW:=ds.flatMap fun d=>32::d.text
theorem Er (h:MV f r=some x):x.1.form=f∧x.1.ok=true∧r=x.1.text++x.2:=by
 cases f with
 | place=>obtain⟨y,hy,rfl⟩:=aO.mp h;obtain⟨h1,h2,_⟩:=pX.mp hy;exact⟨rfl,decide_eq_true h1,h2⟩
 | name=>obtain⟨y,hy,rfl⟩:=aO.mp h;obtain⟨h1,h2,_⟩:=vE.mp hy;exact⟨rfl,h1,h2⟩
 | value=>obtain⟨y,hy,rfl⟩:=aO.mp h;obtain⟨h1,h2⟩:=GK hy;exact⟨rfl,h1,h2⟩
theorem Sd (h:d.ok=true) (hs:qE cG r):MV d.form (d.text++r)=some (d,r):=by
 cases d with
 | place n=>show(kN (decimal n++r)).map _=_;rw[pX.mpr ⟨show(n,r).1≤GREATEST from of_decide_eq_true h,rfl,hs⟩];rfl
 | name n=>show(uG (n++r)).map _=_;rw[vE.mpr ⟨show isName (n,r).1=true from h,rfl,hs⟩];rfl
 | value v=>show(qZ (valueText v++r)).map _=_;rw[SK h hs];rfl
theorem BH:∀{fs:List NL} {r:bW} {x:List rF×bW},oS fs r=some x→x.1.map rF.form=fs∧x.1.all rF.ok=true∧r=jU x.1++x.2
 | [],r,x,h=>by cases h;exact⟨rfl,rfl,rfl⟩
 | f::fs,r,x,h=>by obtain⟨r1,h1,h⟩:=bE.mp h;obtain⟨y,hy,h⟩:=bE.mp h;obtain⟨z,hz,rfl⟩:=aO.mp h;obtain⟨d1,d2,d3⟩:=Er hy;obtain⟨i1,i2,i3⟩:=BH hz;have e:=iF.mp h1;refine⟨by show(y.1::z.1).map rF.form=_;rw[aP,d1,i1],by show(y.1::z.1).all rF.ok=true;rw[cQ,d2,i2];rfl,?_⟩;show r=jU (y.1::z.1)++z.2;rw[e,d3,i3];unfold jU;rw[dX];simp
theorem XG:∀{ds:List rF},ds.all rF.ok=true→oS (ds.map rF.form) (jU ds)=some (ds,[])
 | [],_=>rfl
 | d::ds,h=>by
  rw[cQ,aE]at h;have e:jU (d::ds)=[32]++(d.text++jU ds):=by unfold jU;rw[dX];simp
  have hst:qE cG (jU ds):=by
   cases ds with
   | nil=>exact XJ
   | cons d' ds=>
    intro b hb;have:(32:UInt8)=b:=by unfold jU at hb;rw[dX]at hb;simpa using hb
    rw[←this];decide
  rw[e,aP,oS,iF.mpr rfl];show(MV d.form (d.text++jU ds)).bind _=_;rw[Sd h.1 hst];show(oS (ds.map rF.form) (jU ds)).map _=_;rw[XG h.2];rfl
def eW:gE→List rF
 | .set _ v=>[.value v]
 | .put _ i v=>[.place i,.value v]
 | .take _ i=>[.place i]
 | .move _ i j=>[.place i,.place j]
 | .add _ i n v=>[.place i,.name n,.value v]
 | .drop _ n=>[.name n]
 | .rename _ n m=>[.name n,.name m]
def wA (w:bW):Option (List NL):=if w=ascii "set" then some [.value]else if w=ascii "put" then some [.place,.value]else if w=ascii "take" then some [.place]else if w=ascii "move" then some [.place,.place]else if w=ascii "add" then some [.place,.name,.value]else if w=ascii "drop" then some [.name]else if w=ascii "rename" then some [.name,.name]else none
theorem JI (e:gE):wA (iH e)=some ((eW e).map rF.form):=by cases e<;>rfl
def Ya (w:bW) (p:Path) (ds:List rF) (e:gE):Prop:=iH e=w∧pathIn e=p∧eW e=ds
theorem Yq (h:wA w=some (ds.map rF.form)):∃e,Ya w p ds e:=by
 unfold wA at h;have one:∀{f:NL},[f]=ds.map rF.form→∃d,ds=[d]∧d.form=f:=fun {f} h=>by
  match ds,h with
  | [d],h=>exact⟨d,rfl,by simpa using h.symm⟩
 have Sv:∀{f g:NL},[f,g]=ds.map rF.form→∃d c,ds=[d,c]∧d.form=f∧c.form=g:=fun {f g} h=>by
  match ds,h with
  | [d,c],h=>
   have:f=d.form∧g=c.form:=by simpa using h
   exact⟨d,c,rfl,this.1.symm,this.2.symm⟩
 have three:∀{f g k:NL},[f,g,k]=ds.map rF.form→∃d c b,ds=[d,c,b]∧d.form=f∧c.form=g∧b.form=k:=fun {f g k} h=>by
  match ds,h with
  | [d,c,b],h=>
   have:f=d.form∧g=c.form∧k=b.form:=by simpa using h
   exact⟨d,c,b,rfl,this.1.symm,this.2.1.symm,this.2.2.symm⟩
 have pl:∀{d:rF},d.form=.place→∃n,d=.place n:=fun {d} h=>by cases d<;>first | exact⟨_,rfl⟩ | cases h
 have nm:∀{d:rF},d.form=.name→∃n,d=.name n:=fun {d} h=>by cases d<;>first | exact⟨_,rfl⟩ | cases h
 have vl:∀{d:rF},d.form=.value→∃n,d=.value n:=fun {d} h=>by cases d<;>first | exact⟨_,rfl⟩ | cases h
 split at h
 ·rename_i q;subst q
  obtain⟨d,rfl,h1⟩:=one (cO h);obtain⟨v,rfl⟩:=vl h1;exact⟨.set p v,rfl,rfl,rfl⟩
 split at h
 ·rename_i q;subst q
  obtain⟨d,c,rfl,h1,h2⟩:=Sv (cO h);obtain⟨i,rfl⟩:=pl h1;obtain⟨v,rfl⟩:=vl h2;exact⟨.put p i v,rfl,rfl,rfl⟩
 split at h
 ·rename_i q;subst q
  obtain⟨d,rfl,h1⟩:=one (cO h);obtain⟨i,rfl⟩:=pl h1;exact⟨.take p i,rfl,rfl,rfl⟩
 split at h
 ·rename_i q;subst q
  obtain⟨d,c,rfl,h1,h2⟩:=Sv (cO h);obtain⟨i,rfl⟩:=pl h1;obtain⟨j,rfl⟩:=pl h2;exact⟨.move p i j,rfl,rfl,rfl⟩
 split at h
 ·rename_i q;subst q
  obtain⟨d,c,b,rfl,h1,h2,h3⟩:=three (cO h);obtain⟨i,rfl⟩:=pl h1;obtain⟨n,rfl⟩:=nm h2;obtain⟨v,rfl⟩:=vl h3;exact⟨.add p i n v,rfl,rfl,rfl⟩
 split at h
 ·rename_i q;subst q
  obtain⟨d,rfl,h1⟩:=one (cO h);obtain⟨n,rfl⟩:=nm h1;exact⟨.drop p n,rfl,rfl,rfl⟩
 split at h
 ·rename_i q;subst q
  obtain⟨d,c,rfl,h1,h2⟩:=Sv (cO h);obtain⟨n,rfl⟩:=nm h1;obtain⟨m,rfl⟩:=nm h2;exact⟨.rename p n m,rfl,rfl,rfl⟩
 ·cases h
theorem IA (e:gE):wordsOfEdit e=iH e++(32::(pathText (pathIn e)++jU (eW e))):=by rw[Fw];cases e<;>simp[yY,eW,jU,rF.text]
theorem zM (e:gE):isEdit e=((pathIn e).all isStep && (eW e).all rF.ok):=by cases e<;>simp[isEdit,eW,rF.ok,pathIn]
theorem Jg (e:gE):(iH e).all cG=true:=by cases e<;>rfl
theorem Ae (hw:w=jV t) (hf:wA w=some fs) (h1:jF [32] (kD t)=some r1) (h2:qI r1=some (p,r2)) (h3:oS fs r2=some (ds,[])) (he:Ya w p ds e):editOf t=some e:=by obtain⟨e1,e2,e3⟩:=he;obtain⟨p1,p2⟩:=Ag h2;obtain⟨d1,d2,d3⟩:=BH h3;rw[AT,zM,e2,e3,aE];refine⟨⟨p1,d2⟩,?_⟩;rw[IA,e1,e2,e3];have:=uL t;rw[←hw,iF.mp h1,p2,d3]at this;rw[←this];simp
theorem FG (h:editOf t=some e):∃r1 r2,jV t=iH e∧jF [32] (kD t)=some r1∧qI r1=some (pathIn e,r2)∧oS ((eW e).map rF.form) r2=some (eW e,[]):=by
 obtain⟨h1,rfl⟩:=AT.mp h;rw[zM,aE]at h1;rw[IA];obtain⟨e1,e2⟩:=vG (r:=32::(pathText (pathIn e)++jU (eW e))) (Jg e) (fun b hb=>by cases hb;decide);refine⟨_,jU (eW e),e1,by rw[e2];exact iF.mpr rfl,?_,XG h1.2⟩;have:∃r,jU (eW e)=32::r:=by cases e<;>exact⟨_,rfl⟩
 obtain⟨r,hr⟩:=this;rw[hr];exact Nz h1.1
end
end VM
end
section
namespace My
open PySem PySem.Spec PyProof.Rows L2
open PySem.W (Frag)
open Vatwva (Text Name)
def top (i:Nat):yL:=PySem.Challenge.pw_valueedits_s01_answers.main.body.getD i (.Pass ⟨0,0,0,0⟩)
abbrev fT:=Vatwva.Value
abbrev NN:=Vatwva.Row
def bT (n:bW):Str:=⟨(n.map hX).toArray⟩
def cU (t:bW):List V:=t.map fun b=>V.int (b.toNat:Int)
def dQ (l:List (Name×fT)):List V:=l.map fun x=>V.str (bT x.1)
def Cb (K:aB) (H:Hp):NN→List V→Prop
 | .nil,xs=>xs=[]
 | .text _ t r,xs=>∃a b c ys,xs=.ref a::ys∧fE K H a [.str "text",.ref b,.ref c]∧fE K H b (cU t)∧fE K H c []∧Cb K H r ys
 | .num _ z r,xs=>∃a c ys,xs=.ref a::ys∧fE K H a [.str "number",.int z,.ref c]∧fE K H c []∧Cb K H r ys
 | .sub _ l k r,xs=>∃a b c ys zs,xs=.ref a::ys∧fE K H a [.str (if l then "list" else "record"),.ref b,.ref c]∧fE K H b (if l then []else dQ (Vatwva.entries k))∧fE K H c zs∧Cb K H k zs∧Cb K H r ys
theorem Cb.tups {K:aB} {H H':Hp} (e:zH H H'):∀{r:NN} {xs:List V},Cb K H r xs→Cb K H' r xs
 | .nil,xs,h=>h
 | .text _ t r,xs,⟨a,b,c,ys,h1,h2,h3,h4,h5⟩=>⟨a,b,c,ys,h1,e.sqT h2,e.sqT h3,e.sqT h4,Cb.tups e h5⟩
 | .num _ z r,xs,⟨a,c,ys,h1,h2,h3,h4⟩=>⟨a,c,ys,h1,e.sqT h2,e.sqT h3,Cb.tups e h4⟩
 | .sub _ l k r,xs,⟨a,b,c,ys,zs,h1,h2,h3,h4,h5,h6⟩=>⟨a,b,c,ys,zs,h1,e.sqT h2,e.sqT h3,e.sqT h4,Cb.tups e h5,Cb.tups e h6⟩
def oB (K:aB) (H:Hp) (x:V) (v:fT):Prop:=VM.mJ v∧Cb K H v [x]
def fW (K:aB) (H:Hp):List V→List fT→Prop:=gY (oB K H)
theorem oB.tups {K:aB} {H H':Hp} (e:zH H H') {x:V} {v:fT} (h:oB K H x v):oB K H' x v:=⟨h.1,h.2.tups e⟩
theorem fW.tups {K:aB} {H H':Hp} (e:zH H H') {xs:List V} {vs:List fT} (h:fW K H xs vs):fW K H' xs vs:=Paired.mapP h fun _ _ q=>q.tups e
theorem Sh {K:aB} {H:Hp} {n:Name} {v:fT} (o:VM.mJ v) {r:NN} {xs:List V}:Cb K H (Vatwva.entry n v r) xs↔∃x ys,xs=x::ys∧oB K H x v∧Cb K H r ys:=by
 rcases o.cases with⟨t,rfl⟩ | ⟨z,rfl⟩ | ⟨k,rfl⟩ | ⟨k,rfl⟩
 ·constructor
  ·rintro⟨a,b,c,ys,h1,h2,h3,h4,h5⟩;exact⟨_,ys,h1,⟨rfl,a,b,c,[],rfl,h2,h3,h4,rfl⟩,h5⟩
  ·rintro⟨x,ys,rfl,⟨_,a,b,c,zs,h1,h2,h3,h4,h5⟩,h6⟩;cases h1;exact⟨a,b,c,ys,rfl,h2,h3,h4,h6⟩
 ·constructor
  ·rintro⟨a,c,ys,h1,h2,h3,h4⟩;exact⟨_,ys,h1,⟨rfl,a,c,[],rfl,h2,h3,rfl⟩,h4⟩
  ·rintro⟨x,ys,rfl,⟨_,a,c,zs,h1,h2,h3,h4⟩,h5⟩;cases h1;exact⟨a,c,ys,rfl,h2,h3,h5⟩
 ·constructor
  ·rintro⟨a,b,c,ys,zs,h1,h2,h3,h4,h5,h6⟩;exact⟨_,ys,h1,⟨rfl,a,b,c,[],zs,rfl,h2,h3,h4,h5,rfl⟩,h6⟩
  ·rintro⟨x,ys,rfl,⟨_,a,b,c,ys',zs,h1,h2,h3,h4,h5,h6⟩,h7⟩;cases h1;exact⟨a,b,c,ys,zs,rfl,h2,h3,h4,h5,h7⟩
 ·constructor
  ·rintro⟨a,b,c,ys,zs,h1,h2,h3,h4,h5,h6⟩;exact⟨_,ys,h1,⟨rfl,a,b,c,[],zs,rfl,h2,h3,h4,h5,rfl⟩,h6⟩
  ·rintro⟨x,ys,rfl,⟨_,a,b,c,ys',zs,h1,h2,h3,h4,h5,h6⟩,h7⟩;cases h1;exact⟨a,b,c,ys,zs,rfl,h2,h3,h4,h5,h7⟩
theorem yB {K:aB} {H:Hp}:∀{l:List (Name×fT)} {xs:List V},(∀x∈l,VM.mJ x.2)→(Cb K H (Vatwva.rowOf l) xs↔fW K H xs (l.map fun x=>x.2))
 | [],xs,_=>by
  constructor
  ·intro h;have h:xs=[]:=h;subst h;exact .nil
  ·intro h;cases h;rfl
 | x::l,xs,ho=>by
  have ho':∀y∈l,VM.mJ y.2:=fun y hy=>ho y (aL _ hy);show Cb K H (Vatwva.entry x.1 x.2 (Vatwva.rowOf l)) xs↔_;rw[Sh (n:=x.1) (ho x aM)];constructor
  ·rintro⟨y,ys,rfl,h1,h2⟩;exact .cons h1 ((yB ho').mp h2)
  ·intro h;cases h with
   | cons h1 h2=>exact⟨_,_,rfl,h1,(yB ho').mpr h2⟩
section
variable {K:aB} {H:Hp} {x:V}
theorem TH:oB K H x (Vatwva.vText t)↔∃a b c,x=.ref a∧fE K H a [.str "text",.ref b,.ref c]∧fE K H b (cU t)∧fE K H c []:=by
 constructor
 ·rintro⟨_,a,b,c,ys,h1,h2,h3,h4,h5⟩;cases h1;exact⟨a,b,c,rfl,h2,h3,h4⟩
 ·rintro⟨a,b,c,rfl,h2,h3,h4⟩;exact⟨rfl,a,b,c,[],rfl,h2,h3,h4,rfl⟩
theorem Bh:oB K H x (Vatwva.vNum z)↔∃a c,x=.ref a∧fE K H a [.str "number",.int z,.ref c]∧fE K H c []:=by
 constructor
 ·rintro⟨_,a,c,ys,h1,h2,h3,h4⟩;cases h1;exact⟨a,c,rfl,h2,h3⟩
 ·rintro⟨a,c,rfl,h2,h3⟩;exact⟨rfl,a,c,[],rfl,h2,h3,rfl⟩
theorem OO (ho:∀x∈l,VM.mJ x.2):oB K H x (Vatwva.recordOf l)↔∃a b c zs,x=.ref a∧fE K H a [.str "record",.ref b,.ref c]∧fE K H b (dQ l)∧fE K H c zs∧fW K H zs (l.map fun x=>x.2):=by
 constructor
 ·rintro⟨_,a,b,c,ys,zs,h1,h2,h3,h4,h5,h6⟩;cases h1;have h3:fE K H b (dQ (Vatwva.entries (Vatwva.rowOf l))):=h3;rw[VM.fC l ho]at h3;exact⟨a,b,c,zs,rfl,h2,h3,h4,(yB ho).mp h5⟩
 ·rintro⟨a,b,c,zs,rfl,h2,h3,h4,h5⟩;refine⟨rfl,a,b,c,[],zs,rfl,h2,?_,h4,(yB ho).mpr h5,rfl⟩;show fE K H b (dQ (Vatwva.entries (Vatwva.rowOf l)));rw[VM.fC l ho];exact h3
theorem Fs {l:List fT} (ho:∀x∈l,VM.mJ x):oB K H x (Vatwva.listOf l)↔∃a b c zs,x=.ref a∧fE K H a [.str "list",.ref b,.ref c]∧fE K H b []∧fE K H c zs∧fW K H zs l:=by
 have e:(l.map fun v=>(([]:Name),v)).map (fun x=>x.2)=l:=by rw[cP];exact List.map_id' l
 constructor
 ·rintro⟨_,a,b,c,ys,zs,h1,h2,h3,h4,h5,h6⟩;cases h1;have:=(yB (VM.rZ ho)).mp h5;rw[e]at this;exact⟨a,b,c,zs,rfl,h2,h3,h4,this⟩
 ·rintro⟨a,b,c,zs,rfl,h2,h3,h4,h5⟩;refine⟨rfl,a,b,c,[],zs,rfl,h2,h3,h4,(yB (VM.rZ ho)).mpr ?_,rfl⟩;rw[e];exact h5
def vA (v:fT):Str:=if Vatwva.isRecord v then "record" else if Vatwva.isList v then "list" else if vT v then "number" else "text"
theorem oB.parts {v:fT} (h:oB K H x v):∃a o c zs,x=.ref a∧fE K H a [.str (vA v),o,.ref c]∧fE K H c zs∧fW K H zs ((Vatwva.kidsOf v).map fun x=>x.2):=by
 rcases h.1.cases with⟨t,rfl⟩ | ⟨z,rfl⟩ | ⟨k,rfl⟩ | ⟨k,rfl⟩
 ·obtain⟨a,b,c,rfl,h2,h3,h4⟩:=TH.mp h;exact⟨a,_,c,[],rfl,h2,h4,.nil⟩
 ·obtain⟨a,c,rfl,h2,h3⟩:=Bh.mp h;exact⟨a,_,c,[],rfl,h2,h3,.nil⟩
 ·obtain⟨_,a,b,c,ys,zs,h1,h2,h3,h4,h5,h6⟩:=h;cases h1;refine⟨a,_,c,zs,rfl,h2,h4,?_⟩;have:=yB (K:=K) (H:=H) (xs:=zs) (l:=Vatwva.entries k) (VM.rW k);rw[VM.gI]at this;exact this.mp h5
 ·obtain⟨_,a,b,c,ys,zs,h1,h2,h3,h4,h5,h6⟩:=h;cases h1;refine⟨a,_,c,zs,rfl,h2,h4,?_⟩;have:=yB (K:=K) (H:=H) (xs:=zs) (l:=Vatwva.entries k) (VM.rW k);rw[VM.gI]at this;exact this.mp h5
end
structure mI where
 (xUnreadable xInapplicable xNoDeed cReader cEdit cRow cDesk dEMPTY_RECORD dCHANGES dFORMS dBACKS dCALLS:aQ)
section
variable (K:aB) (mg:Str→Option Value)
abbrev kZ (n:Str) (i:Nat):Prop:=∃f fd,mg n=some (.ref f)∧Gr K n n (top i) f fd
abbrev B0 (C:aQ) (q:Str) (i j:Nat):Prop:=∃f fd,Mk K C f∧Gr K "__init__" q (Km (top i) j) f fd
abbrev Px (C:aQ) (n q:Str) (i j:Nat):Prop:=∃f fd,Gw K C n f∧Gr K n q (Km (top i) j) f fd
abbrev UH (n:Str) (v:V):Prop:=∃u,mg n=some u∧gK v u
abbrev Pq (n:Str) (p:aQ):Prop:=mg n=some (.ref p)
end
structure iJ (K:aB) (mg:Str→Option Value) (a:mI):Prop where
 f_text_value:kZ K mg "text_value" 18
 f_number_value:kZ K mg "number_value" 19
 f_record_value:kZ K mg "record_value" 20
 f_list_value:kZ K mg "list_value" 21
 f_kind_of:kZ K mg "kind_of" 22
 f_own_of:kZ K mg "own_of" 23
 f_parts_of:kZ K mg "parts_of" 24
 f_count_entries:kZ K mg "count_entries" 25
 f_depth_of:kZ K mg "depth_of" 26
 f_most_parts_in:kZ K mg "most_parts_in" 27
 f_keeps_within:kZ K mg "keeps_within" 28
 f_is_value:kZ K mg "is_value" 29
 f_may_be_on_the_way:kZ K mg "may_be_on_the_way" 30
 f_require:kZ K mg "require" 32
 f_with_more:kZ K mg "with_more" 33
 f_without:kZ K mg "without" 34
 f_with_other:kZ K mg "with_other" 35
 f_items_of:kZ K mg "items_of" 36
 f_names_of:kZ K mg "names_of" 37
 f_item_place:kZ K mg "item_place" 38
 f_field_place:kZ K mg "field_place" 39
 f_set_here:kZ K mg "set_here" 40
 f_put_here:kZ K mg "put_here" 41
 f_take_here:kZ K mg "take_here" 42
 f_move_here:kZ K mg "move_here" 43
 f_add_here:kZ K mg "add_here" 44
 f_drop_here:kZ K mg "drop_here" 45
 f_rename_here:kZ K mg "rename_here" 46
 f_step_place:kZ K mg "step_place" 48
 f_value_at:kZ K mg "value_at" 49
 f_with_part:kZ K mg "with_part" 50
 f_applied:kZ K mg "applied" 51
 f_value_made_by_row:kZ K mg "value_made_by_row" 52
 f_value_made:kZ K mg "value_made" 53
 f_word_sign:kZ K mg "word_sign" 61
 f_as_name:kZ K mg "as_name" 62
 f_as_count:kZ K mg "as_count" 63
 f_read_name:kZ K mg "read_name" 64
 f_read_count:kZ K mg "read_count" 65
 f_read_number:kZ K mg "read_number" 66
 f_read_marked_sign:kZ K mg "read_marked_sign" 67
 f_read_text:kZ K mg "read_text" 68
 f_read_record:kZ K mg "read_record" 69
 f_read_list:kZ K mg "read_list" 70
 f_read_part:kZ K mg "read_part" 71
 f_read_value:kZ K mg "read_value" 72
 f_value_from:kZ K mg "value_from" 73
 f_bytes_of:kZ K mg "bytes_of" 75
 f_joined:kZ K mg "joined" 76
 f_in_marks:kZ K mg "in_marks" 77
 f_field_text:kZ K mg "field_text" 78
 f_value_text:kZ K mg "value_text" 79
 f_as_step:kZ K mg "as_step" 87
 f_read_path:kZ K mg "read_path" 88
 f_read_detail:kZ K mg "read_detail" 89
 f_edit_from:kZ K mg "edit_from" 90
 f_edits_from:kZ K mg "edits_from" 91
 f_step_text:kZ K mg "step_text" 92
 f_path_text:kZ K mg "path_text" 93
 f_detail_text:kZ K mg "detail_text" 94
 f_edit_text:kZ K mg "edit_text" 95
 f_edit_cost:kZ K mg "edit_cost" 98
 f_cost_of:kZ K mg "cost_of" 99
 f_row_of:kZ K mg "row_of" 100
 f_row_then:kZ K mg "row_then" 101
 f_led_by:kZ K mg "led_by" 103
 f_record_row:kZ K mg "record_row" 104
 f_ways_on:kZ K mg "ways_on" 105
 f_list_row:kZ K mg "list_row" 106
 f_least_row:kZ K mg "least_row" 107
 f_back_of_set:kZ K mg "back_of_set" 109
 f_back_of_put:kZ K mg "back_of_put" 110
 f_back_of_take:kZ K mg "back_of_take" 111
 f_back_of_move:kZ K mg "back_of_move" 112
 f_back_of_add:kZ K mg "back_of_add" 113
 f_back_of_drop:kZ K mg "back_of_drop" 114
 f_back_of_rename:kZ K mg "back_of_rename" 115
 f_turned_back:kZ K mg "turned_back" 117
 f_measures:kZ K mg "measures" 120
 f_counted:kZ K mg "counted" 121
 f_answer_value:kZ K mg "answer_value" 122
 f_answer_other:kZ K mg "answer_other" 123
 f_answer_show:kZ K mg "answer_show" 124
 f_answer_edit:kZ K mg "answer_edit" 125
 f_answer_rows:kZ K mg "answer_rows" 126
 f_answer_try:kZ K mg "answer_try" 127
 f_answer_back:kZ K mg "answer_back" 128
 f_answer_cost:kZ K mg "answer_cost" 129
 f_answer_diff:kZ K mg "answer_diff" 130
 f_answer_meet:kZ K mg "answer_meet" 131
 f_answer_commute:kZ K mg "answer_commute" 132
 f_answer_undo:kZ K mg "answer_undo" 133
 f_answer_redo:kZ K mg "answer_redo" 134
 f_answer_size:kZ K mg "answer_size" 135
 f_answer_of:kZ K mg "answer_of" 137
 f_answers:kZ K mg "answers" 138
 c_TEXT:UH mg "TEXT" (.str "text")
 c_NUMBER:UH mg "NUMBER" (.str "number")
 c_RECORD:UH mg "RECORD" (.str "record")
 c_LIST:UH mg "LIST" (.str "list")
 c_MOST_SIGNS:UH mg "MOST_SIGNS" (.int 30)
 c_MOST_NUMBER:UH mg "MOST_NUMBER" (.int 1000000000)
 c_MOST_NAME_BYTES:UH mg "MOST_NAME_BYTES" (.int 10)
 c_MOST_DEEP:UH mg "MOST_DEEP" (.int 6)
 c_MOST_PARTS:UH mg "MOST_PARTS" (.int 12)
 c_MOST_ENTRIES:UH mg "MOST_ENTRIES" (.int 60)
 c_MOST_PARTS_ON_THE_WAY:UH mg "MOST_PARTS_ON_THE_WAY" (.int 24)
 c_MOST_ENTRIES_ON_THE_WAY:UH mg "MOST_ENTRIES_ON_THE_WAY" (.int 120)
 c_END:UH mg "END" (.int (-1))
 c_FIRST_SIGN:UH mg "FIRST_SIGN" (.int 32)
 c_LAST_SIGN:UH mg "LAST_SIGN" (.int 126)
 c_SMALL_LETTERS:UH mg "SMALL_LETTERS" (.str "abcdefghijklmnopqrstuvwxyz")
 c_DIGITS:UH mg "DIGITS" (.str "0123456789")
 c_LINE_END:UH mg "LINE_END" (.int 10)
 c_PLACE:UH mg "PLACE" (.str "place")
 c_NAME:UH mg "NAME" (.str "name")
 c_VALUE:UH mg "VALUE" (.str "value")
 n_enumerate:mg "enumerate"=none
 n_int:mg "int"=none
 n_isinstance:mg "isinstance"=none
 n_len:mg "len"=none
 n_max:mg "max"=none
 n_min:mg "min"=none
 n_ord:mg "ord"=none
 n_range:mg "range"=none
 n_reversed:mg "reversed"=none
 n_str:mg "str"=none
 n_sum:mg "sum"=none
 n_tuple:mg "tuple"=none
 n_zip:mg "zip"=none
 x_Unreadable:Pq mg "Unreadable" a.xUnreadable∧yR K a.xUnreadable=true
 x_Inapplicable:Pq mg "Inapplicable" a.xInapplicable∧yR K a.xInapplicable=true
 x_NoDeed:Pq mg "NoDeed" a.xNoDeed∧yR K a.xNoDeed=true
 d_EMPTY_RECORD:Pq mg "EMPTY_RECORD" a.dEMPTY_RECORD
 d_CHANGES:Pq mg "CHANGES" a.dCHANGES
 d_FORMS:Pq mg "FORMS" a.dFORMS
 d_BACKS:Pq mg "BACKS" a.dBACKS
 d_CALLS:Pq mg "CALLS" a.dCALLS
 k_Reader:Pq mg "Reader" a.cReader
 q_Reader:Br K a.cReader
 mk_Reader:B0 K a.cReader "Reader.__init__" 60 0
 na_Reader_place:nM K a.cReader "place"
 na_Reader_text:nM K a.cReader "text"
 m_Reader_ahead:Px K a.cReader "ahead" "Reader.ahead" 60 1
 m_Reader_ended:Px K a.cReader "ended" "Reader.ended" 60 2
 m_Reader_pass_byte:Px K a.cReader "pass_byte" "Reader.pass_byte" 60 3
 m_Reader_meets:Px K a.cReader "meets" "Reader.meets" 60 4
 m_Reader_expect:Px K a.cReader "expect" "Reader.expect" 60 5
 m_Reader_pass_word:Px K a.cReader "pass_word" "Reader.pass_word" 60 6
 k_Edit:Pq mg "Edit" a.cEdit
 q_Edit:Br K a.cEdit
 mk_Edit:B0 K a.cEdit "Edit.__init__" 86 0
 na_Edit_details:nM K a.cEdit "details"
 na_Edit_path:nM K a.cEdit "path"
 na_Edit_word:nM K a.cEdit "word"
 k_Row:Pq mg "Row" a.cRow
 q_Row:Br K a.cRow
 mk_Row:B0 K a.cRow "Row.__init__" 97 0
 na_Row_cost:nM K a.cRow "cost"
 na_Row_edits:nM K a.cRow "edits"
 k_Desk:Pq mg "Desk" a.cDesk
 q_Desk:Br K a.cDesk
 mk_Desk:B0 K a.cDesk "Desk.__init__" 119 0
 na_Desk_other:nM K a.cDesk "other"
 na_Desk_redoable:nM K a.cDesk "redoable"
 na_Desk_undoable:nM K a.cDesk "undoable"
 na_Desk_value:nM K a.cDesk "value"
 m_Desk_begin_with:Px K a.cDesk "begin_with" "Desk.begin_with" 119 1
 m_Desk_do_deed:Px K a.cDesk "do_deed" "Desk.do_deed" 119 2
 m_Desk_undo_deed:Px K a.cDesk "undo_deed" "Desk.undo_deed" 119 3
 m_Desk_redo_deed:Px K a.cDesk "redo_deed" "Desk.redo_deed" 119 4
 m_Desk_deed_counts:Px K a.cDesk "deed_counts" "Desk.deed_counts" 119 5
section
variable {K:aB} {h:gC} {mg:Str→Option Value}
theorem Wv {x:Str} {st:yL} {f:aQ} {oc:Value} {od an:Option aQ} {osl:Array (Option Value)} {kV doc pm cdv ct:Value} (X:K.In h) (G:h.Ns jR mg) (e:IP K jR x=some (some (.ref f))) (l:K.lookup f=some ⟨oc,od,.func (kK x x (vY st) (uO st) (gW st) .none kV doc pm an cdv ct),osl⟩) (c:sO K cdv x=true) (k:gG K (.ref f)=true):∃f fd,mg x=some (.ref f)∧Gr K x x st f fd:=⟨f,_,PySem.W.mg_of X G e,Hn l c k⟩
theorem Wu (X:K.In h) (G:h.Ns jR mg) (e:IP K jR x=some (some u)) (r:gK v u):∃u,mg x=some u∧gK v u:=⟨u,PySem.W.mg_of X G e,r⟩
theorem Wt (X:K.In h) (G:h.Ns jR mg) (e:IP K jR x=some none):mg x=none:=PySem.W.mg_none_of X G e
theorem Ug {qual:Str} {st:yL} {C f:aQ} {oc:Value} {od an:Option aQ} {osl:Array (Option Value)} {kV doc pm cdv ct:Value} (m:NI K C=true) (a:iA K (.ref C) "__init__"=some (some (.ref f))) (i:AF K (.ref f)=true) (kc:gG K (.ref C)=true) (l:K.lookup f=some ⟨oc,od,.func (kK "__init__" qual (vY st) (uO st) (gW st) .none kV doc pm an cdv ct),osl⟩) (c:sO K cdv qual=true) (k:gG K (.ref f)=true):∃f fd,Mk K C f∧Gr K "__init__" qual st f fd:=⟨f,_,⟨m,a,i,kc⟩,Hn l c k⟩
theorem Uh {x qual:Str} {st:yL} {C f:aQ} {oc:Value} {od an:Option aQ} {osl:Array (Option Value)} {kV doc pm cdv ct:Value} (a:iA K (.ref C) x=some (some (.ref f))) (i:AF K (.ref f)=true) (l:K.lookup f=some ⟨oc,od,.func (kK x qual (vY st) (uO st) (gW st) .none kV doc pm an cdv ct),osl⟩) (c:sO K cdv qual=true) (k:gG K (.ref f)=true):∃f fd,Gw K C x f∧Gr K x qual st f fd:=⟨f,_,⟨a,i,k⟩,Hn l c k⟩
end
end My
end
section
namespace My
open PySem PySem.Spec PyProof.Rows L2
open PySem.W (Frag)
open Vatwva (Text Name)
open Vatwvc (Edit State Found cheaper andThen)
open VM (cG jV kD jF uG kN KD dI cT qZ NL rF MV oS uH pK qI wA gQ CB KG SG mV)
variable {P:Program} {w:World} {K:Frag} {mg:Str→Option Value} {base:Heap} {a:mI}
def sR (K:aB) (H:Hp) (v:fT) (Q:VK):Prop:=∀H' x,aZ H H'→oB K H' x v→Q x H'
section
variable {n q:Str} {st:yL} {ps:List Str} {k:Nat} {sp:Sp} {C:aQ}
theorem kI (F:∃f fd,mg n=some (.ref f)∧Gr K n n st f fd) (N:List Str) (h:A9 P w K mg base N ps sp k n st) (S:EK N ps (gW st):=by exact⟨rfl,rfl,rfl,by decide+kernel,rfl,by decide+kernel,by decide+kernel⟩) (b:C0 n n st ps:=by
  intro _ _ _ _ _ _ us hl;first | exact(match us,hl with | [_],_=>rfl) | exact(match us,hl with | [_,_],_=>rfl) | exact(match us,hl with | [_,_,_],_=>rfl) | exact(match us,hl with | [_,_,_,_],_=>rfl) | exact(match us,hl with | [_,_,_,_,_],_=>rfl)):gV P w K mg base (k+1) n ps sp:=
 let ⟨f,fd,hm,F⟩:=F;⟨f,fd,hm,F.kp,F.binds b,F.okY S h⟩
end
def VF (K:aB):Sp:=fun vs H Q _=>∃(l:aQ) (t:bW),vs=[.ref l]∧gX K H l (cU t)∧sR K H (Vatwva.vText t) Q
theorem UT (T:iJ K mg a):gV P w K mg base 1 "text_value" ["signs"] (VF K):=by refine kI T.f_text_value ["signs"] fun vs H Q E h=>?_;obtain⟨l,t,rfl,hS,k⟩:=h;refine⟨rfl,fun nd _ _ _ _ _ hr=>?_⟩;obtain⟨u,hm,ru⟩:=T.c_TEXT;refine⟨_,aN (bG (iP (aA (dM rfl hm ru) (aA (lK FV rfl T.n_tuple (by decide+kernel) (aA (pv 0) aD)) (aA (iP aD) aD))))),?_⟩;refine⟨_,rfl,l,_,rfl,.inl ⟨hS,fun b hb=>⟨aY _,fun c hc=>⟨(by show 3≤aU;decide),fun p hp=>?_⟩⟩⟩⟩;have s1:=aZ.upd (o:=.tup (cU t)) hb;have s2:=aZ.upd (o:=.tup []) hc;have s3:=aZ.upd (o:=.tup [.str "text",.ref b,.ref c]) hp;exact k _ _ ((s1.trans s2).trans s3) (TH.mpr ⟨p,b,c,rfl,.of' aG,(s2.trans s3).sqT (.of' aG),s3.sqT (.of' aG)⟩)
def NW (K:aB):Sp:=fun vs H Q _=>∃z:Int,vs=[.int z]∧sR K H (Vatwva.vNum z) Q
theorem NU (T:iJ K mg a):gV P w K mg base 1 "number_value" ["number"] (NW K):=by refine kI T.f_number_value ["number"] fun vs H Q E h=>?_;obtain⟨z,rfl,k⟩:=h;refine⟨rfl,fun nd _ _ _ _ _ hr=>?_⟩;obtain⟨u,hm,ru⟩:=T.c_NUMBER;refine⟨_,aN (bG (iP (aA (dM rfl hm ru) (aA (pv 0) (aA (iP aD) aD))))),?_⟩;refine⟨_,rfl,aY _,fun c hc=>⟨(by show 3≤aU;decide),fun p hp=>?_⟩⟩;have s2:=aZ.upd (o:=.tup []) hc;have s3:=aZ.upd (o:=.tup [.str "number",.int z,.ref c]) hp;exact k _ _ (s2.trans s3) (Bh.mpr ⟨p,c,rfl,.of' aG,s3.sqT (.of' aG)⟩)
def Xv (K:aB) (H:Hp) (p:aQ) (xs:List V):Prop:=gX K H p xs∨fE K H p xs
theorem aZ.sq (e:aZ H H') (h:Xv K H p xs):Xv K H' p xs:=h.elim (fun z=>.inl (e.seq z)) fun z=>.inr (e.sqT z)
theorem EB:CW X (.type "tuple") (fun xs H Q=>∃p ys,xs=[.ref p]∧Xv X.K H p ys∧∀l H',aZ H H'→fE X.K H' l ys→Q (.ref l) H'):=by
 intro pins s σ H xs us Q I r h;obtain⟨p,ys,rfl,hS,k⟩:=h;refine FV pins s σ H _ us Q I r ⟨p,ys,rfl,?_⟩;rcases hS with hS | hS
 ·exact .inl ⟨hS,fun l hl=>k l _ (aZ.upd hl) (.of' aG)⟩
 ·exact .inr ⟨hS,k p H (aZ.refl H) hS⟩
def NX (K:aB):Sp:=fun vs H Q _=>∃(n p:aQ) (l:List (Name×fT)) (zs:List V),vs=[.ref n,.ref p]∧Xv K H n (dQ l)∧Xv K H p zs∧fW K H zs (l.map fun x=>x.2)∧sR K H (Vatwva.recordOf l) Q
theorem fW.ones (h:fW K H zs vs):∀v∈vs,VM.mJ v:=by
 induction h with
 | nil=>intro v hv;cases hv
 | cons r _ ih=>
  intro v hv;rcases aT.mp hv with rfl | hv
  ·exact r.1
  ·exact ih v hv
theorem oC (T:iJ K mg a):gV P w K mg base 1 "record_value" ["names","parts"] (NX K):=by refine kI T.f_record_value ["names","parts"] fun vs H Q E h=>?_;obtain⟨n,p,l,zs,rfl,hn,hp,hv,k⟩:=h;refine⟨rfl,fun nd _ _ _ _ _ hr=>?_⟩;obtain⟨u,hm,ru⟩:=T.c_RECORD;refine⟨_,aN (bG (iP (aA (dM rfl hm ru) (aA (lK EB rfl T.n_tuple (by decide+kernel) (aA (pv 0) aD)) (aA (lK EB rfl T.n_tuple (by decide+kernel) (aA (pv 1) aD)) aD))))),?_⟩;refine⟨_,rfl,n,_,rfl,hn,fun b H1 s1 hb=>⟨_,rfl,p,_,rfl,aZ.sq s1 hp,fun c H2 s2 hc=>⟨(by show 3≤aU;decide),fun q hq=>?_⟩⟩⟩;have s3:=aZ.upd (o:=.tup [.str "record",.ref b,.ref c]) hq;have ho:∀x∈l,VM.mJ x.2:=fun x hx=>hv.ones x.2 (aX.mpr ⟨x,hx,rfl⟩);exact k _ _ ((s1.trans s2).trans s3) ((OO ho).mpr ⟨q,b,c,zs,rfl,.of' aG,(s2.trans s3).sqT hb,s3.sqT hc,hv.tups ((s1.trans s2).trans s3).tups⟩)
def VA (K:aB):Sp:=fun vs H Q _=>∃(p:aQ) (l:List fT) (zs:List V),vs=[.ref p]∧Xv K H p zs∧fW K H zs l∧sR K H (Vatwva.listOf l) Q
theorem qR (T:iJ K mg a):gV P w K mg base 1 "list_value" ["parts"] (VA K):=by refine kI T.f_list_value ["parts"] fun vs H Q E h=>?_;obtain⟨p,l,zs,rfl,hp,hv,k⟩:=h;refine⟨rfl,fun nd _ _ _ _ _ hr=>?_⟩;obtain⟨u,hm,ru⟩:=T.c_LIST;refine⟨_,aN (bG (iP (aA (dM rfl hm ru) (aA (iP aD) (aA (lK EB rfl T.n_tuple (by decide+kernel) (aA (pv 0) aD)) aD))))),?_⟩;refine⟨aY _,fun b hb=>⟨_,rfl,p,_,rfl,aZ.sq (aZ.upd hb) hp,fun c H2 s2 hc=>⟨(by show 3≤aU;decide),fun q hq=>?_⟩⟩⟩;have s1:=aZ.upd (o:=.tup []) hb;have s3:=aZ.upd (o:=.tup [.str "list",.ref b,.ref c]) hq;exact k _ _ ((s1.trans s2).trans s3) ((Fs hv.ones).mpr ⟨q,b,c,zs,rfl,.of' aG,(s2.trans s3).sqT (.of' aG),s3.sqT hc,hv.tups ((s1.trans s2).trans s3).tups⟩)
def Ap (i:Nat) (K:aB):Sp:=fun vs H Q _=>∃(p:aQ) (xs:List V) (v:V),vs=[.ref p]∧fE K H p xs∧xs[i]?=some v∧Q v H
theorem mC (T:iJ K mg a):gV P w K mg base 1 "kind_of" ["value"] (Ap 0 K):=by refine kI T.f_kind_of ["value"] fun vs H Q E h=>?_;obtain⟨p,xs,v,rfl,hS,hv,k⟩:=h;refine⟨rfl,fun nd _ _ _ _ _ hr=>?_⟩;exact⟨_,aN (bG (fL fQ (pv 0) cA (fun _ _=>rfl))),_,rfl,p,_,_,_,rfl,rfl,hS,fZ (j:=0) hv,k⟩
theorem rY (T:iJ K mg a):gV P w K mg base 1 "own_of" ["value"] (Ap 1 K):=by refine kI T.f_own_of ["value"] fun vs H Q E h=>?_;obtain⟨p,xs,v,rfl,hS,hv,k⟩:=h;refine⟨rfl,fun nd _ _ _ _ _ hr=>?_⟩;exact⟨_,aN (bG (fL fQ (pv 0) cA (fun _ _=>rfl))),_,rfl,p,_,_,_,rfl,rfl,hS,fZ (j:=1) hv,k⟩
theorem eR (T:iJ K mg a):gV P w K mg base 1 "parts_of" ["value"] (Ap 2 K):=by refine kI T.f_parts_of ["value"] fun vs H Q E h=>?_;obtain⟨p,xs,v,rfl,hS,hv,k⟩:=h;refine⟨rfl,fun nd _ _ _ _ _ hr=>?_⟩;exact⟨_,aN (bG (fL fQ (pv 0) cA (fun _ _=>rfl))),_,rfl,p,_,_,_,rfl,rfl,hS,fZ (j:=2) hv,k⟩
def Pu (H:Hp) (z:Int) (Q:VK):Prop:=∀H',aZ H H'→Q (.int z) H'
theorem fW.get:∀{zs:List V} {vs:List fT} {i:Nat} {x:V},fW K H zs vs→zs[i]?=some x→∃v,vs[i]?=some v∧oB K H x v
 | _,_,_,_,.nil,e=>by simp at e
 | _,_,0,_,.cons r _,e=>by simp at e;subst e;exact⟨_,rfl,r⟩
 | _,_,i+1,x,.cons _ t,e=>by obtain⟨v,h1,h2⟩:=fW.get (i:=i) (x:=x) t (by simpa using e);exact⟨v,by simpa using h1,h2⟩
theorem fW.length (h:fW K H zs vs):zs.length=vs.length:=GU h
theorem iY {α:Type} {l:List α} {i:Nat} {x:α} (h:l[i]?=some x):l.take (i+1)=l.take i++[x]:=by rw[VR,h];rfl
def bD (v:fT):List fT:=(Vatwva.kidsOf v).map fun x=>x.2
theorem EN (o:VM.mJ v) (h:p∈bD v):Vatwva.deep p+1≤Vatwva.deep v:=by
 rcases o.cases with⟨t,rfl⟩ | ⟨z,rfl⟩ | ⟨k,rfl⟩ | ⟨k,rfl⟩
 ·cases h
 ·cases h
 ·obtain⟨x,hx,rfl⟩:=aX.mp h;show _≤max (Vatwva.deep k+1) 0;rw[VM.jM k];have:=VM.pT.mp (aR (VM.pS ((Vatwva.entries k).map fun x=>Vatwva.deep x.2))) _ (aX.mpr ⟨x,hx,rfl⟩);omega
 ·obtain⟨x,hx,rfl⟩:=aX.mp h;show _≤max (Vatwva.deep k+1) 0;rw[VM.jM k];have:=VM.pT.mp (aR (VM.pS ((Vatwva.entries k).map fun x=>Vatwva.deep x.2))) _ (aX.mpr ⟨x,hx,rfl⟩);omega
theorem uW (o:VM.mJ v):Vatwva.count v=1+((bD v).map Vatwva.count).sum:=by
 rcases o.cases with⟨t,rfl⟩ | ⟨z,rfl⟩ | ⟨k,rfl⟩ | ⟨k,rfl⟩
 ·rfl
 ·rfl
 ·show 1+Vatwva.count k+0=_;rw[VM.kP k];unfold bD;rw[cP];rfl
 ·show 1+Vatwva.count k+0=_;rw[VM.kP k];unfold bD;rw[cP];rfl
theorem Hg (o:VM.mJ v):Vatwva.deep v=VM.pS ((bD v).map Vatwva.deep)+1:=by
 rcases o.cases with⟨t,rfl⟩ | ⟨z,rfl⟩ | ⟨k,rfl⟩ | ⟨k,rfl⟩
 ·rfl
 ·rfl
 ·show max (Vatwva.deep k+1) 0=_;rw[VM.jM k,qM];unfold bD;rw[cP];rfl
 ·show max (Vatwva.deep k+1) 0=_;rw[VM.jM k,qM];unfold bD;rw[cP];rfl
theorem wP (o:VM.mJ v) (h:p∈bD v):Vatwva.count p+1≤Vatwva.count v:=by rw[uW o];have:=VM.LK h;omega
theorem zR (o:VM.mJ v):(bD v).length+1≤Vatwva.count v:=by
 rw[uW o];have:∀l:List fT,(∀x∈l,VM.mJ x)→l.length≤(l.map Vatwva.count).sum:=by
  intro l;induction l with
  | nil=>intro _;simp
  | cons x l ih=>intro h;rw[aP,dU,aK];have h1:=VM.EM (h x aM);have h2:=ih fun y hy=>h y (aL _ hy);omega
 have:=this (bD v) (fun x hx=>by obtain⟨y,hy,rfl⟩:=aX.mp hx;exact VM.mQ y hy);omega
def Aq (f:fT→Nat) (K:aB) (d:Nat):Sp:=fun vs H Q _=>∃(x:V) (v:fT),vs=[x]∧oB K H x v∧Vatwva.deep v≤d∧Vatwva.count v≤10000∧Pu H (f v) Q
theorem ZF {f:fT→Nat} {d:Nat} {c D:aQ} {zs:List V} {ps:List fT} {H1:Hp} {σ:L2.St} {Qd:Hp→Prop} {i:Nat} (hi:i < σ.length) (hD:H1 D=none) (hc:fE K H1 c zs) (hv:fW K H1 zs ps)
  (hd:∀p∈ps,Vatwva.deep p≤d) (hn:∀p∈ps,Vatwva.count p≤10000) (hl:ps.length≤10000) (k:∀H,aZ H1 H→H D=some (.lst (ps.map fun v=>V.int (f v)))→Qd H):
  ∃W:Nat→Nat→Hp→Prop,(∃m,W 0 m (upd H1 D (.lst [])))∧∀j m H,W j m H→
   ((Pw K c).stop j H∧Qd H)∨((Pw K c).go j H∧∃Nx:Hp→Prop,(∀H',Nx H'→∃m',m' < m∧W (j+1) m' H')∧∀x H',(Pw K c).yld j H x H'→QJ i x (nD σ [i]) H' fun σ2 H2=>nD σ2 [i]=nD σ [i]∧A8 σ2 H2 fun b H3=>if b=true then Lj (Aq f K d) [] E0 (XO (Jb i) Fj) σ2 H3 fun y H4=>∃acc,H4 D=some (.lst acc)∧acc.length < aU∧Nx (upd H4 D (.lst (acc++[y])))else Nx H3):=by
 have hlen:=hv.length;refine Hy (xs:=zs) (fun j H=>aZ H1 H∧H D=some (.lst ((ps.take j).map fun v=>V.int (f v)))) ⟨aZ.upd hD,aG⟩ (fun j H _ h=>h.1.sqT hc) (fun j x H hx h=>?_) (fun H h=>k H h.1 ?_)
 ·obtain⟨v,hv1,hv2⟩:=hv.get hx;have mv:v∈ps:=bA hv1;have hj:j < ps.length:=(aS.mp hv1).1;refine⟨?_,?_⟩
  rotate_left
  ·refine sY (B:=aZ H1 H∧H D=some (.lst ((ps.take (j+1)).map fun v=>V.int (f v)))) ⟨x,?_,x,v,rfl,hv2.tups h.1.tups,hd v mv,hn v mv,fun H' s'=>⟨_,s' _ _ h.2,?_,?_,?_⟩⟩
   ·show((σ.set i none).set i (some x))[i]?=some (some x);rw[MB,oJ hi]
   ·rw[aJ,bJ];exact gP (Nat.min_le_right _ _) (gP hl (by decide))
   ·intro b o e;rw[bK (dL e hD)];exact s' b o (h.1 b o e)
   ·rw[aG,iY hv1,aW];rfl
  ·show((σ.set i none).set i (some x)).set i none=σ.set i none;rw[MB,MB]
 ·rw[hlen,cN]at h;exact h.2
theorem kW (T:iJ K mg a):∀d:Nat,gV P w K mg base (d+2) "count_entries" ["value"] (Aq Vatwva.count K d)
 | 0=>by refine kI T.f_count_entries ["value","part"] fun vs H Q E h=>?_;obtain⟨x,v,rfl,hx,hd,_⟩:=h;refine⟨rfl,fun nd _ _ _ _ _ hr=>?_⟩;exact absurd (VM.qO hx.1) (by omega)
 | d+1=>by
  have ih:=kW T d;refine kI T.f_count_entries ["value","part"] fun vs H Q E h=>?_;obtain⟨x,v,rfl,hx,hd,hn,k⟩:=h;refine⟨rfl,fun nd _ _ _ _ _ hr=>?_⟩;refine⟨_,aN (bG (jZ uD cA (cX (Qc rfl) rfl T.n_sum (by decide+kernel) (aA (XC rfl nd (BG (bB (eR T) (hr.mono (by omega)) ⟨rfl,rfl,rfl⟩ (aA (pv 0) aD))) (uU (own:=[("part",1)]) (by rfl)) (fun _ _ _ _ _=>eY (i:=1) nd rfl (bP rfl)) (fun _ _ _ _ _=>xZ) (fun _ _ _ _ _=>LP ih hr (aA (pv 1) aD))) aD)))),?_⟩;obtain⟨p,o,c,zs,rfl,h1,h2,h3⟩:=hx.parts;have h3:fW K H zs (bD v):=h3;refine⟨_,rfl,p,_,_,rfl,h1,rfl,c,rfl,⟨_,h2⟩,fun D hD=>?_⟩;refine ZF (by show 1 < 2;decide) hD h2 h3 (fun q hq=>?_) (fun q hq=>?_) ?_ (fun H' s' hl=>?_)
  ·have:=EN hx.1 hq;omega
  ·have:=wP hx.1 hq;omega
  ·have:(bD v).length+1≤_:=zR hx.1;omega
  ·refine⟨D,(bD v).map fun v=>(Vatwva.count v:Int),rfl,?_,_,_,rfl,rfl,?_⟩
   ·rw[cP];exact gX.of hl
   ·have e:(1:Int)+((bD v).map fun v=>(Vatwva.count v:Int)).sum=(Vatwva.count v:Int):=by
     rw[uW hx.1];have:∀l:List fT,(l.map fun v=>(Vatwva.count v:Int)).sum=(((l.map Vatwva.count).sum:Nat):Int):=by
      intro l;induction l with
      | nil=>rfl
      | cons x l ih=>rw[aP,dU,aP,dU,ih];omega
     rw[this];omega
    show Q (.int (1+((bD v).map fun v=>(Vatwva.count v:Int)).sum)) H';rw[e];exact k H' s'
def qK:NN→Nat
 | .nil=>0
 | .text _ _ r=>qK r
 | .num _ _ r=>qK r
 | .sub _ _ k r=>max (max (Vatwva.entries k).length (qK k)) (qK r)
theorem tJ:∀r:NN,qK r=VM.pS ((Vatwva.entries r).map fun x=>qK x.2)
 | .nil=>rfl
 | .text n t r=>by show qK r=max (qK (Vatwva.vText t)) (VM.pS _);rw[←tJ r];show _=max 0 _;omega
 | .num n z r=>by show qK r=max (qK (Vatwva.vNum z)) (VM.pS _);rw[←tJ r];show _=max 0 _;omega
 | .sub n l k r=>by show max (max (Vatwva.entries k).length (qK k)) (qK r)=max (qK (.sub [] l k .nil)) (VM.pS _);rw[←tJ r];show _=max (max (max (Vatwva.entries k).length (qK k)) 0) (qK r);rw[qM]
theorem HZ (o:VM.mJ v):qK v=max (bD v).length (VM.pS ((bD v).map qK)):=by
 rcases o.cases with⟨t,rfl⟩ | ⟨z,rfl⟩ | ⟨k,rfl⟩ | ⟨k,rfl⟩
 ·rfl
 ·rfl
 ·show max (max (Vatwva.entries k).length (qK k)) 0=_;rw[tJ k,qM];unfold bD;rw[cP,aJ];rfl
 ·show max (max (Vatwva.entries k).length (qK k)) 0=_;rw[tJ k,qM];unfold bD;rw[cP,aJ];rfl
theorem EU (h:VM.eB W v):qK v≤W'↔VM.eB W' v:=by
 refine VM.eB.ind (P:=fun v=>qK v≤W'↔VM.eB W' v) ?_ ?_ ?_ ?_ h
 ·intro t ht;exact⟨fun _=>VM.ET.mpr ht,fun _=>aY _⟩
 ·intro z hz;exact⟨fun _=>VM.JK.mpr hz,fun _=>aY _⟩
 ·intro l hl hd hn hp;have ho:∀x∈l,VM.mJ x.2:=fun x hx=>(hn x hx).2.1;rw[VM.zO ho,HZ (VM.pV l)];have e:bD (Vatwva.recordOf l)=l.map fun x=>x.2:=by unfold bD;rw[VM.oN ho]
  rw[e,aJ,Nat.max_le,VM.pT];constructor
  ·rintro⟨a,b⟩;exact⟨a,hd,fun x hx=>⟨(hn x hx).1,(hp x hx).mp (b _ (aX.mpr ⟨x.2,aX.mpr ⟨x,hx,rfl⟩,rfl⟩))⟩⟩
  ·rintro⟨a,_,c⟩;refine⟨a,fun y hy=>?_⟩;obtain⟨z,hz,rfl⟩:=aX.mp hy;obtain⟨x,hx,rfl⟩:=aX.mp hz;exact(hp x hx).mpr (c x hx).2
 ·intro l hl hn hp;have ho:∀x∈l,VM.mJ x:=fun x hx=>(hn x hx).1;rw[VM.rX ho,HZ (VM.uC l)];have e:bD (Vatwva.listOf l)=l:=by unfold bD;exact VM.lO ho
  rw[e,Nat.max_le,VM.pT];constructor
  ·rintro⟨a,b⟩;exact⟨a,fun x hx=>(hp x hx).mp (b _ (aX.mpr ⟨x,hx,rfl⟩))⟩
  ·rintro⟨a,c⟩;refine⟨a,fun y hy=>?_⟩;obtain⟨x,hx,rfl⟩:=aX.mp hy;exact(hp x hx).mpr (c x hx)
theorem GA:∀l:List Nat,l≠[]→L2.qP (l.map fun(n:Nat)=>(n:Int))=(VM.pS l:Int)
 | [],h=>absurd rfl h
 | a::l,_=>by
  have:∀(l:List Nat) (b:Nat),(l.map fun(n:Nat)=>(n:Int)).foldl max (b:Int)=((max b (VM.pS l):Nat):Int):=by
   intro l;induction l with
   | nil=>intro b;show(b:Int)=((max b 0:Nat):Int);omega
   | cons c l ih=>
    intro b;rw[aP,lW];have e:max (b:Int) (c:Int)=((max b c:Nat):Int):=by omega
    rw[e,ih];show _=((max b (max c (VM.pS l)):Nat):Int);omega
  exact this l a
theorem DO (T:iJ K mg a):∀d:Nat,gV P w K mg base (d+2) "depth_of" ["value"] (Aq Vatwva.deep K d)
 | 0=>by refine kI T.f_depth_of ["value","part"] fun vs H Q E h=>?_;obtain⟨x,v,rfl,hx,hd,_⟩:=h;refine⟨rfl,fun nd _ _ _ _ _ hr=>?_⟩;exact absurd (VM.qO hx.1) (by omega)
 | d+1=>by
  have ih:=DO T d;refine kI T.f_depth_of ["value","part"] fun vs H Q E h=>?_;obtain⟨x,v,rfl,hx,hd,hn,k⟩:=h;refine⟨rfl,fun nd _ _ _ _ _ hr=>?_⟩;refine⟨_,aN (bG (jZ uD cA (Us rfl (XC rfl nd (BG (bB (eR T) (hr.mono (by omega)) ⟨rfl,rfl,rfl⟩ (aA (pv 0) aD))) (uU (own:=[("part",1)]) (by rfl)) (fun _ _ _ _ _=>eY (i:=1) nd rfl (bP rfl)) (fun _ _ _ _ _=>xZ) (fun _ _ _ _ _=>LP ih hr (aA (pv 1) aD))) cA T.n_max))),?_⟩;obtain⟨p,o,c,zs,rfl,h1,h2,h3⟩:=hx.parts;have h3:fW K H zs (bD v):=h3;refine⟨_,rfl,p,_,_,rfl,h1,rfl,c,rfl,⟨_,h2⟩,fun D hD=>?_⟩;refine ZF (by show 1 < 2;decide) hD h2 h3 (fun q hq=>?_) (fun q hq=>?_) ?_ (fun H' s' hl=>?_)
  ·have:=EN hx.1 hq;omega
  ·have:=wP hx.1 hq;omega
  ·have:(bD v).length+1≤_:=zR hx.1;omega
  ·refine⟨D,(bD v).map fun v=>(Vatwva.deep v:Int),0,rfl,?_,rfl,_,_,rfl,rfl,?_⟩
   ·rw[cP];exact gX.of hl
   ·show Q (.int (1+(if ((bD v).map fun v=>(Vatwva.deep v:Int)).isEmpty=true then 0 else qP ((bD v).map fun v=>(Vatwva.deep v:Int))))) H';have e:(1:Int)+(if ((bD v).map fun v=>(Vatwva.deep v:Int)).isEmpty=true then 0 else qP ((bD v).map fun v=>(Vatwva.deep v:Int)))=(Vatwva.deep v:Int):=by
     rw[Hg hx.1];by_cases hp:bD v=[]
     ·rw[hp];rfl
     ·have:((bD v).map fun v=>(Vatwva.deep v:Int))=((bD v).map Vatwva.deep).map fun(n:Nat)=>(n:Int):=by rw[cP];rfl
      rw[this,GA _ (by simpa using hp),if_neg (by simpa using hp)];omega
    rw[e];exact k H' s'
theorem zU (T:iJ K mg a):∀d:Nat,gV P w K mg base (d+2) "most_parts_in" ["value"] (Aq qK K d)
 | 0=>by refine kI T.f_most_parts_in ["value","part"] fun vs H Q E h=>?_;obtain⟨x,v,rfl,hx,hd,_⟩:=h;refine⟨rfl,fun nd _ _ _ _ _ hr=>?_⟩;exact absurd (VM.qO hx.1) (by omega)
 | d+1=>by
  have ih:=zU T d;refine kI T.f_most_parts_in ["value","part"] fun vs H Q E h=>?_;obtain⟨x,v,rfl,hx,hd,hn,k⟩:=h;refine⟨rfl,fun nd _ _ _ _ _ hr=>?_⟩;refine⟨_,aN (bG (cX (Ml rfl) rfl T.n_max (by decide+kernel) (aA (jZ uE (eJ (aA (cX cV rfl T.n_len cE (aA (bB (eR T) (hr.mono (by omega)) ⟨rfl,rfl,rfl⟩ (aA (pv 0) aD)) aD)) aD)) (XC rfl nd (BG (bB (eR T) (hr.mono (by omega)) ⟨rfl,rfl,rfl⟩ (aA (pv 0) aD))) (uU (own:=[("part",1)]) (by rfl)) (fun _ _ _ _ _=>eY (i:=1) nd rfl (bP rfl)) (fun _ _ _ _ _=>xZ) (fun _ _ _ _ _=>LP ih hr (aA (pv 1) aD)))) aD))),?_⟩;obtain⟨p,o,c,zs,rfl,h1,h2,h3⟩:=hx.parts;have h3:fW K H zs (bD v):=h3;have hl0:(bD v).length+1≤_:=zR hx.1;refine⟨_,rfl,p,_,_,rfl,h1,rfl,c,_,rfl,.inr h2,(by show 1≤aU;decide),fun l hl=>?_⟩;have s1:=aZ.upd (o:=.lst [.int (zs.length:Nat)]) hl;refine⟨_,rfl,p,_,_,rfl,s1.sqT h1,rfl,c,rfl,⟨_,s1.sqT h2⟩,fun D hD=>?_⟩;refine ZF (by show 1 < 2;decide) hD (s1.sqT h2) (h3.tups s1.tups) (fun q hq=>?_) (fun q hq=>?_) (by omega) (fun H' s' hl'=>?_)
  ·have:=EN hx.1 hq;omega
  ·have:=wP hx.1 hq;omega
  ·refine⟨l,D,_,_,rfl,rfl,s' _ _ aG,hl',?_,fun q hq=>?_⟩
   ·rw[aJ];show 1+(bD v).length≤aU;exact bI (by omega:1+(bD v).length≤10000) (by decide)
   ·refine⟨q,(((bD v).length::(bD v).map qK).map fun(n:Nat)=>(n:Int)),rfl,?_,by simp,?_⟩
    ·rw[cP];have e:(((bD v).length::(bD v).map qK).map (V.int∘fun(n:Nat)=>(n:Int)))=[.int (zs.length:Nat)]++(bD v).map fun v=>V.int (qK v):=by rw[aP,cP,h3.length];rfl
     rw[e];exact gX.of aG
    ·rw[GA _ (by simp)];have e:VM.pS ((bD v).length::(bD v).map qK)=qK v:=(HZ hx.1).symm;rw[e];exact k _ ((s1.trans s').trans (aZ.upd hq))
def Oj (K:aB) (d:Nat):Sp:=fun vs H Q _=>∃(x:V) (v:fT) (e p:Nat),vs=[x,.int e,.int p]∧oB K H x v∧Vatwva.deep v≤d∧Vatwva.count v≤10000∧∀H',aZ H H'→Q (.bl (decide (Vatwva.deep v≤6∧Vatwva.count v≤e∧qK v≤p))) H'
theorem CC (T:iJ K mg a) (d:Nat):gV P w K mg base (d+3) "keeps_within" ["value","most_entries","most_parts"] (Oj K d):=by
 refine kI T.f_keeps_within ["value","most_entries","most_parts"] fun vs H Q E h=>?_;obtain⟨x,v,e,p,rfl,hx,hd,hn,k⟩:=h;refine⟨rfl,fun nd _ _ _ _ _ hr=>?_⟩;obtain⟨u,hm,ru⟩:=T.c_MOST_DEEP;refine⟨_,aI (fA (dA CD (bB (DO T d) hr ⟨rfl,rfl,rfl⟩ (aA (pv 0) aD)) (dM rfl hm ru) (dJ _)) (aN (bG Rt)) cY) (aN (bG (Rs (qY MQ (bB (kW T d) hr ⟨rfl,rfl,rfl⟩ (aA (pv 0) aD)) (pv 1) (dJ _)) (Ih (qY MQ (bB (zU T d) hr ⟨rfl,rfl,rfl⟩ (aA (pv 0) aD)) (pv 2) (dJ _)))))),?_⟩;refine⟨_,rfl,x,v,rfl,hx,hd,hn,fun H1 s1=>⟨_,_,rfl,rfl,_,rfl,?_⟩⟩;refine nB (fun c=>?_) (fun c=>?_)
 ·have c:(6:Int) < (Vatwva.deep v:Int):=of_decide_eq_true c;have:=k H1 s1;rw[decide_eq_false (by omega)]at this;exact this
 ·have c:¬(6:Int) < (Vatwva.deep v:Int):=fun z=>c (decide_eq_true z);refine⟨_,rfl,x,v,rfl,hx.tups s1.tups,hd,hn,fun H2 s2=>⟨_,rfl,_,_,rfl,rfl,_,rfl,?_⟩⟩;refine nB (fun c2=>?_) (fun c2=>?_)
  ·have c2:(Vatwva.count v:Int)≤(e:Int):=of_decide_eq_true c2;refine⟨_,rfl,x,v,rfl,hx.tups (s1.trans s2).tups,hd,hn,fun H3 s3=>⟨_,rfl,_,_,rfl,rfl,?_⟩⟩;have:=k H3 ((s1.trans s2).trans s3);have e1:decide (Vatwva.deep v≤6∧Vatwva.count v≤e∧qK v≤p)=decide ((qK v:Int)≤(p:Int)):=by
    rw[lV,decide_eq_true_iff,decide_eq_true_iff];constructor
    ·intro z;omega
    ·intro z;omega
   rw[e1]at this;exact this
  ·have c2:¬(Vatwva.count v:Int)≤(e:Int):=fun z=>c2 (decide_eq_true z);have:=k H2 (s1.trans s2);rw[decide_eq_false (by omega)]at this;exact this
def Lg (K:aB) (d e p:Nat):Sp:=fun vs H Q _=>∃(x:V) (v:fT),vs=[x]∧oB K H x v∧Vatwva.deep v≤d∧Vatwva.count v≤10000∧∀H',aZ H H'→Q (.bl (decide (Vatwva.deep v≤6∧Vatwva.count v≤e∧qK v≤p))) H'
theorem DQ (T:iJ K mg a) (d:Nat):gV P w K mg base (d+4) "is_value" ["value"] (Lg K d 60 12):=by refine kI T.f_is_value ["value"] fun vs H Q E h=>?_;obtain⟨x,v,rfl,hx,hd,hn,k⟩:=h;refine⟨rfl,fun nd _ _ _ _ _ hr=>?_⟩;obtain⟨u1,hm1,ru1⟩:=T.c_MOST_ENTRIES;obtain⟨u2,hm2,ru2⟩:=T.c_MOST_PARTS;exact⟨_,aN (bG (bB (CC T d) hr ⟨rfl,rfl,rfl⟩ (aA (pv 0) (aA (dM rfl hm1 ru1) (aA (dM rfl hm2 ru2) aD))))),_,rfl,x,v,60,12,rfl,hx,hd,hn,k⟩
theorem DR (T:iJ K mg a) (d:Nat):gV P w K mg base (d+4) "may_be_on_the_way" ["value"] (Lg K d 120 24):=by refine kI T.f_may_be_on_the_way ["value"] fun vs H Q E h=>?_;obtain⟨x,v,rfl,hx,hd,hn,k⟩:=h;refine⟨rfl,fun nd _ _ _ _ _ hr=>?_⟩;obtain⟨u1,hm1,ru1⟩:=T.c_MOST_ENTRIES_ON_THE_WAY;obtain⟨u2,hm2,ru2⟩:=T.c_MOST_PARTS_ON_THE_WAY;exact⟨_,aN (bG (bB (CC T d) hr ⟨rfl,rfl,rfl⟩ (aA (pv 0) (aA (dM rfl hm1 ru1) (aA (dM rfl hm2 ru2) aD))))),_,rfl,x,v,120,24,rfl,hx,hd,hn,k⟩
def No (a:mI) (H:Hp) (E:XK):Prop:=∀H',aZ H H'→E (.ref a.xInapplicable) none H'
theorem sR.on (h:sR K H v Q) (s:aZ H H1):sR K H1 v Q:=fun H' x s'=>h H' x (s.trans s')
def Ix (a:mI):Sp:=fun vs H Q E=>∃b,vs=[.bl b]∧(b=true→Q .non H)∧(b=false→E (.ref a.xInapplicable) none H)
theorem nQ (T:iJ K mg a):gV P w K mg base 1 "require" ["holds"] (Ix a):=by
 refine kI T.f_require ["holds"] fun vs H Q E h=>?_;obtain⟨b,rfl,k1,k2⟩:=h;refine⟨rfl,fun nd _ _ _ _ _ hr=>?_⟩;refine⟨_,aN (fA (wY (mS (pv 0))) (aN (iV ⟨rfl,rfl,rfl⟩ rfl rfl T.x_Inapplicable.1 T.x_Inapplicable.2)) cY),?_⟩;cases b with
 | true=>exact⟨_,rfl,_,rfl,xK (k1 rfl)⟩
 | false=>exact⟨_,rfl,_,rfl,sY (k2 rfl)⟩
def Gu (K:aB) (H:Hp) (xs:List V) (Q:VK):Prop:=∀p H',aZ H H'→fE K H' p xs→Q (.ref p) H'
theorem small (h:n≤20000):n≤aU:=bI h (by decide)
def Bc (K:aB):Sp:=fun vs H Q _=>∃(p:aQ) (xs:List V) (j:Nat) (x:V),vs=[.ref p,.int j,x]∧fE K H p xs∧xs.length≤10000∧Gu K H (xs.take j++x::xs.drop j) Q
theorem wB (T:iJ K mg a):gV P w K mg base 1 "with_more" ["parts","place","part"] (Bc K):=by refine kI T.f_with_more ["parts","place","part"] fun vs H Q E h=>?_;obtain⟨p,xs,j,x,rfl,hp,hl,k⟩:=h;refine⟨rfl,fun nd _ _ _ _ _ hr=>?_⟩;refine⟨_,aN (bG (jZ FB (jZ FB (wX FH (pv 0) FE (xY (pv 1))) (iP (aA (pv 2) aD))) (wX FH (pv 0) (xY (pv 1)) FE))),?_⟩;refine⟨_,rfl,_,rfl,_,rfl,p,xs,rfl,hp,fun p1 H1 s1 h1=>⟨_,rfl,(by show 1≤aU;decide),fun p2 hp2=>?_⟩⟩;rw[Hf]at h1;have s2:=aZ.upd (o:=.tup [x]) hp2;refine⟨p1,p2,xs.take j,[x],rfl,rfl,s2.sqT h1,.of' aG,small (by rw[bJ];show min j xs.length+1≤20000;omega),fun p3 H3 s3 h3=>?_⟩;have s13:=(s1.trans s2).trans s3;refine⟨_,rfl,_,rfl,_,rfl,p,xs,rfl,s13.sqT hp,fun p4 H4 s4 h4=>?_⟩;rw[PU]at h4;refine⟨p3,p4,_,_,rfl,rfl,s4.sqT h3,h4,small (by rw[aC,bJ,cW];show min j xs.length+1+_≤20000;omega),fun p5 H5 s5 h5=>?_⟩;rw[fH]at h5;exact k p5 H5 ((s13.trans s4).trans s5) h5
def Iz (K:aB):Sp:=fun vs H Q _=>∃(p:aQ) (xs:List V) (j:Nat),vs=[.ref p,.int j]∧fE K H p xs∧xs.length≤10000∧Gu K H (xs.take j++xs.drop (j+1)) Q
theorem BD (T:iJ K mg a):gV P w K mg base 1 "without" ["parts","place"] (Iz K):=by
 refine kI T.f_without ["parts","place"] fun vs H Q E h=>?_;obtain⟨p,xs,j,rfl,hp,hl,k⟩:=h;refine⟨rfl,fun nd _ _ _ _ _ hr=>?_⟩;refine⟨_,aN (bG (jZ FB (wX FH (pv 0) FE (xY (pv 1))) (wX FH (pv 0) (xY (jZ uD (pv 1) cA)) FE))),?_⟩;refine⟨_,rfl,_,rfl,_,rfl,p,xs,rfl,hp,fun p1 H1 s1 h1=>⟨_,rfl,_,rfl,_,_,rfl,rfl,_,rfl,p,xs,rfl,s1.sqT hp,fun p2 H2 s2 h2=>?_⟩⟩;rw[Hf]at h1;have e:((j:Int)+1)=((j+1:Nat):Int):=by omega
 have h2:fE K H2 p2 (CH xs (some ((j:Int)+1)) none):=h2;rw[e,PU]at h2;exact⟨p1,p2,_,_,rfl,rfl,s2.sqT h1,h2,small (by rw[bJ,cW];omega),fun p5 H5 s5 h5=>k p5 H5 ((s1.trans s2).trans s5) h5⟩
def VI (K:aB):Sp:=fun vs H Q _=>∃(p:aQ) (xs:List V) (j:Nat) (x:V),vs=[.ref p,.int j,x]∧fE K H p xs∧xs.length≤10000∧Gu K H (xs.take j++x::xs.drop (j+1)) Q
theorem GI (T:iJ K mg a):gV P w K mg base 1 "with_other" ["parts","place","part"] (VI K):=by
 refine kI T.f_with_other ["parts","place","part"] fun vs H Q E h=>?_;obtain⟨p,xs,j,x,rfl,hp,hl,k⟩:=h;refine⟨rfl,fun nd _ _ _ _ _ hr=>?_⟩;refine⟨_,aN (bG (jZ FB (jZ FB (wX FH (pv 0) FE (xY (pv 1))) (iP (aA (pv 2) aD))) (wX FH (pv 0) (xY (jZ uD (pv 1) cA)) FE))),?_⟩;refine⟨_,rfl,_,rfl,_,rfl,p,xs,rfl,hp,fun p1 H1 s1 h1=>⟨_,rfl,(by show 1≤aU;decide),fun p2 hp2=>?_⟩⟩;rw[Hf]at h1;have s2:=aZ.upd (o:=.tup [x]) hp2;refine⟨p1,p2,xs.take j,[x],rfl,rfl,s2.sqT h1,.of' aG,small (by rw[bJ];show min j xs.length+1≤20000;omega),fun p3 H3 s3 h3=>?_⟩;have s13:=(s1.trans s2).trans s3;refine⟨_,rfl,_,rfl,_,_,rfl,rfl,_,rfl,p,xs,rfl,s13.sqT hp,fun p4 H4 s4 h4=>?_⟩;have e:((j:Int)+1)=((j+1:Nat):Int):=by omega
 have h4:fE K H4 p4 (CH xs (some ((j:Int)+1)) none):=h4;rw[e,PU]at h4;refine⟨p3,p4,_,_,rfl,rfl,s4.sqT h3,h4,small (by rw[aC,bJ,cW];show min j xs.length+1+_≤20000;omega),fun p5 H5 s5 h5=>?_⟩;rw[fH]at h5;exact k p5 H5 ((s13.trans s4).trans s5) h5
theorem oB.rec (h:oB K H x v) (hr:Vatwva.isRecord v=true):∃p b c zs,x=.ref p∧fE K H p [.str "record",.ref b,.ref c]∧fE K H b (dQ (Vatwva.kidsOf v))∧fE K H c zs∧fW K H zs (bD v):=by have e:=VM.fU h.1 hr;rw[←e]at h;exact(OO VM.mQ).mp h
theorem oB.kind (h:oB K H x v):∃p o c,x=.ref p∧fE K H p [.str (vA v),o,.ref c]:=let ⟨p,o,c,_,a,b,_⟩:=h.parts;⟨p,o,c,a,b⟩
theorem WQ (o:VM.mJ v):(vA v="list")↔Vatwva.isList v=true:=by rcases o.cases with⟨t,rfl⟩ | ⟨z,rfl⟩ | ⟨k,rfl⟩ | ⟨k,rfl⟩<;>simp[vA,Vatwva.isRecord,Vatwva.isList,vT,Vatwva.vText,Vatwva.vNum,Vatwva.vRec,Vatwva.vList]<;>decide
theorem QW (o:VM.mJ v):(vA v="record")↔Vatwva.isRecord v=true:=by rcases o.cases with⟨t,rfl⟩ | ⟨z,rfl⟩ | ⟨k,rfl⟩ | ⟨k,rfl⟩<;>simp[vA,Vatwva.isRecord,Vatwva.isList,vT,Vatwva.vText,Vatwva.vNum,Vatwva.vRec,Vatwva.vList]<;>decide
def Ez (a:mI) (K:aB):Sp:=fun vs H Q E=>∃(x:V) (v:fT),vs=[x]∧oB K H x v∧(Vatwva.isList v=true→∀c zs,fE K H c zs→fW K H zs (Vatwva.itemsOf v)→Q (.ref c) H)∧(Vatwva.isList v=false→E (.ref a.xInapplicable) none H)
theorem vC (T:iJ K mg a):gV P w K mg base 2 "items_of" ["here"] (Ez a K):=by
 refine kI T.f_items_of ["here"] fun vs H Q E h=>?_;obtain⟨x,v,rfl,hx,k1,k2⟩:=h;refine⟨rfl,fun nd _ _ _ _ _ hr=>?_⟩;obtain⟨u,hm,ru⟩:=T.c_LIST;refine⟨_,aI (dN (bB (nQ T) hr ⟨rfl,rfl,rfl⟩ (aA (qY qF (bB (mC T) hr ⟨rfl,rfl,rfl⟩ (aA (pv 0) aD)) (dM rfl hm ru) (dJ _)) aD))) (aN (bG (bB (eR T) hr ⟨rfl,rfl,rfl⟩ (aA (pv 0) aD)))),?_⟩;obtain⟨p,o,c,zs,rfl,h1,h2,h3⟩:=hx.parts;refine⟨_,rfl,p,_,_,rfl,h1,rfl,rfl,_,rfl,fun e=>?_,fun e=>?_⟩
 ·have e:vA v="list":=V.str.inj (of_decide_eq_true e);exact⟨_,rfl,p,_,_,rfl,h1,rfl,k1 ((WQ hx.1).mp e) c zs h2 h3⟩
 ·refine k2 ?_;cases q:Vatwva.isList v with
  | false=>rfl
  | true=>exact absurd (congrArg V.str ((WQ hx.1).mpr q)) (of_decide_eq_false e)
def Fe (a:mI) (K:aB):Sp:=fun vs H Q E=>∃(x:V) (v:fT),vs=[x]∧oB K H x v∧(Vatwva.isRecord v=true→∀b,fE K H b (dQ (Vatwva.kidsOf v))→Q (.ref b) H)∧(Vatwva.isRecord v=false→E (.ref a.xInapplicable) none H)
theorem vD (T:iJ K mg a):gV P w K mg base 2 "names_of" ["here"] (Fe a K):=by
 refine kI T.f_names_of ["here"] fun vs H Q E h=>?_;obtain⟨x,v,rfl,hx,k1,k2⟩:=h;refine⟨rfl,fun nd _ _ _ _ _ hr=>?_⟩;obtain⟨u,hm,ru⟩:=T.c_RECORD;refine⟨_,aI (dN (bB (nQ T) hr ⟨rfl,rfl,rfl⟩ (aA (qY qF (bB (mC T) hr ⟨rfl,rfl,rfl⟩ (aA (pv 0) aD)) (dM rfl hm ru) (dJ _)) aD))) (aN (bG (bB (rY T) hr ⟨rfl,rfl,rfl⟩ (aA (pv 0) aD)))),?_⟩;by_cases q:Vatwva.isRecord v=true
 ·obtain⟨p,b,c,zs,rfl,h1,h2,h3,h4⟩:=hx.rec q;refine⟨_,rfl,p,_,_,rfl,h1,rfl,rfl,_,rfl,fun e=>?_,fun e=>absurd rfl (of_decide_eq_false e)⟩;exact⟨_,rfl,p,_,_,rfl,h1,rfl,k1 q b h2⟩
 ·obtain⟨p,o,c,rfl,h1⟩:=hx.kind;refine⟨_,rfl,p,_,_,rfl,h1,rfl,rfl,_,rfl,fun e=>?_,fun e=>k2 (hZ.mpr q)⟩;exact absurd ((QW hx.1).mp (V.str.inj (of_decide_eq_true e))) q
theorem uJ (h:bT n=bT m):n=m:=by
 unfold bT at h;have h1:(n.map hX).toArray=(m.map hX).toArray:=by injection h
 have h2:n.map hX=m.map hX:=by simpa using congrArg KR h1
 have key:∀(a b:bW),a.map hX=b.map hX→a=b:=by
  intro a;induction a with
  | nil=>intro b hb;cases b with
   | nil=>rfl
   | cons _ _=>cases hb
  | cons x a ih=>intro b hb;cases b with
   | nil=>cases hb
   | cons y b=>simp only[aP,dE]at hb;rw[lU.mp hb.1,ih b hb.2]
 exact key n m h2
theorem YY (n m:bW):Pr (.str (bT n)) (.str (bT m))=decide (n=m):=by
 show(bT n == bT m)=_;by_cases e:n=m
 ·subst e;simp
 ·rw[decide_eq_false e];exact beq_eq_false_iff_ne.mpr fun q=>e (uJ q)
theorem tX (l:List (Name×fT)) (n:Name):Td (.str (bT n)) (dQ l)=Vatwvc.hasField l n:=by unfold Td dQ Vatwvc.hasField;rw[List.any_map];congr 1;funext x;show Pr (.str (bT x.1)) (.str (bT n))=_;rw[YY];rw[lV,decide_eq_true_iff,beq_iff_eq]
theorem tW (l:List (Name×fT)):(dQ l).all zN=true:=by rw[cD];intro x hx;obtain⟨y,_,rfl⟩:=aX.mp hx;rfl
theorem gT (l:List (Name×fT)):(dQ l).length=l.length:=aJ _
theorem KF (h:Vatwvc.hasField l n=true):∃A x B,l=A++x::B∧x.1=n∧Vatwvc.placeOf l n=A.length∧(∀y∈A,y.1≠n):=by
 obtain⟨x1,hx1,n1⟩:=VM.jN.mp h;cases q:l.find? (fun x=>x.1 == n)with
 | none=>have:=xM.mp q x1 hx1;simp[n1]at this
 | some x0=>obtain⟨A,B,h1,h2,h3⟩:=VM.yS q;exact⟨A,x0,B,h1,(VM.ES q).2,h3,h2⟩
theorem BN {A B:List (Name×fT)} {x:Name×fT} (h:Vatwva.distinct ((A++x::B).map fun x=>x.1)=true):∀y∈B,y.1≠x.1:=by rw[VM.iE,aW,aP,oW]at h;intro y hy c;exact(eL.mp h.2.1).1 (aX.mpr ⟨y,hy,c⟩)
def UZ (a:mI) (K:aB):Sp:=fun vs H Q E=>∃(x:V) (v:fT) (j:Nat),vs=[x,.int j]∧oB K H x v∧(Vatwva.isList v=true→j < (Vatwva.itemsOf v).length→Q (.int j) H)∧(¬(Vatwva.isList v=true∧j < (Vatwva.itemsOf v).length)→E (.ref a.xInapplicable) none H)
theorem uP (T:iJ K mg a):gV P w K mg base 3 "item_place" ["here","place"] (UZ a K):=by
 refine kI T.f_item_place ["here","place"] fun vs H Q E h=>?_;obtain⟨x,v,j,rfl,hx,k1,k2⟩:=h;refine⟨rfl,fun nd _ _ _ _ _ hr=>?_⟩;refine⟨_,aI (dN (bB (nQ T) hr.m ⟨rfl,rfl,rfl⟩ (aA (qY MR (pv 1) (cX cV rfl T.n_len cE (aA (bB (vC T) hr ⟨rfl,rfl,rfl⟩ (aA (pv 0) aD)) aD)) (dJ _)) aD))) (aN (bG (pv 1))),?_⟩;refine⟨_,rfl,_,rfl,x,v,rfl,hx,fun hl c zs hc hz=>⟨c,zs,rfl,.inr hc,_,_,rfl,rfl,_,rfl,fun e=>?_,fun e=>?_⟩,fun hl=>k2 fun z=>?_⟩
 ·have e:(j:Int) < (zs.length:Int):=of_decide_eq_true e;exact⟨_,rfl,k1 hl (by rw[←hz.length];omega)⟩
 ·have e:¬(j:Int) < (zs.length:Int):=of_decide_eq_false e;exact k2 fun z=>e (by rw[hz.length];omega)
 ·rw[hl]at z;cases z.1
def SS (a:mI) (K:aB):Sp:=fun vs H Q E=>∃(x:V) (v:fT) (n:Name),vs=[x,.str (bT n)]∧oB K H x v∧(Vatwva.isRecord v=true→Vatwvc.hasField (Vatwva.kidsOf v) n=true→Q (.int (Vatwvc.placeOf (Vatwva.kidsOf v) n:Nat)) H)∧(¬(Vatwva.isRecord v=true∧Vatwvc.hasField (Vatwva.kidsOf v) n=true)→E (.ref a.xInapplicable) none H)
theorem sZ (T:iJ K mg a):gV P w K mg base 3 "field_place" ["here","name"] (SS a K):=by
 refine kI T.f_field_place ["here","name","names"] fun vs H Q E h=>?_;obtain⟨x,v,n,rfl,hx,k1,k2⟩:=h;refine⟨rfl,fun nd _ _ _ _ _ hr=>?_⟩;refine⟨_,aI (cM (i:=2) nd rfl (bP rfl) (bB (vD T) hr ⟨rfl,rfl,rfl⟩ (aA (pv 0) aD))) (aI (dN (bB (nQ T) hr.m ⟨rfl,rfl,rfl⟩ (aA (qY WY (pv 1) (pv 2) rfl) aD))) (aN (bG (Nt (pv 2) (aA (pv 1) aD))))),?_⟩;refine⟨_,rfl,x,v,rfl,hx,fun hl b hb=>?_,fun hl=>k2 fun z=>by rw[hl]at z;cases z.1⟩;refine⟨_,rfl,_,rfl,b,_,rfl,.inr hb,rfl,tW _,_,rfl,fun e=>?_,fun e=>?_⟩
 ·have e:Td (.str (bT n)) (dQ (Vatwva.kidsOf v))=true:=e;rw[tX]at e;obtain⟨A,y,B,h1,h2,h3,h4⟩:=KF e;refine⟨_,rfl,⟨b,_,rfl,hb⟩,_,rfl,b,_,_,A.length,.str (bT y.1),rfl,rfl,hb,rfl,tW _,?_,?_,fun m z hm hz=>?_,?_⟩
  ·rw[h1];unfold dQ;rw[aW,aP];rw[gM (by rw[aJ];exact aR _),aJ,mG];rfl
  ·rw[YY,h2];simp
  ·rw[h1]at hz;unfold dQ at hz;rw[aW,XY (by rw[aJ];exact hm),bX]at hz;cases q:A[m]? with
   | none=>rw[q]at hz;cases hz
   | some y'=>rw[q]at hz;cases hz;rw[YY];exact decide_eq_false (h4 y' (bA q))
  ·have:=k1 hl e;rw[h3]at this;exact this
 ·have e:Td (.str (bT n)) (dQ (Vatwva.kidsOf v))=false:=e;rw[tX]at e;exact k2 fun z=>by rw[e]at z;cases z.2
def Tc (K:aB) (H:Hp) (d:aQ):gE→Prop
 | .set _ v=>∃x,fE K H d [x]∧oB K H x v
 | .put _ i v=>∃x,fE K H d [.int i,x]∧oB K H x v
 | .take _ i=>fE K H d [.int i]
 | .move _ i j=>fE K H d [.int i,.int j]
 | .add _ i n v=>∃x,fE K H d [.int i,.str (bT n),x]∧oB K H x v
 | .drop _ n=>fE K H d [.str (bT n)]
 | .rename _ n m=>fE K H d [.str (bT n),.str (bT m)]
theorem Tc.tups (s:zH H H') (h:Tc K H d e):Tc K H' d e:=by
 cases e with
 | set p v=>obtain⟨x,h1,h2⟩:=h;exact⟨x,s.sqT h1,h2.tups s⟩
 | put p i v=>obtain⟨x,h1,h2⟩:=h;exact⟨x,s.sqT h1,h2.tups s⟩
 | take p i=>exact s.sqT h
 | move p i j=>exact s.sqT h
 | add p i n v=>obtain⟨x,h1,h2⟩:=h;exact⟨x,s.sqT h1,h2.tups s⟩
 | drop p n=>exact s.sqT h
 | rename p n m=>exact s.sqT h
def GQ:gE→Str
 | .set _ _=>"set"
 | .put _ _ _=>"put"
 | .take _ _=>"take"
 | .move _ _ _=>"move"
 | .add _ _ _ _=>"add"
 | .drop _ _=>"drop"
 | .rename _ _ _=>"rename"
def Py (v:fT):Prop:=VM.eB 10000 v
def Xu (a:mI) (K:aB) (H:Hp) (r:Option fT) (Q:VK) (E:XK):Prop:=match r with
 | some v=>sR K H v Q
 | none=>No a H E
def Rb:gE→Bool
 | .set _ _=>true
 | _=>false
def Ra:gE→Bool
 | .put _ _ _=>true
 | _=>false
def Hu:gE→Bool
 | .take _ _=>true
 | _=>false
def Ht:gE→Bool
 | .move _ _ _=>true
 | _=>false
def Qz:gE→Bool
 | .add _ _ _ _=>true
 | _=>false
def Hr:gE→Bool
 | .drop _ _=>true
 | _=>false
def QO:gE→Bool
 | .rename _ _ _=>true
 | _=>false
def yD (is:gE→Bool) (a:mI) (K:aB):Sp:=fun vs H Q E=>∃(x:V) (v:fT) (d:aQ) (e:gE),vs=[x,.ref d]∧is e=true∧oB K H x v∧Tc K H d e∧Py v∧Vatwva.count v≤5000∧Xu a K H (Vatwvc.doneAt e v) Q E
theorem fW.take:∀{zs:List V} {vs:List fT} (n:Nat),fW K H zs vs→fW K H (zs.take n) (vs.take n)
 | _,_,0,_=>.nil
 | _,_,_+1,.nil=>.nil
 | _,_,n+1,.cons r t=>.cons r (fW.take n t)
theorem fW.drop:∀{zs:List V} {vs:List fT} (n:Nat),fW K H zs vs→fW K H (zs.drop n) (vs.drop n)
 | _,_,0,r=>r
 | _,_,_+1,.nil=>.nil
 | _,_,n+1,.cons _ t=>fW.drop n t
theorem fW.append:∀{zs ys:List V} {vs us:List fT},fW K H zs vs→fW K H ys us→fW K H (zs++ys) (vs++us)
 | _,_,_,_,.nil,s=>s
 | _,_,_,_,.cons r t,s=>.cons r (fW.append t s)
theorem fW.insert (h:fW K H zs vs) (hx:oB K H x v) (j:Nat):fW K H (zs.take j++x::zs.drop j) (vs.take j++v::vs.drop j):=(h.take j).append (.cons hx (h.drop j))
theorem fW.erase (h:fW K H zs vs) (j:Nat):fW K H (zs.take j++zs.drop (j+1)) (vs.take j++vs.drop (j+1)):=(h.take j).append (h.drop (j+1))
theorem nF (hx:oB K H x v) (hn:Vatwva.count v≤5000) (hz:fW K H zs (bD v)):zs.length≤5000:=by have:=zR hx.1;rw[hz.length];omega
theorem Dy (T:iJ K mg a):gV P w K mg base 1 "set_here" ["here","details"] (yD Rb a K):=by
 refine kI T.f_set_here ["here","details"] fun vs H Q E h=>?_;obtain⟨x,v,d,e,rfl,hw,hx,hd,hs,hn,k⟩:=h;refine⟨rfl,fun nd _ _ _ _ _ hr=>?_⟩;cases e with
 | set p u=>obtain⟨y,h1,h2⟩:=hd;exact⟨_,aN (bG (fL fQ (pv 1) cA (fun _ _=>rfl))),_,rfl,d,_,_,_,rfl,rfl,h1,rfl,k H y (aZ.refl H) h2⟩
 | _=>cases hw
theorem Dv (T:iJ K mg a):gV P w K mg base 3 "put_here" ["here","details"] (yD Ra a K):=by
 refine kI T.f_put_here ["here","details"] fun vs H Q E h=>?_;obtain⟨x,v,d,e,rfl,hw,hx,hd,hs,hn,k⟩:=h;refine⟨rfl,fun nd _ _ _ _ _ hr=>?_⟩;cases e with
 | put p i u=>
  obtain⟨y,h1,h2⟩:=hd;refine⟨_,aI (dN (bB (nQ T) hr.m ⟨rfl,rfl,rfl⟩ (aA (qY MQ (fL fQ (pv 1) cA (fun _ _=>rfl)) (cX cV rfl T.n_len cE (aA (bB (vC T) hr ⟨rfl,rfl,rfl⟩ (aA (pv 0) aD)) aD)) (dJ _)) aD))) (aN (bG (bB (qR T) hr.m ⟨rfl,rfl,rfl⟩ (aA (bB (wB T) hr.m ⟨rfl,rfl,rfl⟩ (aA (bB (vC T) hr ⟨rfl,rfl,rfl⟩ (aA (pv 0) aD)) (aA (fL fQ (pv 1) cA (fun _ _=>rfl)) (aA (fL fQ (pv 1) cA (fun _ _=>rfl)) aD)))) aD)))),?_⟩;have kn:(¬(Vatwva.isList v=true∧i≤(Vatwva.itemsOf v).length))→No a H E:=fun c=>by
   have e:Vatwvc.doneAt (.put p i u) v=none:=by
    show Vatwvc.onList (fun l=>Vatwvc.putAt l i u) v=none;unfold Vatwvc.onList;by_cases hl:Vatwva.isList v=true
    ·rw[if_pos hl];show((if i≤(Vatwva.itemsOf v).length then _ else none):Option (List fT)).map _=none;rw[if_neg (fun z=>c ⟨hl,z⟩)];rfl
    ·rw[if_neg hl]
   rw[e]at k;exact k
  refine⟨_,rfl,d,_,_,_,rfl,rfl,h1,rfl,_,rfl,x,v,rfl,hx,fun hl c zs hc hz=>⟨c,zs,rfl,.inr hc,_,_,rfl,rfl,_,rfl,fun e=>?_,fun e=>?_⟩,fun hl=>kn (fun z=>by rw[hl]at z;cases z.1) H (aZ.refl H)⟩
  ·have e:(i:Int)≤(zs.length:Int):=of_decide_eq_true e;have hle:i≤(Vatwva.itemsOf v).length:=by rw[←hz.length];omega
   refine⟨_,rfl,x,v,rfl,hx,fun _ c2 zs2 hc2 hz2=>⟨_,rfl,d,_,_,_,rfl,rfl,h1,rfl,_,rfl,d,_,_,_,rfl,rfl,h1,rfl,c2,zs2,i,y,rfl,hc2,bI (nF hx hn hz2) (by decide),fun q H1 s1 hq=>?_⟩,fun z=>by rw[hl]at z;cases z⟩;refine⟨q,_,_,rfl,.inr hq,(hz2.insert h2 i).tups s1.tups,?_⟩;have e2:Vatwvc.doneAt (.put p i u) v=some (Vatwva.listOf ((Vatwva.itemsOf v).take i++u::(Vatwva.itemsOf v).drop i)):=by show Vatwvc.onList (fun l=>Vatwvc.putAt l i u) v=_;exact VM.eS.mpr ⟨hl,_,VM.iW.mpr ⟨hle,rfl⟩,rfl⟩
   rw[e2]at k;exact sR.on k s1
  ·have e:¬(i:Int)≤(zs.length:Int):=of_decide_eq_false e;exact kn (fun z=>e (by rw[hz.length];omega)) H (aZ.refl H)
 | _=>cases hw
theorem mT (k:Xu a K H r Q E) (h:r=none):No a H E:=by rw[h]at k;exact k
theorem tI (k:Xu a K H r Q E) (h:r=some v):sR K H v Q:=by rw[h]at k;exact k
theorem DL (h:¬(Vatwva.isList v=true∧i < (Vatwva.itemsOf v).length)):Vatwvc.doneAt (.take p i) v=none:=by
 show Vatwvc.onList (fun l=>Vatwvc.takeAt l i) v=none;cases q:Vatwvc.onList (fun l=>Vatwvc.takeAt l i) v with
 | none=>rfl
 | some w=>
  obtain⟨hl,m,hm,_⟩:=VM.eS.mp q;unfold Vatwvc.takeAt at hm;split at hm
  ·rename_i hi;exact absurd ⟨hl,hi⟩ h
  ·cases hm
theorem PZ (hl:Vatwva.isList v=true) (hi:i < (Vatwva.itemsOf v).length):Vatwvc.doneAt (.take p i) v=some (Vatwva.listOf ((Vatwva.itemsOf v).take i++(Vatwva.itemsOf v).drop (i+1))):=by show Vatwvc.onList (fun l=>Vatwvc.takeAt l i) v=_;refine VM.eS.mpr ⟨hl,_,?_,rfl⟩;unfold Vatwvc.takeAt;rw[if_pos hi,jI]
theorem ZT (T:iJ K mg a):gV P w K mg base 4 "take_here" ["here","details"] (yD Hu a K):=by
 refine kI T.f_take_here ["here","details"] fun vs H Q E h=>?_;obtain⟨x,v,d,e,rfl,hw,hx,hd,hs,hn,k⟩:=h;refine⟨rfl,fun nd _ _ _ _ _ hr=>?_⟩;cases e with
 | take p i=>
  have hd:fE K H d [.int i]:=hd;refine⟨_,aN (bG (bB (qR T) hr.m ⟨rfl,rfl,rfl⟩ (aA (bB (BD T) hr.m ⟨rfl,rfl,rfl⟩ (aA (bB (vC T) hr.m ⟨rfl,rfl,rfl⟩ (aA (pv 0) aD)) (aA (bB (uP T) hr ⟨rfl,rfl,rfl⟩ (aA (pv 0) (aA (fL fQ (pv 1) cA (fun _ _=>rfl)) aD))) aD))) aD))),?_⟩;refine⟨_,rfl,x,v,rfl,hx,fun hl c zs hc hz=>⟨_,rfl,_,rfl,d,_,_,_,rfl,rfl,hd,rfl,x,v,i,rfl,hx,fun _ hi=>?_,fun hi=>?_⟩,fun hl=>mT k (DL fun z=>by rw[hl]at z;cases z.1) H (aZ.refl H)⟩
  ·refine⟨c,zs,i,rfl,hc,bI (nF hx hn hz) (by decide),fun q H1 s1 hq=>⟨q,_,_,rfl,.inr hq,(hz.erase i).tups s1.tups,?_⟩⟩;exact(tI k (PZ hl hi)).on s1
  ·exact mT k (DL hi) H (aZ.refl H)
 | _=>cases hw
theorem DJ (h:¬(Vatwva.isList v=true∧i < (Vatwva.itemsOf v).length∧j < (Vatwva.itemsOf v).length)):Vatwvc.doneAt (.move p i j) v=none:=by
 show Vatwvc.onList (fun l=>Vatwvc.moveAt l i j) v=none;cases q:Vatwvc.onList (fun l=>Vatwvc.moveAt l i j) v with
 | none=>rfl
 | some w=>
  obtain⟨hl,m,hm,_⟩:=VM.eS.mp q;unfold Vatwvc.moveAt at hm;split at hm
  ·rename_i hj
   cases ei:(Vatwva.itemsOf v)[i]? with
   | none=>rw[ei]at hm;cases hm
   | some x=>exact absurd ⟨hl,(aS.mp ei).1,hj⟩ h
  ·cases hm
theorem PX (hl:Vatwva.isList v=true) (hi:(Vatwva.itemsOf v)[i]?=some x) (hj:j < (Vatwva.itemsOf v).length):
  Vatwvc.doneAt (.move p i j) v=some (Vatwva.listOf (((Vatwva.itemsOf v).take i++(Vatwva.itemsOf v).drop (i+1)).take j++x::((Vatwva.itemsOf v).take i++(Vatwva.itemsOf v).drop (i+1)).drop j)):=by
 show Vatwvc.onList (fun l=>Vatwvc.moveAt l i j) v=_;refine VM.eS.mpr ⟨hl,_,?_,rfl⟩;unfold Vatwvc.moveAt;rw[if_pos hj,hi];show Vatwvc.putAt _ j x=_;rw[jI];refine VM.iW.mpr ⟨?_,rfl⟩;have:=(aS.mp hi).1;rw[aC,bJ,cW];omega
theorem fW.get':∀{zs:List V} {vs:List fT} {i:Nat} {v:fT},fW K H zs vs→vs[i]?=some v→∃x,zs[i]?=some x∧oB K H x v
 | _,_,_,_,.nil,e=>by simp at e
 | _,_,0,_,.cons r _,e=>by simp at e;subst e;exact⟨_,rfl,r⟩
 | _,_,i+1,v,.cons _ t,e=>by obtain⟨x,h1,h2⟩:=fW.get' (i:=i) (v:=v) t (by simpa using e);exact⟨x,by simpa using h1,h2⟩
theorem ZL (T:iJ K mg a):gV P w K mg base 4 "move_here" ["here","details"] (yD Ht a K):=by
 refine kI T.f_move_here ["here","details","source","goal","items"] fun vs H Q E h=>?_;obtain⟨x,v,d,e,rfl,hw,hx,hd,hs,hn,k⟩:=h;refine⟨rfl,fun nd _ _ _ _ _ hr=>?_⟩;cases e with
 | move p i j=>have hd:fE K H d [.int i,.int j]:=hd;refine⟨_,aI (cM (i:=2) nd rfl (bP rfl) (bB (uP T) hr ⟨rfl,rfl,rfl⟩ (aA (pv 0) (aA (fL fQ (pv 1) cA (fun _ _=>rfl)) aD)))) (aI (cM (i:=3) nd rfl (bP rfl) (bB (uP T) hr ⟨rfl,rfl,rfl⟩ (aA (pv 0) (aA (fL fQ (pv 1) cA (fun _ _=>rfl)) aD)))) (aI (cM (i:=4) nd rfl (bP rfl) (bB (vC T) hr.m ⟨rfl,rfl,rfl⟩ (aA (pv 0) aD))) (aN (bG (bB (qR T) hr.m ⟨rfl,rfl,rfl⟩ (aA (bB (wB T) hr.m ⟨rfl,rfl,rfl⟩ (aA (bB (BD T) hr.m ⟨rfl,rfl,rfl⟩ (aA (pv 4) (aA (pv 2) aD))) (aA (pv 3) (aA (fL fQ (pv 4) (pv 2) (fun _ _=>rfl)) aD)))) aD)))))),?_⟩;refine⟨_,rfl,_,rfl,d,_,_,_,rfl,rfl,hd,rfl,x,v,i,rfl,hx,fun hl hi=>?_,fun c=>mT k (DJ fun z=>c ⟨z.1,z.2.1⟩) H (aZ.refl H)⟩;refine⟨_,rfl,_,rfl,d,_,_,_,rfl,rfl,hd,rfl,x,v,j,rfl,hx,fun _ hj=>?_,fun c=>mT k (DJ fun z=>c ⟨z.1,z.2.2⟩) H (aZ.refl H)⟩;refine⟨_,rfl,x,v,rfl,hx,fun _ c zs hc hz=>?_,fun z=>by rw[hl]at z;cases z⟩;have eu:(Vatwva.itemsOf v)[i]?=some (Vatwva.itemsOf v)[i]:=bC hi;obtain⟨y,hy1,hy2⟩:=hz.get' eu;have hsm:=nF hx hn hz;refine⟨_,rfl,_,rfl,c,zs,i,rfl,hc,bI hsm (by decide),fun q H1 s1 hq=>?_⟩;refine⟨_,rfl,_,rfl,_,rfl,c,_,_,_,rfl,rfl,s1.sqT hc,fZ hy1,q,_,j,y,rfl,hq,by rw[aC,bJ,cW];omega,fun q2 H2 s2 hq2=>?_⟩;exact⟨q2,_,_,rfl,.inr hq2,(((hz.erase i).tups s1.tups).insert (hy2.tups s1.tups) j).tups s2.tups,(tI k (PX hl eu hj)).on (s1.trans s2)⟩
 | _=>cases hw
theorem xW (l:List (Name×fT)) (n:Nat):dQ (l.take n)=(dQ l).take n:=rP
theorem xV (l:List (Name×fT)) (n:Nat):dQ (l.drop n)=(dQ l).drop n:=rO
theorem lZ (l m:List (Name×fT)):dQ (l++m)=dQ l++dQ m:=aW
theorem Dr (T:iJ K mg a):gV P w K mg base 3 "add_here" ["here","details"] (yD Qz a K):=by
 refine kI T.f_add_here ["here","details","names","place"] fun vs H Q E h=>?_;obtain⟨x,v,d,e,rfl,hw,hx,hd,hs,hn,k⟩:=h;refine⟨rfl,fun nd _ _ _ _ _ hr=>?_⟩;cases e with
 | add p i n u=>
  obtain⟨y,h1,h2⟩:=hd;refine⟨_,aI (cM (i:=2) nd rfl (bP rfl) (bB (vD T) hr ⟨rfl,rfl,rfl⟩ (aA (pv 0) aD))) (aI (cM (i:=3) nd rfl (bP rfl) (fL fQ (pv 1) cA (fun _ _=>rfl))) (aI (dN (bB (nQ T) hr.m ⟨rfl,rfl,rfl⟩ (aA (Rs (qY MQ (pv 3) (cX cV rfl T.n_len cE (aA (pv 2) aD)) (dJ _)) (Ih (qY JZ (fL fQ (pv 1) cA (fun _ _=>rfl)) (pv 2) rfl))) aD))) (aN (bG (bB (oC T) hr.m ⟨rfl,rfl,rfl⟩ (aA (bB (wB T) hr.m ⟨rfl,rfl,rfl⟩ (aA (pv 2) (aA (pv 3) (aA (fL fQ (pv 1) cA (fun _ _=>rfl)) aD)))) (aA (bB (wB T) hr.m ⟨rfl,rfl,rfl⟩ (aA (bB (eR T) hr.m ⟨rfl,rfl,rfl⟩ (aA (pv 0) aD)) (aA (pv 3) (aA (fL fQ (pv 1) cA (fun _ _=>rfl)) aD)))) aD))))))),?_⟩;have kn:(¬(Vatwva.isRecord v=true∧Vatwvc.hasField (Vatwva.kidsOf v) n=false∧i≤(Vatwva.kidsOf v).length))→No a H E:=fun c=>by
   refine mT k ?_;show Vatwvc.onRecord (fun l=>if Vatwvc.hasField l n=true then none else Vatwvc.putAt l i (n,u)) v=none;cases q:Vatwvc.onRecord (fun l=>if Vatwvc.hasField l n=true then none else Vatwvc.putAt l i (n,u)) v with
   | none=>rfl
   | some w=>
    obtain⟨hl,m,hm,_⟩:=VM.dS.mp q;split at hm
    ·cases hm
    ·rename_i hf
     exact absurd ⟨hl,hZ.mpr hf,(VM.iW.mp hm).1⟩ c
  refine⟨_,rfl,x,v,rfl,hx,fun hr b hb=>?_,fun z=>kn (fun c=>by rw[z]at c;cases c.1) H (aZ.refl H)⟩;refine⟨_,rfl,d,_,_,_,rfl,rfl,h1,rfl,?_⟩;refine⟨_,rfl,_,rfl,b,_,rfl,.inr hb,_,_,rfl,rfl,_,rfl,?_⟩;refine nB (fun c=>?_) (fun c=>⟨_,rfl,fun z=>(by cases z),fun _=>?_⟩)
  ·have c:(i:Int)≤((dQ (Vatwva.kidsOf v)).length:Int):=of_decide_eq_true c;rw[gT]at c;refine⟨_,rfl,d,_,_,_,rfl,rfl,h1,rfl,_,rfl,b,_,rfl,.inr hb,rfl,tW _,_,rfl,fun z=>?_,fun z=>?_⟩
   ·have z:(!Td (.str (bT n)) (dQ (Vatwva.kidsOf v)))=true:=z;rw[tX,fF]at z;obtain⟨p',b',c',zs,rfl,g1,g2,g3,g4⟩:=hx.rec hr;have hsm:=nF hx hn g4;have hkl:(Vatwva.kidsOf v).length≤5000:=by have:=g4.length;unfold bD at this;rw[aJ]at this;omega
    refine⟨_,rfl,_,rfl,_,rfl,d,_,_,_,rfl,rfl,h1,rfl,b,_,i,_,rfl,hb,by rw[gT];omega,fun q H1 s1 hq=>?_⟩;refine⟨_,rfl,p',_,_,rfl,s1.sqT g1,rfl,_,rfl,_,rfl,d,_,_,_,rfl,rfl,s1.sqT h1,rfl,c',zs,i,y,rfl,s1.sqT g3,bI hsm (by decide),fun q2 H2 s2 hq2=>?_⟩;refine⟨q,q2,(Vatwva.kidsOf v).take i++(n,u)::(Vatwva.kidsOf v).drop i,_,rfl,.inr (s2.sqT ?_),.inr hq2,?_,(tI k ?_).on (s1.trans s2)⟩
    ·rw[lZ,xW];show fE K H1 q ((dQ (Vatwva.kidsOf v)).take i++V.str (bT n)::dQ ((Vatwva.kidsOf v).drop i));rw[xV];exact hq
    ·have:=(g4.insert h2 i).tups (s1.trans s2).tups;unfold bD at this;rw[aW,rP,aP,rO];exact this
    ·show Vatwvc.onRecord (fun l=>if Vatwvc.hasField l n=true then none else Vatwvc.putAt l i (n,u)) v=_;refine VM.dS.mpr ⟨hr,_,?_,rfl⟩;rw[if_neg (by rw[z];decide)];exact VM.iW.mpr ⟨by omega,rfl⟩
   ·have z:(!Td (.str (bT n)) (dQ (Vatwva.kidsOf v)))=false:=z;rw[tX,Oz]at z;exact kn (fun c=>by rw[z]at c;cases c.2.1) H (aZ.refl H)
  ·have c:¬(i:Int)≤((dQ (Vatwva.kidsOf v)).length:Int):=fun z=>c (decide_eq_true z);rw[gT]at c;exact kn (fun z=>c (by omega)) H (aZ.refl H)
 | _=>cases hw
theorem WJ {l:List (Name×fT)} {n:Name} (h:∀z∈l,z.1≠n):l.filter (fun x=>x.1 != n)=l:=by rw[IC];intro z hz;simpa using h z hz
theorem BP (A B:List α):(A++B).take A.length=A:=FR
theorem DM (A B:List α) (x:α):(A++x::B).drop (A.length+1)=B:=by rw[←List.drop_drop,pZ];rfl
theorem ZK (T:iJ K mg a):gV P w K mg base 4 "drop_here" ["here","details"] (yD Hr a K):=by
 refine kI T.f_drop_here ["here","details","place"] fun vs H Q E h=>?_;obtain⟨x,v,d,e,rfl,hw,hx,hd,hs,hn,k⟩:=h;refine⟨rfl,fun nd _ _ _ _ _ hr=>?_⟩;cases e with
 | drop p n=>
  have hd:fE K H d [.str (bT n)]:=hd;refine⟨_,aI (cM (i:=2) nd rfl (bP rfl) (bB (sZ T) hr ⟨rfl,rfl,rfl⟩ (aA (pv 0) (aA (fL fQ (pv 1) cA (fun _ _=>rfl)) aD)))) (aN (bG (bB (oC T) hr.m ⟨rfl,rfl,rfl⟩ (aA (bB (BD T) hr.m ⟨rfl,rfl,rfl⟩ (aA (bB (vD T) hr.m ⟨rfl,rfl,rfl⟩ (aA (pv 0) aD)) (aA (pv 2) aD))) (aA (bB (BD T) hr.m ⟨rfl,rfl,rfl⟩ (aA (bB (eR T) hr.m ⟨rfl,rfl,rfl⟩ (aA (pv 0) aD)) (aA (pv 2) aD))) aD))))),?_⟩;refine⟨_,rfl,_,rfl,d,_,_,_,rfl,rfl,hd,rfl,x,v,n,rfl,hx,fun hl hf=>?_,fun c=>mT k ?_ H (aZ.refl H)⟩
  ·obtain⟨A1,y,B1,e1,e2,e3,e4⟩:=KF hf;have hdist:=(hs.kids hl).2.1;rw[e1]at hdist;have e5:∀z∈B1,z.1≠n:=fun z hz=>by rw[←e2];exact BN hdist z hz
   obtain⟨p',b',c',zs,rfl,g1,g2,g3,g4⟩:=hx.rec hl;have hsm:=nF hx hn g4;have hkl:(Vatwva.kidsOf v).length≤5000:=by have:=g4.length;unfold bD at this;rw[aJ]at this;omega
   refine⟨_,rfl,.ref p',v,rfl,hx,fun _ b hb=>?_,fun z=>by rw[hl]at z;cases z⟩;refine⟨_,rfl,b,_,Vatwvc.placeOf (Vatwva.kidsOf v) n,rfl,hb,by rw[gT];omega,fun q H1 s1 hq=>?_⟩;refine⟨_,rfl,p',_,_,rfl,s1.sqT g1,rfl,_,rfl,c',zs,Vatwvc.placeOf (Vatwva.kidsOf v) n,rfl,s1.sqT g3,bI hsm (by decide),fun q2 H2 s2 hq2=>?_⟩;refine⟨q,q2,A1++B1,_,rfl,.inr (s2.sqT ?_),.inr hq2,?_,(tI k ?_).on (s1.trans s2)⟩
   ·rw[lZ];have:dQ A1++dQ B1=(dQ (Vatwva.kidsOf v)).take (Vatwvc.placeOf (Vatwva.kidsOf v) n)++(dQ (Vatwva.kidsOf v)).drop (Vatwvc.placeOf (Vatwva.kidsOf v) n+1):=by rw[←xW,←xV,e3,e1,BP,DM]
    rw[this];exact hq
   ·have:=(g4.erase (Vatwvc.placeOf (Vatwva.kidsOf v) n)).tups (s1.trans s2).tups;have e6:(bD v).take (Vatwvc.placeOf (Vatwva.kidsOf v) n)++(bD v).drop (Vatwvc.placeOf (Vatwva.kidsOf v) n+1)=(A1++B1).map fun x=>x.2:=by unfold bD;rw[←rP,←rO,e3,e1,BP,DM,aW]
    rw[e6]at this;exact this
   ·show Vatwvc.onRecord (fun l=>if Vatwvc.hasField l n=true then some (l.filter fun x=>x.1 != n)else none) v=_;refine VM.dS.mpr ⟨hl,_,?_,rfl⟩;rw[if_pos hf,e1,KN,BS,WJ e4,WJ e5];simp[e2]
  ·show Vatwvc.onRecord (fun l=>if Vatwvc.hasField l n=true then some (l.filter fun x=>x.1 != n)else none) v=none;cases q:Vatwvc.onRecord (fun l=>if Vatwvc.hasField l n=true then some (l.filter fun x=>x.1 != n)else none) v with
   | none=>rfl
   | some w=>
    obtain⟨hl,m,hm,_⟩:=VM.dS.mp q;split at hm
    ·rename_i hf;exact absurd ⟨hl,hf⟩ c
    ·cases hm
 | _=>cases hw
theorem OG {l:List (Name×fT)} {n m:Name} (h:∀z∈l,z.1≠n):(l.map fun x=>if x.1=n then (m,x.2)else x)=l:=by
 conv=>rhs;rw[←nX l]
 exact eO fun y hy=>by rw[if_neg (h y hy)];rfl
theorem SB (T:iJ K mg a):gV P w K mg base 4 "rename_here" ["here","details"] (yD QO a K):=by
 refine kI T.f_rename_here ["here","details","place"] fun vs H Q E h=>?_;obtain⟨x,v,d,e,rfl,hw,hx,hd,hs,hn,k⟩:=h;refine⟨rfl,fun nd _ _ _ _ _ hr=>?_⟩;cases e with
 | rename p n m=>
  have hd:fE K H d [.str (bT n),.str (bT m)]:=hd;refine⟨_,aI (cM (i:=2) nd rfl (bP rfl) (bB (sZ T) hr ⟨rfl,rfl,rfl⟩ (aA (pv 0) (aA (fL fQ (pv 1) cA (fun _ _=>rfl)) aD)))) (aI (dN (bB (nQ T) hr.m ⟨rfl,rfl,rfl⟩ (aA (Zq (qY qF (fL fQ (pv 1) cA (fun _ _=>rfl)) (fL fQ (pv 1) cA (fun _ _=>rfl)) (dJ _)) (Ih (qY JZ (fL fQ (pv 1) cA (fun _ _=>rfl)) (bB (vD T) hr.m ⟨rfl,rfl,rfl⟩ (aA (pv 0) aD)) rfl))) aD))) (aN (bG (bB (oC T) hr.m ⟨rfl,rfl,rfl⟩ (aA (bB (GI T) hr.m ⟨rfl,rfl,rfl⟩ (aA (bB (vD T) hr.m ⟨rfl,rfl,rfl⟩ (aA (pv 0) aD)) (aA (pv 2) (aA (fL fQ (pv 1) cA (fun _ _=>rfl)) aD)))) (aA (bB (eR T) hr.m ⟨rfl,rfl,rfl⟩ (aA (pv 0) aD)) aD)))))),?_⟩;have kn:(¬(Vatwva.isRecord v=true∧Vatwvc.hasField (Vatwva.kidsOf v) n=true∧(n=m∨Vatwvc.hasField (Vatwva.kidsOf v) m=false)))→No a H E:=fun c=>by
   refine mT k ?_;show Vatwvc.onRecord (fun l=>if (Vatwvc.hasField l n && (n == m || !Vatwvc.hasField l m))=true then some (l.map fun x=>if x.1=n then (m,x.2)else x)else none) v=none;cases q:Vatwvc.onRecord (fun l=>if (Vatwvc.hasField l n && (n == m || !Vatwvc.hasField l m))=true then some (l.map fun x=>if x.1=n then (m,x.2)else x)else none) v with
   | none=>rfl
   | some w=>
    obtain⟨hl,m',hm,_⟩:=VM.dS.mp q;split at hm
    ·rename_i hf
     rw[aE,gN,beq_iff_eq,fF]at hf;exact absurd ⟨hl,hf.1,hf.2⟩ c
    ·cases hm
  refine⟨_,rfl,_,rfl,d,_,_,_,rfl,rfl,hd,rfl,x,v,n,rfl,hx,fun hl hf=>?_,fun c=>kn (fun z=>c ⟨z.1,z.2.1⟩) H (aZ.refl H)⟩;refine⟨_,rfl,d,_,_,_,rfl,rfl,hd,rfl,_,rfl,d,_,_,_,rfl,rfl,hd,rfl,rfl,_,rfl,?_⟩;by_cases c:n=m∨Vatwvc.hasField (Vatwva.kidsOf v) m=false
  ·refine nB (fun c1=>⟨_,rfl,fun _=>?_,fun z=>(by cases z)⟩) (fun c1=>?_)
   rotate_left
   ·have c1:m≠n:=fun z=>c1 (decide_eq_true (by rw[z]));refine⟨_,rfl,d,_,_,_,rfl,rfl,hd,rfl,_,rfl,x,v,rfl,hx,fun _ b hb=>?_,fun z=>by rw[hl]at z;cases z⟩;refine⟨b,_,rfl,.inr hb,rfl,tW _,_,rfl,fun z=>?_,fun z=>?_⟩
    rotate_left
    ·have z:(!Td (.str (bT m)) (dQ (Vatwva.kidsOf v)))=false:=z;rw[tX,Oz]at z;rcases c with t | t
     ·exact absurd t.symm c1
     ·rw[z]at t;cases t
    clear z hb b;obtain⟨A1,y,B1,e1,e2,e3,e4⟩:=KF hf;have hdist:=(hs.kids hl).2.1;rw[e1]at hdist;have e5:∀z∈B1,z.1≠n:=fun z hz=>by rw[←e2];exact BN hdist z hz
    obtain⟨p',b',c',zs,rfl,g1,g2,g3,g4⟩:=hx.rec hl;have hsm:=nF hx hn g4;have hkl:(Vatwva.kidsOf v).length≤5000:=by have:=g4.length;unfold bD at this;rw[aJ]at this;omega
    refine⟨_,rfl,.ref p',v,rfl,hx,fun _ b hb=>?_,fun z=>by rw[hl]at z;cases z⟩;refine⟨_,rfl,_,rfl,d,_,_,_,rfl,rfl,hd,rfl,b,_,Vatwvc.placeOf (Vatwva.kidsOf v) n,_,rfl,hb,by rw[gT];omega,fun q H1 s1 hq=>?_⟩;refine⟨_,rfl,p',_,_,rfl,s1.sqT g1,rfl,q,c',A1++(m,y.2)::B1,_,rfl,.inr ?_,.inr (s1.sqT g3),?_,(tI k ?_).on s1⟩
    ·have:dQ (A1++(m,y.2)::B1)=(dQ (Vatwva.kidsOf v)).take (Vatwvc.placeOf (Vatwva.kidsOf v) n)++V.str (bT m)::(dQ (Vatwva.kidsOf v)).drop (Vatwvc.placeOf (Vatwva.kidsOf v) n+1):=by rw[←xW,←xV,e3,e1,BP,DM,lZ];rfl
     rw[this];exact hq
    ·have:=g4.tups s1.tups;have e6:bD v=(A1++(m,y.2)::B1).map fun x=>x.2:=by unfold bD;rw[e1,aW,aW];rfl
     rw[e6]at this;exact this
    ·show Vatwvc.onRecord (fun l=>if (Vatwvc.hasField l n && (n == m || !Vatwvc.hasField l m))=true then some (l.map fun x=>if x.1=n then (m,x.2)else x)else none) v=_;refine VM.dS.mpr ⟨hl,_,?_,rfl⟩;rw[if_pos (by rw[aE,gN,beq_iff_eq,fF];exact⟨hf,c⟩),e1,aW,aP,OG e4,OG e5,if_pos e2]
   obtain⟨A1,y,B1,e1,e2,e3,e4⟩:=KF hf;have hdist:=(hs.kids hl).2.1;rw[e1]at hdist;have e5:∀z∈B1,z.1≠n:=fun z hz=>by rw[←e2];exact BN hdist z hz
   obtain⟨p',b',c',zs,rfl,g1,g2,g3,g4⟩:=hx.rec hl;have hsm:=nF hx hn g4;have hkl:(Vatwva.kidsOf v).length≤5000:=by have:=g4.length;unfold bD at this;rw[aJ]at this;omega
   refine⟨_,rfl,.ref p',v,rfl,hx,fun _ b hb=>?_,fun z=>by rw[hl]at z;cases z⟩;refine⟨_,rfl,_,rfl,d,_,_,_,rfl,rfl,hd,rfl,b,_,Vatwvc.placeOf (Vatwva.kidsOf v) n,_,rfl,hb,by rw[gT];omega,fun q H1 s1 hq=>?_⟩;refine⟨_,rfl,p',_,_,rfl,s1.sqT g1,rfl,q,c',A1++(m,y.2)::B1,_,rfl,.inr ?_,.inr (s1.sqT g3),?_,(tI k ?_).on s1⟩
   ·have:dQ (A1++(m,y.2)::B1)=(dQ (Vatwva.kidsOf v)).take (Vatwvc.placeOf (Vatwva.kidsOf v) n)++V.str (bT m)::(dQ (Vatwva.kidsOf v)).drop (Vatwvc.placeOf (Vatwva.kidsOf v) n+1):=by rw[←xW,←xV,e3,e1,BP,DM,lZ];rfl
    rw[this];exact hq
   ·have:=g4.tups s1.tups;have e6:bD v=(A1++(m,y.2)::B1).map fun x=>x.2:=by unfold bD;rw[e1,aW,aW];rfl
    rw[e6]at this;exact this
   ·show Vatwvc.onRecord (fun l=>if (Vatwvc.hasField l n && (n == m || !Vatwvc.hasField l m))=true then some (l.map fun x=>if x.1=n then (m,x.2)else x)else none) v=_;refine VM.dS.mpr ⟨hl,_,?_,rfl⟩;rw[if_pos (by rw[aE,gN,beq_iff_eq,fF];exact⟨hf,c⟩),e1,aW,aP,OG e4,OG e5,if_pos e2]
  ·refine nB (fun c1=>absurd (.inl (uJ (V.str.inj (of_decide_eq_true c1))).symm) c) (fun c1=>?_);refine⟨_,rfl,d,_,_,_,rfl,rfl,hd,rfl,_,rfl,x,v,rfl,hx,fun _ b hb=>?_,fun z=>by rw[hl]at z;cases z⟩;refine⟨b,_,rfl,.inr hb,rfl,tW _,_,rfl,fun z=>?_,fun z=>kn (fun t=>c t.2.2) H (aZ.refl H)⟩;have z:(!Td (.str (bT m)) (dQ (Vatwva.kidsOf v)))=true:=z;rw[tX,fF]at z;exact absurd (.inr z) c
 | _=>cases hw
def SY:Vatwva.Step→V
 | .field n=>.str (bT n)
 | .item i=>.int i
def HW (v:fT):Vatwva.Step→Option Nat
 | .field n=>if Vatwva.isRecord v=true∧Vatwvc.hasField (Vatwva.kidsOf v) n=true then some (Vatwvc.placeOf (Vatwva.kidsOf v) n)else none
 | .item i=>if Vatwva.isList v=true∧i < (Vatwva.itemsOf v).length then some i else none
theorem jO (v:fT) (n:Name):HW v (.field n)=if Vatwva.isRecord v=true∧Vatwvc.hasField (Vatwva.kidsOf v) n=true then some (Vatwvc.placeOf (Vatwva.kidsOf v) n)else none:=rfl
theorem kR (v:fT) (i:Nat):HW v (.item i)=if Vatwva.isList v=true∧i < (Vatwva.itemsOf v).length then some i else none:=rfl
def qV (v:fT) (j:Nat) (w:fT):fT:=if Vatwva.isRecord v=true then Vatwva.recordOf ((Vatwva.kidsOf v).take j++((((Vatwva.kidsOf v)[j]?).map fun x=>x.1).getD [],w)::(Vatwva.kidsOf v).drop (j+1))else Vatwva.listOf ((bD v).take j++w::(bD v).drop (j+1))
theorem JF (h:Vatwvc.hasField l n=true):∃A x B,l=A++x::B∧x.1=n∧Vatwvc.placeOf l n=A.length∧(∀y∈A,y.1≠n)∧l.find? (fun x=>x.1 == n)=some x:=by
 obtain⟨x1,hx1,n1⟩:=VM.jN.mp h;cases q:l.find? (fun x=>x.1 == n)with
 | none=>have:=xM.mp q x1 hx1;simp[n1]at this
 | some x0=>obtain⟨A,B,h1,h2,h3⟩:=VM.yS q;exact⟨A,x0,B,h1,(VM.ES q).2,h3,h2,rfl⟩
theorem Cq (h:¬Vatwvc.hasField l n=true):l.find? (fun x=>x.1 == n)=none:=by rw[xM];intro x hx c;exact h (VM.jN.mpr ⟨x,hx,by simpa using c⟩)
theorem XH (h:HW v s=some j):j < (bD v).length:=by
 cases s with
 | field n=>
  first | rw[jO]at h | rw[kR]at h
  split at h
  ·rename_i c
   cases h;obtain⟨A,x,B,h1,h2,h3,h4,_⟩:=JF c.2;unfold bD;rw[aJ,h3,h1,aC,aK];omega
  ·cases h
 | item i=>
  first | rw[jO]at h | rw[kR]at h
  split at h
  ·rename_i c
   cases h;exact c.2
  ·cases h
theorem DD:Vatwva.atPath (s::p) v=(HW v s).bind fun j=>((bD v)[j]?).bind (Vatwva.atPath p):=by
 cases s with
 | field n=>
  show(if Vatwva.isRecord v=true then (Vatwva.valueAt n (Vatwva.kidsOf v)).bind (Vatwva.atPath p)else none)=_;first | rw[jO] | rw[kR]
  by_cases hr:Vatwva.isRecord v=true
  ·rw[if_pos hr];by_cases hf:Vatwvc.hasField (Vatwva.kidsOf v) n=true
   ·rw[if_pos ⟨hr,hf⟩];obtain⟨A,x,B,h1,h2,h3,h4,h5⟩:=JF hf;have e1:Vatwva.valueAt n (Vatwva.kidsOf v)=some x.2:=by show((Vatwva.kidsOf v).find? fun x=>x.1 == n).map (fun x=>x.2)=_;rw[h5];rfl
    rw[e1];show _=((bD v)[Vatwvc.placeOf (Vatwva.kidsOf v) n]?).bind _;unfold bD;rw[bX,h3,h1,gM (aR _),mG];rfl
   ·rw[if_neg (fun c=>hf c.2)];have e1:Vatwva.valueAt n (Vatwva.kidsOf v)=none:=by show((Vatwva.kidsOf v).find? fun x=>x.1 == n).map (fun x=>x.2)=_;rw[Cq hf];rfl
    rw[e1];rfl
  ·rw[if_neg hr,if_neg (fun c=>hr c.1)];rfl
 | item i=>
  show(if Vatwva.isList v=true then ((Vatwva.itemsOf v)[i]?).bind (Vatwva.atPath p)else none)=_;first | rw[jO] | rw[kR]
  by_cases hr:Vatwva.isList v=true
  ·rw[if_pos hr];by_cases hf:i < (Vatwva.itemsOf v).length
   ·rw[if_pos ⟨hr,hf⟩];rfl
   ·rw[if_neg (fun c=>hf c.2),EG (by omega)];rfl
  ·rw[if_neg hr,if_neg (fun c=>hr c.1)];rfl
theorem Sj (l:List α) (i:Nat) (x:α) (h:i < l.length):l.set i x=l.take i++x::l.drop (i+1):=by rw[List.set_eq_take_append_cons_drop,if_pos h]
theorem FW (hs:Py v):Vatwvc.changeAt f (s::p) v=(HW v s).bind fun j=>((bD v)[j]?).bind fun x=>(Vatwvc.changeAt f p x).map (qV v j):=by
 cases s with
 | field n=>
  rw[Vatwvc.changeAt];first | rw[jO] | rw[kR]
  by_cases hr:Vatwva.isRecord v=true
  ·rw[if_pos hr];by_cases hf:Vatwvc.hasField (Vatwva.kidsOf v) n=true
   ·rw[if_pos ⟨hr,hf⟩];obtain⟨A,x,B,h1,h2,h3,h4,h5⟩:=JF hf;have hdist:=(hs.kids hr).2.1;rw[h1]at hdist;have e5:∀z∈B,z.1≠n:=fun z hz=>by rw[←h2];exact BN hdist z hz
    simp only[h5];have e0:(Vatwva.kidsOf v)[A.length]?=some x:=by rw[h1,gM (aR _),mG];rfl
    have e1:(bD v)[Vatwvc.placeOf (Vatwva.kidsOf v) n]?=some x.2:=by unfold bD;rw[bX,h3,e0];rfl
    show _=((bD v)[Vatwvc.placeOf (Vatwva.kidsOf v) n]?).bind _;rw[e1];show _=(Vatwvc.changeAt f p x.2).map _;congr 1;funext w;unfold qV;rw[if_pos hr,h3,e0];congr 1;have e6:(Vatwva.kidsOf v).take A.length=A:=by rw[h1];exact FR
    have e7:(Vatwva.kidsOf v).drop (A.length+1)=B:=by rw[h1];exact DM A B x
    rw[e6,e7]
    conv=>lhs;rw[h1]
    rw[aW,aP,if_pos h2];have key:∀l:List (Name×fT),(∀z∈l,z.1≠n)→(l.map fun y=>if y.1=n then (n,w)else y)=l:=fun l hl=>by
     conv=>rhs;rw[←nX l]
     exact eO fun y hy=>by rw[if_neg (hl y hy)];rfl
    rw[key A h4,key B e5];show _=A++(x.1,w)::B;rw[h2]
   ·rw[if_neg (fun c=>hf c.2)];simp only[Cq hf];rfl
  ·rw[if_neg hr,if_neg (fun c=>hr c.1)];rfl
 | item i=>
  rw[Vatwvc.changeAt];first | rw[jO] | rw[kR]
  by_cases hr:Vatwva.isList v=true
  ·rw[if_pos hr];have hnr:¬Vatwva.isRecord v=true:=by rcases hs.1.cases with⟨t,rfl⟩ | ⟨z,rfl⟩ | ⟨k,rfl⟩ | ⟨k,rfl⟩<;>first | (intro c;cases c;done) | (cases hr;done)
   by_cases hf:i < (Vatwva.itemsOf v).length
   ·rw[if_pos ⟨hr,hf⟩];have e0:(Vatwva.itemsOf v)[i]?=some (Vatwva.itemsOf v)[i]:=bC hf;simp only[e0];show _=((Vatwva.itemsOf v)[i]?).bind _;rw[e0];show _=(Vatwvc.changeAt f p _).map _;congr 1;funext w;unfold qV;rw[if_neg hnr,Sj _ _ _ hf];rfl
   ·rw[if_neg (fun c=>hf c.2)];simp only[EG (show(Vatwva.itemsOf v).length≤i by omega)];rfl
  ·rw[if_neg hr,if_neg (fun c=>hr c.1)];rfl
def VE (a:mI) (K:aB):Sp:=fun vs H Q E=>∃(x:V) (v:fT) (s:Vatwva.Step),vs=[x,SY s]∧oB K H x v∧(∀j,HW v s=some j→Q (.int (j:Nat)) H)∧(HW v s=none→E (.ref a.xInapplicable) none H)
theorem GG (T:iJ K mg a):gV P w K mg base 4 "step_place" ["here","step"] (VE a K):=by
 refine kI T.f_step_place ["here","step"] fun vs H Q E h=>?_;obtain⟨x,v,s,rfl,hx,k1,k2⟩:=h;refine⟨rfl,fun nd _ _ _ _ _ hr=>?_⟩;refine⟨_,aI (fA (mS (Eh (pv 1) rfl T.n_isinstance rfl T.n_str)) (aN (bG (bB (sZ T) hr ⟨rfl,rfl,rfl⟩ (aA (pv 0) (aA (pv 1) aD))))) cY) (aN (bG (bB (uP T) hr ⟨rfl,rfl,rfl⟩ (aA (pv 0) (aA (pv 1) aD))))),?_⟩;cases s with
 | field n=>
  refine⟨_,rfl,.inl ⟨_,rfl,_,rfl,sY ⟨_,rfl,_,rfl,x,v,n,rfl,hx,fun h1 h2=>k1 _ ?_,fun c=>k2 ?_⟩⟩⟩
  ·first | rw[jO] | rw[kR]
   rw[if_pos ⟨h1,h2⟩]
  ·first | rw[jO] | rw[kR]
   rw[if_neg c]
 | item i=>
  refine⟨_,rfl,.inr ⟨_,rfl,_,rfl,xK ⟨_,rfl,_,rfl,x,v,i,rfl,hx,fun h1 h2=>k1 _ ?_,fun c=>k2 ?_⟩⟩⟩
  ·first | rw[jO] | rw[kR]
   rw[if_pos ⟨h1,h2⟩]
  ·first | rw[jO] | rw[kR]
   rw[if_neg c]
theorem pE {b:Bool} {p q:Prop} (e:b=true) (h:p):if b=true then p else q:=by rw[if_pos e];exact h
theorem mP {b:Bool} {p q:Prop} (e:b=false) (h:q):if b=true then p else q:=by rw[if_neg (by rw[e];decide)];exact h
def qG (p:Vatwvc.Path):List V:=p.map SY
theorem fW.getR (h:fW K H zs vs):∀{j:Nat} {u:fT},vs[j]?=some u→∃y,zs[j]?=some y∧oB K H y u:=by
 induction h with
 | nil=>intro j u e;cases e
 | cons r t ih=>
  intro j u e;cases j with
  | zero=>cases e;exact⟨_,rfl,r⟩
  | succ j=>exact ih e
def Fg (a:mI) (K:aB):Sp:=fun vs H Q E=>∃(x:V) (v:fT) (pp:aQ) (p:Vatwvc.Path),vs=[x,.ref pp]∧oB K H x v∧fE K H pp (qG p)∧(∀u y,Vatwva.atPath p v=some u→oB K H y u→Q y H)∧(Vatwva.atPath p v=none→E (.ref a.xInapplicable) none H)
theorem Dz (T:iJ K mg a):gV P w K mg base 5 "value_at" ["value","path"] (Fg a K):=by
 refine kI T.f_value_at ["value","path","here","step"] fun vs H Q E h=>?_;obtain⟨x,v,pp,p,rfl,hx,hp,k1,k2⟩:=h;refine⟨rfl,fun nd _ _ _ _ _ hr=>?_⟩;refine⟨_,aI (cM (i:=2) nd rfl (bP rfl) (pv 0)) (aI (pI (gH ⟨rfl,rfl,rfl⟩) rfl (BG (pv 1)) (eY (i:=3) nd rfl (bP rfl)) (aN (cM (i:=2) nd rfl (bP rfl) (fL fQ (bB (eR T) hr.m ⟨rfl,rfl,rfl⟩ (aA (pv 2) aD)) (bB (GG T) hr ⟨rfl,rfl,rfl⟩ (aA (pv 2) (aA (pv 3) aD))) (fun _ _=>rfl))))) (aN (bG (pv 2)))),?_⟩;refine⟨_,rfl,_,rfl,pp,rfl,⟨_,hp⟩,OD (xs:=qG p) (fun i σ H'=>H'=H∧∃y u st,σ=[some x,some (.ref pp),some y,st]∧oB K H y u∧Vatwva.atPath (p.drop i) u=Vatwva.atPath p v) ⟨rfl,x,v,none,rfl,hx,rfl⟩ (fun i σ H' _ ⟨e,_⟩=>by rw[e];exact hp) ?_ ?_⟩
 ·rintro i z σ _ hz ⟨rfl,y,u,st,rfl,hy,e⟩;unfold qG at hz;rw[bX]at hz;cases hs:p[i]? with
  | none=>rw[hs]at hz;cases hz
  | some s=>
   rw[hs]at hz;cases hz;have hd:p.drop i=s::p.drop (i+1):=by obtain⟨hi,rfl⟩:=aS.mp hs;exact bM hi
   rw[hd,DD]at e;obtain⟨p',o,c,zs,rfl,g1,g2,g3⟩:=hy.parts;refine⟨_,rfl,p',_,_,rfl,g1,rfl,_,rfl,_,rfl,.ref p',u,s,rfl,hy,fun j hj=>?_,fun hn=>k2 ?_⟩
   ·have hlt:=XH hj;have hu:(bD u)[j]?=some (bD u)[j]:=bC hlt;obtain⟨y1,e1,h1⟩:=fW.getR g3 hu;rw[hj]at e;refine⟨c,zs,j,y1,rfl,rfl,g2,fZ e1,rfl,y1,_,_,rfl,h1,?_⟩;rw[←e];show _=((bD u)[j]?).bind _;rw[hu];rfl
   ·rw[←e,hn];rfl
 ·rintro σ _ ⟨rfl,y,u,st,rfl,hy,e⟩;have e0:(qG p).length=p.length:=aJ _;rw[e0,jP]at e;exact⟨_,rfl,k1 u y e.symm hy⟩
def Bd (K:aB):Sp:=fun vs H Q _=>∃(x:V) (v:fT) (j:Nat) (y:V) (u:fT),vs=[x,.int j,y]∧oB K H x v∧oB K H y u∧j < (bD v).length∧Vatwva.count v≤5000∧sR K H (qV v j u) Q
theorem ZV (T:iJ K mg a):gV P w K mg base 2 "with_part" ["value","place","part"] (Bd K):=by
 refine kI T.f_with_part ["value","place","part","parts"] fun vs H Q E h=>?_;obtain⟨x,v,j,y,u,rfl,hx,hy,hj,hn,k⟩:=h;refine⟨rfl,fun nd _ _ _ _ _ hr=>?_⟩;obtain⟨ur,hm,ru⟩:=T.c_RECORD;refine⟨_,aI (cM (i:=3) nd rfl (bP rfl) (bB (GI T) hr ⟨rfl,rfl,rfl⟩ (aA (bB (eR T) hr ⟨rfl,rfl,rfl⟩ (aA (pv 0) aD)) (aA (pv 1) (aA (pv 2) aD))))) (aI (fA (dA qF (bB (mC T) hr ⟨rfl,rfl,rfl⟩ (aA (pv 0) aD)) (dM rfl hm ru) (dJ _)) (aN (bG (bB (oC T) hr ⟨rfl,rfl,rfl⟩ (aA (bB (rY T) hr ⟨rfl,rfl,rfl⟩ (aA (pv 0) aD)) (aA (pv 3) aD))))) cY) (aN (bG (bB (qR T) hr ⟨rfl,rfl,rfl⟩ (aA (pv 3) aD))))),?_⟩;obtain⟨p,o,c,zs,rfl,g1,g2,g3⟩:=hx.parts;have hl:=nF hx hn g3;refine⟨_,rfl,p,_,_,rfl,g1,rfl,_,rfl,_,rfl,c,zs,j,y,rfl,g2,bI hl (by decide),fun q H1 s1 hq=>?_⟩;have h4:fW K H1 (zs.take j++y::zs.drop (j+1)) ((bD v).take j++u::(bD v).drop (j+1)):=((g3.take j).append (.cons hy (g3.drop (j+1)))).tups s1.tups;refine⟨_,rfl,p,_,_,rfl,s1.sqT g1,rfl,rfl,_,rfl,?_⟩;by_cases hrec:Vatwva.isRecord v=true
 ·have e1:=(QW hx.1).mpr hrec;refine pE (decide_eq_true (congrArg V.str e1)) ?_;obtain⟨p',b',c',zs',e,f1,f2,f3,f4⟩:=hx.rec hrec;cases e;refine⟨_,rfl,p,_,_,rfl,s1.sqT f1,rfl,_,rfl,b',q,(Vatwva.kidsOf v).take j++((((Vatwva.kidsOf v)[j]?).map fun x=>x.1).getD [],u)::(Vatwva.kidsOf v).drop (j+1),_,rfl,.inr ?_,.inr hq,?_,?_⟩
  ·have e2:dQ ((Vatwva.kidsOf v).take j++((((Vatwva.kidsOf v)[j]?).map fun x=>x.1).getD [],u)::(Vatwva.kidsOf v).drop (j+1))=dQ (Vatwva.kidsOf v):=by
    have hj':j < (Vatwva.kidsOf v).length:=by unfold bD at hj;rwa [aJ]at hj
    conv=>rhs;rw[←gB j (Vatwva.kidsOf v),bM hj']
    rw[lZ,lZ];congr 1;show V.str _::_=V.str _::_;rw[bC hj'];rfl
   rw[e2];exact s1.sqT f2
  ·have e3:((Vatwva.kidsOf v).take j++((((Vatwva.kidsOf v)[j]?).map fun x=>x.1).getD [],u)::(Vatwva.kidsOf v).drop (j+1)).map (fun x=>x.2)=(bD v).take j++u::(bD v).drop (j+1):=by unfold bD;rw[aW,aP,rP,rO]
   rw[e3];exact h4
  ·unfold qV at k;rw[if_pos hrec]at k;exact sR.on k s1
 ·have e1:vA v≠"record":=fun z=>hrec ((QW hx.1).mp z);refine mP (decide_eq_false fun z=>e1 (V.str.inj z)) ?_;refine⟨_,rfl,q,_,_,rfl,.inr hq,h4,?_⟩;unfold qV at k;rw[if_neg hrec]at k;exact sR.on k s1
end My
end
section
namespace My
open Vatwva (Text Name)
open Vatwvc (Edit)
open VM
def vH (l:List fT):Nat:=(l.map Vatwva.count).sum
theorem pL (a b:List fT):vH (a++b)=vH a+vH b:=by unfold vH;rw[aW,List.sum_append]
theorem oO (x:fT) (b:List fT):vH (x::b)=Vatwva.count x+vH b:=by unfold vH;rw[aP,dU]
theorem uK (l:List fT) (i:Nat):vH (l.take i)+vH (l.drop i)=vH l:=by rw[←pL,gB]
structure Mb (W c:Nat) (d:Nat) (v w:fT):Prop where
 good:eB W w
 count:Vatwva.count w≤Vatwva.count v+c
 deep:Vatwva.deep w≤Vatwva.deep v+d
theorem HI (h:eB W v):∀x∈bD v,eB W x:=by
 intro x hx;rcases h.1.cases with⟨t,rfl⟩ | ⟨z,rfl⟩ | ⟨k,rfl⟩ | ⟨k,rfl⟩
 ·cases hx
 ·cases hx
 ·obtain⟨y,hy,rfl⟩:=aX.mp hx;exact((h.kids rfl).2.2 y hy).2
 ·exact(h.items rfl).2 x hx
theorem EZ {W c d:Nat} {v:fT} {l:List fT} (o:mJ v) (hl:l.length≤W) (hg:∀x∈l,eB W x) (hc:vH l≤vH (bD v)+c) (hd:∀x∈l,Vatwva.deep x+1≤Vatwva.deep v+d) (hd0:1≤Vatwva.deep v+d):Mb W c d v (Vatwva.listOf l):=by
 have ho:∀x∈l,mJ x:=fun x hx=>(hg x hx).1;refine⟨(rX ho).mpr ⟨hl,hg⟩,?_,?_⟩
 ·rw[lL ho,uW o];unfold vH at hc;omega
 ·rw[lM ho];have:pS (l.map Vatwva.deep)≤Vatwva.deep v+d - 1:=by rw[pT];intro x hx;obtain⟨y,hy,rfl⟩:=aX.mp hx;have:=hd y hy;omega
  omega
theorem JO {W c d:Nat} {v:fT} {l:List (Name×fT)} (o:mJ v) (hl:l.length≤W) (hdist:Vatwva.distinct (l.map fun x=>x.1)=true) (hg:∀x∈l,Vatwva.isName x.1=true∧eB W x.2) (hc:vH (l.map fun x=>x.2)≤vH (bD v)+c) (hd:∀x∈l,Vatwva.deep x.2+1≤Vatwva.deep v+d) (hd0:1≤Vatwva.deep v+d):Mb W c d v (Vatwva.recordOf l):=by
 have ho:∀x∈l,mJ x.2:=fun x hx=>(hg x hx).2.1;refine⟨(zO ho).mpr ⟨hl,hdist,hg⟩,?_,?_⟩
 ·rw[mL ho,uW o];unfold vH at hc;rw[cP]at hc;rw[Bu];exact Pb hc 1
 ·rw[lY ho];have:pS (l.map fun x=>Vatwva.deep x.2)≤Vatwva.deep v+d - 1:=by rw[pT];intro x hx;obtain⟨y,hy,rfl⟩:=aX.mp hx;have:=hd y hy;omega
  exact bI (Nat.add_le_add_right this 1) (by omega)
theorem vX {v x:fT} (o:mJ v) (h:x∈bD v):Vatwva.deep x+1≤Vatwva.deep v:=EN o h
def FU:gE→Prop
 | .set _ v=>Vatwva.count v≤60∧Vatwva.deep v≤6
 | .put _ _ v=>Vatwva.count v≤60∧Vatwva.deep v≤6
 | .add _ _ _ v=>Vatwva.count v≤60∧Vatwva.deep v≤6
 | _=>True
theorem JP {α:Type} {l:List α} {i:Nat} {a x:α} (h:x∈l.take i++a::l.drop i):x=a∨x∈l:=by
 rcases eE.mp h with h | h
 ·exact .inr (iS h)
 ·rcases aT.mp h with h | h
  ·exact .inl h
  ·exact .inr (fP h)
theorem Mx {W:Nat} {e:gE} {x y:fT} (hf:tT W e) (hs:FU e) (gx:eB W x) (h:Vatwvc.doneAt e x=some y):Mb (W+1) 60 7 x y:=by
 have hm:=fun(z:fT) (q:eB W z)=>eB.mono (vV W) q;have dp:=qO gx.1;cases e with
 | set p v=>cases h;exact⟨hm _ hf,by have:=hs.1;omega,by have:=hs.2;omega⟩
 | put p i v=>
  obtain⟨hl,m,hm',rfl⟩:=eS.mp (PY h);obtain⟨hi,rfl⟩:=iW.mp hm';have gi:=gx.items hl;have hcv:=hs.1;have hdv:=hs.2;refine EZ gx.1 ?_ (fun z hz=>?_) ?_ (fun z hz=>?_) (by omega)
  ·rw[aC,aK,bJ,cW];have:=gi.1;omega
  ·rcases JP hz with rfl | hz
   ·exact hm _ hf
   ·exact hm _ (gi.2 z hz)
  ·rw[pL,oO];have:=uK (Vatwva.itemsOf x) i;have e:bD x=Vatwva.itemsOf x:=rfl;rw[e];omega
  ·rcases JP hz with rfl | hz
   ·omega
   ·have:=vX gx.1 (show z∈bD x from hz);omega
 | take p i=>
  obtain⟨hl,m,hm',rfl⟩:=eS.mp (LD h);unfold Vatwvc.takeAt at hm';split at hm'
  ·cases hm';have gi:=gx.items hl;refine EZ gx.1 ?_ (fun z hz=>hm _ (gi.2 z (jW hz))) ?_ (fun z hz=>?_) (by omega)
   ·have:=List.length_eraseIdx_le (Vatwva.itemsOf x) i;have:=gi.1;omega
   ·rw[jI,pL];have h1:=uK (Vatwva.itemsOf x) i;have h2:vH ((Vatwva.itemsOf x).drop (i+1))≤vH ((Vatwva.itemsOf x).drop i):=by
     rename_i hi
     rw[bM hi,oO];omega
    have e:bD x=Vatwva.itemsOf x:=rfl;rw[e];omega
   ·have:=vX gx.1 (show z∈bD x from jW hz);omega
  ·cases hm'
 | move p i j=>
  obtain⟨hl,m,hm',rfl⟩:=eS.mp (LC h);unfold Vatwvc.moveAt at hm';split at hm'
  ·cases q:(Vatwva.itemsOf x)[i]? with
   | none=>rw[q]at hm';cases hm'
   | some z0=>
    rw[q]at hm';obtain⟨hj,rfl⟩:=iW.mp hm';have gi:=gx.items hl;have h0:=bA q;have mem:∀z∈(((Vatwva.itemsOf x).eraseIdx i).take j++z0::((Vatwva.itemsOf x).eraseIdx i).drop j),z∈Vatwva.itemsOf x:=fun z hz=>by
     rcases JP hz with rfl | hz
     ·exact h0
     ·exact jW hz
    have hi:=(aS.mp q).1;refine EZ gx.1 ?_ (fun z hz=>hm _ (gi.2 z (mem z hz))) ?_ (fun z hz=>?_) (by omega)
    ·rw[aC,aK,bJ,cW];have:=qA hi;have:=gi.1;omega
    ·rw[pL,oO];have h1:=uK ((Vatwva.itemsOf x).eraseIdx i) j;have h3:vH ((Vatwva.itemsOf x).eraseIdx i)+Vatwva.count z0=vH (Vatwva.itemsOf x):=by rw[jI,pL];have h1:=uK (Vatwva.itemsOf x) i;rw[bM hi,oO,(aS.mp q).2]at h1;omega
     have e:bD x=Vatwva.itemsOf x:=rfl;rw[e];omega
    ·have:=vX gx.1 (show z∈bD x from mem z hz);omega
  ·cases hm'
 | add p i n v=>
  obtain⟨hl,m,hm',rfl⟩:=dS.mp (PV h);split at hm'
  ·cases hm'
  ·rename_i hn
   obtain⟨hi,rfl⟩:=iW.mp hm';have gi:=gx.kids hl;have hcv:=hs.1;have hdv:=hs.2;refine JO gx.1 ?_ ?_ (fun z hz=>?_) ?_ (fun z hz=>?_) (by omega)
   ·rw[aC,aK,bJ,cW];have:=gi.1;omega
   ·rw[iE,aW,aP];have h0:=(iE _).mp gi.2.1;rw[←gB i (Vatwva.kidsOf x),aW]at h0;have hne:∀z∈Vatwva.kidsOf x,z.1≠n:=pD.mp (hZ.mpr hn);rw[oW]at h0 ⊢;refine⟨h0.1,eL.mpr ⟨fun c=>?_,h0.2.1⟩,fun a ha b hb=>?_⟩
    ·obtain⟨z,hz,e⟩:=aX.mp c;exact hne z (fP hz) e
    ·rcases aT.mp hb with rfl | hb
     ·obtain⟨z,hz,rfl⟩:=aX.mp ha;exact hne z (iS hz)
     ·exact h0.2.2 a ha b hb
   ·rcases JP hz with rfl | hz
    ·exact⟨hf.1,hm _ hf.2⟩
    ·exact⟨(gi.2.2 z hz).1,hm _ (gi.2.2 z hz).2⟩
   ·rw[aW,aP,rP,rO,pL,oO];have:=uK (bD x) i;show vH ((bD x).take i)+(Vatwva.count v+vH ((bD x).drop i))≤_;omega
   ·rcases JP hz with rfl | hz
    ·show Vatwva.deep v+1≤_;omega
    ·have:=vX gx.1 (show z.2∈bD x from aX.mpr ⟨z,hz,rfl⟩);omega
 | drop p n=>
  obtain⟨hl,m,hm',rfl⟩:=dS.mp (EQ h);split at hm'
  ·cases hm';have gi:=gx.kids hl;have sub:((Vatwva.kidsOf x).filter fun z=>z.1 != n).Sublist (Vatwva.kidsOf x):=List.filter_sublist;refine JO gx.1 ?_ ?_ (fun z hz=>?_) ?_ (fun z hz=>?_) (by omega)
   ·have:=sub.length_le;have:=gi.1;omega
   ·rw[iE];exact((iE _).mp gi.2.1).sublist (sub.map _)
   ·have hz:=(kJ.mp hz).1;exact⟨(gi.2.2 z hz).1,hm _ (gi.2.2 z hz).2⟩
   ·have key:∀l:List (Name×fT),vH ((l.filter fun z=>z.1 != n).map fun z=>z.2)≤vH (l.map fun z=>z.2):=by
     intro l;induction l with
     | nil=>exact aR _
     | cons a l ih=>
      rw[BS];split
      ·rw[aP,aP,oO,oO];omega
      ·rw[aP,oO];omega
    exact bI (key (Vatwva.kidsOf x)) (OQ _ _)
   ·have:=vX gx.1 (show z.2∈bD x from aX.mpr ⟨z,(kJ.mp hz).1,rfl⟩);omega
  ·cases hm'
 | rename p n m=>
  obtain⟨hl,k,hm',rfl⟩:=dS.mp (DK h);split at hm'
  ·rename_i hc
   cases hm';rw[aE,gN,beq_iff_eq,fF]at hc;have gi:=gx.kids hl;have em:((Vatwva.kidsOf x).map fun z=>if z.1=n then (m,z.2)else z).map (fun z=>z.2)=bD x:=by rw[cP];unfold bD;refine eO fun z hz=>?_;show(if z.1=n then (m,z.2)else z).2=z.2;split<;>rfl
   refine JO gx.1 ?_ ?_ (fun z hz=>?_) (by rw[em];omega) (fun z hz=>?_) (by omega)
   ·rw[aJ];have:=gi.1;omega
   ·rw[iE,cP];have h0:=(iE _).mp gi.2.1;have hinj:=WV gi.2.1;rcases hc.2 with rfl | hn
    ·have:((Vatwva.kidsOf x).map ((fun z=>z.1)∘fun z=>if z.1=n then (n,z.2)else z))=(Vatwva.kidsOf x).map fun z=>z.1:=by
      refine eO fun z hz=>?_;show(if z.1=n then (n,z.2)else z).1=z.1;split
      ·rename_i c;exact c.symm
      ·rfl
     rw[this];exact h0
    ·have hne:=pD.mp hn;have key:∀l:List (Name×fT),(l.map fun z=>z.1).Nodup→(∀z∈l,z.1≠m)→(l.map ((fun z=>z.1)∘fun z=>if z.1=n then (m,z.2)else z)).Nodup:=by
      intro l;induction l with
      | nil=>intro _ _;exact FQ
      | cons a l ih=>
       intro h1 h2;rw[aP,eL]at h1 ⊢;refine⟨fun c=>?_,ih h1.2 fun z hz=>h2 z (aL _ hz)⟩;obtain⟨b,hb,e⟩:=aX.mp c;have e:(if b.1=n then (m,b.2)else b).1=(if a.1=n then (m,a.2)else a).1:=e;split at e
       ·rename_i c1
        split at e
        ·rename_i c2
         exact h1.1 (aX.mpr ⟨b,hb,by rw[c1,c2]⟩)
        ·exact h2 a aM e.symm
       ·split at e
        ·exact h2 b (aL _ hb) e
        ·exact h1.1 (aX.mpr ⟨b,hb,e⟩)
     exact key _ h0 hne
   ·obtain⟨b,hb,rfl⟩:=aX.mp hz;split
    ·exact⟨hf.2,hm _ (gi.2.2 b hb).2⟩
    ·exact⟨(gi.2.2 b hb).1,hm _ (gi.2.2 b hb).2⟩
   ·obtain⟨b,hb,rfl⟩:=aX.mp hz;have:=vX gx.1 (show b.2∈bD x from aX.mpr ⟨b,hb,rfl⟩);split
    ·show Vatwva.deep b.2+1≤_;omega
    ·omega
  ·cases hm'
theorem OH {α:Type} {l:List α} {i:Nat} {a x:α} (h:x∈l.take i++a::l.drop (i+1)):x=a∨x∈l:=by
 rcases eE.mp h with h | h
 ·exact .inr (iS h)
 ·rcases aT.mp h with h | h
  ·exact .inl h
  ·exact .inr (fP h)
theorem VN {W c d j:Nat} {v x y:fT} (gv:eB W v) (e:(bD v)[j]?=some x) (h:Mb (W+1) c d x y):Mb (W+1) c d v (qV v j y):=by
 have hm:=fun(z:fT) (q:eB W z)=>eB.mono (vV W) q;have hj:=(aS.mp e).1;have hx:x∈bD v:=bA e;have dv:=vX gv.1 hx;have dy:=h.deep;have cy:=h.count;have hsum:vH ((bD v).take j++y::(bD v).drop (j+1))≤vH (bD v)+c:=by rw[pL,oO];have h1:=uK (bD v) j;rw[bM hj,oO,(aS.mp e).2]at h1;omega
 unfold qV;split
 ·rename_i hr
  have gi:=gv.kids hr;have hj':j < (Vatwva.kidsOf v).length:=by unfold bD at hj;rwa [aJ]at hj
  have e0:(((Vatwva.kidsOf v)[j]?).map fun x=>x.1).getD []=(Vatwva.kidsOf v)[j].1:=by rw[bC hj'];rfl
  rw[e0];have em:((Vatwva.kidsOf v).take j++((Vatwva.kidsOf v)[j].1,y)::(Vatwva.kidsOf v).drop (j+1)).map (fun x=>x.1)=(Vatwva.kidsOf v).map fun x=>x.1:=by
   rw[aW,aP]
   conv=>rhs;rw[←gB j (Vatwva.kidsOf v),bM hj',aW,aP]
  refine JO gv.1 ?_ (by rw[em];exact gi.2.1) (fun z hz=>?_) ?_ (fun z hz=>?_) (by omega)
  ·rw[aC,aK,bJ,cW];have:=gi.1;omega
  ·rcases OH hz with rfl | hz
   ·exact⟨(gi.2.2 _ (List.getElem_mem hj')).1,h.good⟩
   ·exact⟨(gi.2.2 z hz).1,hm _ (gi.2.2 z hz).2⟩
  ·rw[aW,aP,rP,rO];exact hsum
  ·rcases OH hz with rfl | hz
   ·show Vatwva.deep y+1≤_;omega
   ·have:=vX gv.1 (show z.2∈bD v from aX.mpr ⟨z,hz,rfl⟩);omega
 ·refine EZ gv.1 ?_ (fun z hz=>?_) hsum (fun z hz=>?_) (by omega)
  ·rw[aC,aK,bJ,cW];have:(bD v).length≤W:=by
    rcases gv.1.cases with⟨t,rfl⟩ | ⟨z,rfl⟩ | ⟨k,rfl⟩ | ⟨k,rfl⟩
    ·exact aY _
    ·exact aY _
    ·have:=(gv.kids rfl).1;unfold bD;rw[aJ];exact this
    ·exact(gv.items rfl).1
   omega
  ·rcases OH hz with rfl | hz
   ·exact h.good
   ·exact hm _ (HI gv z hz)
  ·rcases OH hz with rfl | hz
   ·omega
   ·have:=vX gv.1 hz;omega
theorem FX (hW:W≤10000) (hf:tT W e) (hs:FU e):∀(p:Vatwvc.Path) {v w:fT},eB W v→Vatwvc.changeAt (Vatwvc.doneAt e) p v=some w→Mb (W+1) 60 7 v w
 | [],v,w,gv,h=>Mx hf hs gv h
 | s::p,v,w,gv,h=>by rw[FW (gv.mono hW)]at h;obtain⟨j,hj,h⟩:=bE.mp h;obtain⟨x,hx,h⟩:=bE.mp h;obtain⟨y,hy,rfl⟩:=aO.mp h;exact VN gv hx (FX hW hf hs p (HI gv x (bA hx)) hy)
end My
end
section
namespace My
open PySem PySem.Spec PyProof.Rows L2
open PySem.W (Frag)
open Vatwva (Text Name)
open Vatwvc (Edit State Found cheaper andThen)
open VM (cG jV kD jF uG kN KD dI cT qZ NL rF MV oS uH pK qI wA gQ CB KG SG mV)
variable {P:Program} {w:World} {K:Frag} {mg:Str→Option Value} {base:Heap} {a:mI}
structure sI (P:dF) (w:eV) (K:aB) (mg:Str→Option Value) (a:mI):Prop where
 changes:∃f1 f2 f3 f4 f5 f6 f7,(mg "set_here"=some (.ref f1)∧mg "put_here"=some (.ref f2)∧mg "take_here"=some (.ref f3)∧mg "move_here"=some (.ref f4)∧mg "add_here"=some (.ref f5)∧mg "drop_here"=some (.ref f6)∧mg "rename_here"=some (.ref f7))∧
  xO P w K a.dCHANGES [(.inr "set",.ref f1),(.inr "put",.ref f2),(.inr "take",.ref f3),(.inr "move",.ref f4),(.inr "add",.ref f5),(.inr "drop",.ref f6),(.inr "rename",.ref f7)]
 backs:∃f1 f2 f3 f4 f5 f6 f7,(mg "back_of_set"=some (.ref f1)∧mg "back_of_put"=some (.ref f2)∧mg "back_of_take"=some (.ref f3)∧mg "back_of_move"=some (.ref f4)∧mg "back_of_add"=some (.ref f5)∧mg "back_of_drop"=some (.ref f6)∧mg "back_of_rename"=some (.ref f7))∧
  xO P w K a.dBACKS [(.inr "set",.ref f1),(.inr "put",.ref f2),(.inr "take",.ref f3),(.inr "move",.ref f4),(.inr "add",.ref f5),(.inr "drop",.ref f6),(.inr "rename",.ref f7)]
 forms:∃t1 t2 t3 t4 t5 t6 t7,(∀H:Hp,fE K H t1 [.str "value"]∧fE K H t2 [.str "place",.str "value"]∧fE K H t3 [.str "place"]∧fE K H t4 [.str "place",.str "place"]∧fE K H t5 [.str "place",.str "name",.str "value"]∧fE K H t6 [.str "name"]∧fE K H t7 [.str "name",.str "name"])∧
  xO P w K a.dFORMS [(.inr "set",.ref t1),(.inr "put",.ref t2),(.inr "take",.ref t3),(.inr "move",.ref t4),(.inr "add",.ref t5),(.inr "drop",.ref t6),(.inr "rename",.ref t7)]
 empty:∀H:Hp,oB K H (.ref a.dEMPTY_RECORD) (Vatwva.vRec .nil)
def Hs:gE→gE→Bool
 | .set _ _=>Rb
 | .put _ _ _=>Ra
 | .take _ _=>Hu
 | .move _ _ _=>Ht
 | .add _ _ _ _=>Qz
 | .drop _ _=>Hr
 | .rename _ _ _=>QO
theorem MJ (e:gE):Hs e e=true:=by cases e<;>rfl
def Te (P:dF) (w:eV) (K:aB) (mg:Str→Option Value) (base:gC) (k:Nat) (v:V) (sp:Sp):Prop:=∃f fd ps,v=.ref f∧gG K (.ref f)=true∧sP K fd ps []∧vN P w K mg base (UG P w) k f fd ps sp
theorem gV.fnv (F:gV P w K mg base k n ps sp) (h:mg n=some (.ref f)):Te P w K mg base k (.ref f) sp:=by obtain⟨f',fd,a,b,c,d⟩:=F.ex;rw[h]at a;cases a;exact⟨f,fd,ps,rfl,b,c,d⟩
theorem Ch (T:iJ K mg a) (B:sI P w K mg a) (e:gE):∃kvs f,xO P w K a.dCHANGES kvs∧qJ kvs (.inr (GQ e))=some (.ref f)∧Te P w K mg base 4 (.ref f) (yD (Hs e) a K):=by
 obtain⟨f1,f2,f3,f4,f5,f6,f7,⟨h1,h2,h3,h4,h5,h6,h7⟩,kd⟩:=B.changes;cases e with
 | set p v=>exact⟨_,f1,kd,rfl,gV.fnv ((Dy T).mono (by decide)) h1⟩
 | put p i v=>exact⟨_,f2,kd,rfl,gV.fnv ((Dv T).mono (by decide)) h2⟩
 | take p i=>exact⟨_,f3,kd,rfl,gV.fnv ((ZT T).mono (by decide)) h3⟩
 | move p i j=>exact⟨_,f4,kd,rfl,gV.fnv ((ZL T).mono (by decide)) h4⟩
 | add p i n v=>exact⟨_,f5,kd,rfl,gV.fnv ((Dr T).mono (by decide)) h5⟩
 | drop p n=>exact⟨_,f6,kd,rfl,gV.fnv ((ZK T).mono (by decide)) h6⟩
 | rename p n m=>exact⟨_,f7,kd,rfl,gV.fnv ((SB T).mono (by decide)) h7⟩
def Ca (a:mI) (K:aB) (H:Hp) (p:aQ) (e:gE):Prop:=∃dx pp d,H p=some (.ins a.cEdit dx [("word",.str (GQ e)),("path",.ref pp),("details",.ref d)])∧fE K H pp (qG (Vatwvc.pathIn e))∧Tc K H d e
theorem Ca.same (s:aZ H H') (h:Ca a K H p e):Ca a K H' p e:=let ⟨dx,pp,d,h1,h2,h3⟩:=h;⟨dx,pp,d,s _ _ h1,s.sqT h2,h3.tups s.tups⟩
def Tf (K:aB) (H:Hp) (r:V) (fr:fT×Nat):Prop:=∃t y,r=.ref t∧fE K H t [y,.int fr.2]∧oB K H y fr.1∧fr.2 < (bD fr.1).length∧Vatwva.count fr.1≤5000
theorem Tf.tups (s:zH H H') (h:Tf K H r fr):Tf K H' r fr:=let ⟨t,y,h1,h2,h3,h4,h5⟩:=h;⟨t,y,h1,s.sqT h2,h3.tups s,h4,h5⟩
def BL (II:List (fT×Nat)) (w:fT):fT:=II.foldr (fun fr w=>qV fr.1 fr.2 w) w
def Ir (a:mI) (K:aB):Sp:=fun vs H Q E=>∃(ep:aQ) (x:V) (e:gE) (v:fT),vs=[.ref ep,x]∧Ca a K H ep e∧oB K H x v∧iC v=true∧VM.tT 24 e∧FU e∧Xu a K H (dO e v) Q E
theorem Tp {K:aB} {a:aQ} {xs:List V} {g:TG} {tb:TS} {D:HC} {σ:L2.St} {H:Hp} (Pv:Nat→L2.St→Hp→Prop) (h0:Pv 0 σ H) (hl:∀i σ H,i≤xs.length→Pv i σ H→gX K H a xs)
  (hs:∀i x σ H,i < xs.length→xs[xs.length - 1 - i]?=some x→Pv i σ H→g x σ H fun σ2 H2=>tb {D with nx:=Pv (i+1),ct:=Pv (i+1),bk:=D.nx} σ2 H2) (hd:∀σ H,Pv xs.length σ H→D.nx σ H):
  ∃W:Nat→Nat→L2.St→Hp→Prop,(∃m,W 0 m σ H)∧∀i m σ H,W i m σ H→
   ((Yd K a xs.length).stop i H∧D.nx σ H)∨((Yd K a xs.length).go i H∧∃N:L2.St→Hp→Prop,(∀σ' H',N σ' H'→∃m',m' < m∧W (i+1) m' σ' H')∧∀x H',(Yd K a xs.length).yld i H x H'→g x σ H' fun σ2 H2=>tb {D with nx:=N,ct:=N,bk:=D.nx} σ2 H2):=by
 refine⟨fun i m σ H=>m=xs.length - i∧i≤xs.length∧Pv i σ H,⟨xs.length,by simp,aY _,h0⟩,?_⟩;rintro i m σ H ⟨rfl,hi,p⟩;have q:=hl i σ H hi p;by_cases hlt:i < xs.length
 ·refine .inr ⟨⟨hlt,xs,xs[xs.length - 1 - i],q,bC (by omega)⟩,Pv (i+1),fun σ' H' p'=>⟨xs.length - (i+1),by omega,rfl,hlt,p'⟩,fun x H' y=>?_⟩;obtain⟨e,y⟩:=y;subst e;exact hs i x σ _ hlt (y xs q) p
 ·have e:i=xs.length:=by omega
  subst e;exact .inl ⟨aR _,hd σ H p⟩
theorem Ah (II:List (fT×Nat)) (fr:fT×Nat) (w:fT):BL (II++[fr]) w=BL II (qV fr.1 fr.2 w):=by unfold BL;rw[List.foldr_append];rfl
theorem Paired.snoc (h:gY R xs ys) (r:R x y):gY R (xs++[x]) (ys++[y]):=by
 induction h with
 | nil=>exact .cons r .nil
 | cons r' _ ih=>exact .cons r' ih
theorem Paired.at {α β:Type} {R:α→β→Prop} {xs:List α} {ys:List β} (h:gY R xs ys):∀{j:Nat} {x:α},xs[j]?=some x→∃y,ys[j]?=some y∧R x y:=by
 induction h with
 | nil=>intro j x e;cases e
 | cons r t ih=>
  intro j x e;cases j with
  | zero=>cases e;exact⟨_,rfl,r⟩
  | succ j=>exact ih e
theorem dB (s:aZ H0 H) (h:H0 l=none):aZ H0 (upd H l o):=fun b u e=>by rw[bK (dL e h)];exact s b u e
theorem oP (h:H l=some (.lst xs)):zH H (upd H l (.lst ys)):=⟨fun b zs e=>by rw[bK (kH e h (by intro z;cases z))];exact e,fun b o u e=>by rw[bK (kH e h (by intro z;cases z))];exact e⟩
theorem RP (T:iJ K mg a) (B:sI P w K mg a):gV P w K mg base 18 "applied" ["edit","value"] (Ir a K):=by
 refine kI T.f_applied ["edit","value","here","passed","step","place","made","above"] fun vs H Q E h=>?_
 obtain⟨ep,x,e,v,rfl,he,hx,hl,hf,hs,k⟩:=h
 refine⟨rfl,fun nd _ _ _ _ _ hr=>?_⟩
 refine⟨_,aI (cM (i:=2) nd rfl (bP rfl) (pv 1)) (aI (cM (i:=3) nd rfl (bP rfl) (eJ aD))
  (aI (pI (gH ⟨rfl,rfl,rfl⟩) rfl (BG (cJ (pv 0) rfl)) (eY (i:=4) nd rfl (bP rfl))
   (aI (cM (i:=5) nd rfl (bP rfl) (bB (GG T) hr.m ⟨rfl,rfl,rfl⟩ (aA (pv 2) (aA (pv 4) aD))))
   (aI (dN (nG bF bR bS gF (pv 3) (aA (iP (aA (pv 2) (aA (pv 5) aD))) aD)))
   (aN (cM (i:=2) nd rfl (bP rfl) (fL fQ (bB (eR T) hr.m ⟨rfl,rfl,rfl⟩ (aA (pv 2) aD)) (pv 5) (fun _ _=>rfl)))))))
  (aI (cM (i:=6) nd rfl (bP rfl) (Ef (k:=4) ⟨rfl,rfl,rfl⟩ hr.m (BE (dM (v:=.ref a.dCHANGES) (by rfl) T.d_CHANGES rfl) (cJ (pv 0) rfl) (fun _ _=>rfl)) (aA (pv 2) (aA (cJ (pv 0) rfl) aD))))
  (aI (pI (gH ⟨rfl,rfl,rfl⟩) rfl (Ei (by rfl) T.n_reversed (aA (pv 3) aD)) (HS (n:=2) (by rfl) (lC (eY (i:=7) nd rfl (bP rfl)) (lC (eY (i:=5) nd rfl (bP rfl)) BF)))
   (aN (cM (i:=6) nd rfl (bP rfl) (bB (ZV T) hr.m ⟨rfl,rfl,rfl⟩ (aA (pv 7) (aA (pv 5) (aA (pv 6) aD)))))))
  (aI (dN (bB (nQ T) hr.m ⟨rfl,rfl,rfl⟩ (aA (bB (DR T 13) hr.m ⟨rfl,rfl,rfl⟩ (aA (pv 6) aD)) aD)))
  (aN (bG (pv 6)))))))),?_⟩
 obtain⟨gl,cl,dl⟩:=VM.lN.mp hl
 have gl:VM.eB 24 v:=gl
 have cl:Vatwva.count v≤120:=cl
 have dl:Vatwva.deep v≤6:=dl
 have hsv:Py v:=gl.mono (by decide)
 refine⟨_,rfl,aY _,fun l hl0=>?_⟩
 obtain⟨dx,pp,d,e1,e2,e3⟩:=he
 have s1:aZ H (upd H l (.lst [])):=aZ.upd hl0
 refine⟨_,rfl,ep,_,dx,_,_,rfl,s1 _ _ e1,T.q_Edit,T.na_Edit_path,rfl,pp,rfl,⟨_,s1.sqT e2⟩,OD (xs:=qG (Vatwvc.pathIn e)) (fun i σ H'=>aZ H H'∧∃y u s4 s5 rs fs,σ=[some (.ref ep),some x,some y,some (.ref l),s4,s5,none,none]∧H' l=some (.lst rs)∧gY (Tf K H') rs fs∧oB K H' y u∧VM.eB 24 u∧fs.length+Vatwva.count u≤120∧
  Vatwvc.changeAt (Vatwvc.doneAt e) (Vatwvc.pathIn e) v=(Vatwvc.changeAt (Vatwvc.doneAt e) ((Vatwvc.pathIn e).drop i) u).map (BL fs))
  ⟨s1,x,v,none,none,[],[],rfl,aG,.nil,hx.tups s1.tups,gl,by simpa using cl,by rw[xL];exact Option.map_id'.symm⟩ (fun i σ H' _ ⟨t,_⟩=>t.sqT e2) ?_ ?_⟩
 ·rintro i z σ H' hz ⟨sm,y,u,s4,s5,rs,fs,rfl,hl',hfr,hy,gu,hc,ech⟩
  unfold qG at hz
  rw[bX]at hz
  cases hst:(Vatwvc.pathIn e)[i]? with
  | none=>rw[hst]at hz;cases hz
  | some st=>
   rw[hst]at hz
   cases hz
   have hdr:(Vatwvc.pathIn e).drop i=st::(Vatwvc.pathIn e).drop (i+1):=by
    obtain⟨hi,rfl⟩:=aS.mp hst
    exact bM hi
   rw[hdr,FW (gu.mono (by decide))]at ech
   refine⟨_,rfl,_,rfl,y,u,st,rfl,hy,fun j hj=>?_,fun hn=>?_⟩
   rotate_left
   ·refine mT k ?_ H' sm
    show(Vatwvc.changeAt _ _ _).bind _=none
    rw[ech,hn];rfl
   have hlt:=XH hj
   have hu:(bD u)[j]?=some (bD u)[j]:=bC hlt
   have hcu:=wP gu.1 (bA hu)
   obtain⟨p',o,c,zs,rfl,g1,g2,g3⟩:=hy.parts
   obtain⟨y1,e4,h4⟩:=fW.getR g3 hu
   refine⟨_,rfl,.inl ⟨rfl,_,gX.of hl'⟩,_,rfl,_,rfl,(by show 2≤aU;decide),fun t ht=>?_⟩
   have hl2:upd H' t (.tup [.ref p',.int (j:Nat)]) l=some (.lst rs):=(aZ.upd ht) _ _ hl'
   refine⟨l,rs,.ref t,rfl,rfl,hl2,small (by rw[hfr.length];omega),?_⟩
   have tu:zH H' (upd (upd H' t (.tup [.ref p',.int (j:Nat)])) l (.lst (rs++[.ref t]))):=(aZ.upd ht).tups.trans (oP hl2)
   refine⟨_,rfl,p',_,_,rfl,tu.sqT g1,rfl,_,rfl,c,zs,j,y1,rfl,rfl,tu.sqT g2,fZ e4,?_⟩
   refine⟨dB (sm.trans (aZ.upd ht)) hl0,y1,(bD u)[j],_,_,rs++[.ref t],fs++[(u,j)],rfl,aG,Paired.snoc (Paired.mapP hfr fun _ _ q=>q.tups tu) ⟨t,.ref p',rfl,?_,hy.tups tu,hlt,(show Vatwva.count u≤5000 by omega)⟩,h4.tups tu,HI gu _ (bA hu),by rw[aC,cR];omega,?_⟩
   ·exact(oP hl2).sqT (.of' aG)
   ·rw[ech,hj]
    show(((bD u)[j]?).bind _).map _=_
    rw[hu]
    show((Vatwvc.changeAt _ _ _).map _).map _=_
    rw[mX]
    congr 1
    funext w1
    exact(Ah fs (u,j) w1).symm
 ·rintro σ H' ⟨sm,y,u,s4,s5,rs,fs,rfl,hl',hfr,hy,gu,hc,ech⟩
  have e0:(qG (Vatwvc.pathIn e)).length=(Vatwvc.pathIn e).length:=aJ _
  rw[e0,jP]at ech
  have ech:Vatwvc.changeAt (Vatwvc.doneAt e) (Vatwvc.pathIn e) v=(Vatwvc.doneAt e u).map (BL fs):=ech
  obtain⟨kvs,fch,kd,hval,hfn⟩:=Ch (base:=base) T B e
  refine⟨_,rfl,ep,_,dx,_,_,rfl,sm _ _ e1,T.q_Edit,T.na_Edit_word,rfl,_,kvs,.inr (GQ e),.ref fch,rfl,kd,rfl,hval,_,⟨hfn⟩,_,rfl,_,rfl,ep,_,dx,_,_,rfl,sm _ _ e1,T.q_Edit,T.na_Edit_details,rfl,y,u,d,e,rfl,MJ e,hy,e3.tups sm.tups,gu.mono (by decide),by omega,?_⟩
  cases q:Vatwvc.doneAt e u with
  | none=>
   intro H2 s2
   refine mT k ?_ H2 (sm.trans s2)
   show(Vatwvc.changeAt _ _ _).bind _=none
   rw[ech,q];rfl
  | some w0=>
   intro H2 m s2 hm
   rw[q]at ech
   have ech:Vatwvc.changeAt (Vatwvc.doneAt e) (Vatwvc.pathIn e) v=some (BL fs w0):=ech
   have md:=FX (by decide) hf hs _ gl ech
   have hlen:=hfr.length
   refine⟨_,rfl,l,rs,rfl,gX.of (s2 _ _ hl'),Tp (xs:=rs) (fun i σ H3=>aZ H2 H3∧∃m' s5 s7,σ=[some (.ref ep),some x,some y,some (.ref l),s4,s5,some m',s7]∧oB K H3 m' (BL (fs.drop (fs.length - i)) w0)) ⟨aZ.refl H2,m,s5,none,rfl,by rw[Gi,jP];exact hm⟩ (fun i σ H3 _ ⟨t,_⟩=>gX.of (t _ _ (s2 _ _ hl'))) ?_ ?_⟩
   ·rintro i z σ H3 hi hz ⟨s3,m',s5',s7,rfl,hm'⟩
    obtain⟨fr,efr,ft,yy,rfl,k2,k3,k4,k5⟩:=Paired.at hfr hz
    have st3:=s2.trans s3
    refine⟨ft,_,rfl,st3.sqT k2,rfl,yy,_,rfl,_,_,rfl,rfl,?_⟩
    refine⟨_,rfl,_,rfl,_,rfl,yy,fr.1,fr.2,m',_,rfl,k3.tups st3.tups,hm',k4,k5,fun H4 m4 s4' h4=>?_⟩
    refine⟨s3.trans s4',m4,_,_,rfl,?_⟩
    have hi':i < fs.length:=by omega
    have e6:fs.drop (fs.length - (i+1))=fr::fs.drop (fs.length - i):=by
     have e7:rs.length - 1 - i=fs.length - (i+1):=by omega
     rw[e7]at efr
     obtain⟨hlt,rfl⟩:=aS.mp efr
     rw[bM hlt]
     congr 2
     omega
    rw[e6]
    exact h4
   ·rintro σ H3 ⟨s3,m',s5',s7,rfl,hm'⟩
    rw[hlen,mG,xL]at hm'
    have smm:=(sm.trans s2).trans s3
    refine⟨_,rfl,m',_,rfl,hm',by have:=md.deep;omega,by have:=md.count;omega,fun H4 s4'=>⟨_,rfl,fun c=>?_,fun c=>?_⟩⟩
    ·have c:=of_decide_eq_true c
     refine⟨_,rfl,tI k ?_ H4 m' (smm.trans s4') (hm'.tups s4'.tups)⟩
     refine VM.nN.mpr ⟨ech,VM.lN.mpr ⟨(EU md.good).mp c.2.2,c.2.1,c.1⟩⟩
    ·have c:=of_decide_eq_false c
     refine mT k ?_ H4 (smm.trans s4')
     cases q2:dO e v with
     | none=>rfl
     | some w1=>
      obtain⟨q3,q4⟩:=VM.nN.mp q2
      rw[ech]at q3
      cases q3
      obtain⟨q5,q6,q7⟩:=VM.lN.mp q4
      exact absurd ⟨q7,q6,(EU md.good).mpr q5⟩ c
def HK (e:gE) (v:fT):Option fT:=(dO e v).bind fun w=>if Vatwva.isValue w=true then some w else none
def VH (a:mI) (K:aB):Sp:=fun vs H Q E=>∃(ep:aQ) (x:V) (e:gE) (v:fT),vs=[.ref ep,x]∧Ca a K H ep e∧oB K H x v∧iC v=true∧VM.tT 24 e∧FU e∧Xu a K H (HK e v) Q E
theorem xU {w:fT} (h:iC w=true):(Vatwva.deep w≤6∧Vatwva.count w≤60∧qK w≤12)↔Vatwva.isValue w=true:=by obtain⟨g,c,d⟩:=VM.lN.mp h;rw[VM.dR,←EU g];exact⟨fun z=>⟨z.2.2,z.2.1,z.1⟩,fun z=>⟨z.2.2,z.2.1,z.1⟩⟩
def xI (a:mI) (K:aB) (H:Hp):List V→List gE→Prop:=gY fun r e=>∃ep,r=.ref ep∧Ca a K H ep e
theorem xI.same (s:aZ H H') (h:xI a K H rs es):xI a K H' rs es:=Paired.mapP h fun _ _ ⟨ep,e,q⟩=>⟨ep,e,q.same s⟩
def kL (es:List gE) (v:fT):Option fT:=(VM.runs es v).bind fun w=>if Vatwva.isValue w=true then some w else none
theorem lR (e:gE) (v:fT):kL [e] v=HK e v:=by unfold kL HK;show((dO e v).bind (VM.runs [])).bind _=_;cases dO e v<;>rfl
def Fb (a:mI) (K:aB):Sp:=fun vs H Q E=>∃(l:aQ) (rs:List V) (es:List gE) (x:V) (v:fT),vs=[.ref l,x]∧H l=some (.lst rs)∧xI a K H rs es∧oB K H x v∧iC v=true∧(∀e∈es,VM.tT 24 e∧FU e)∧Xu a K H (kL es v) Q E
theorem lT (T:iJ K mg a) (B:sI P w K mg a):gV P w K mg base 19 "value_made_by_row" ["edits","value"] (Fb a K):=by
 refine kI T.f_value_made_by_row ["edits","value","made","edit"] fun vs H Q E h=>?_;obtain⟨l,rs,es,x,v,rfl,hl0,hes,hx,hl,hf,k⟩:=h;refine⟨rfl,fun nd _ _ _ _ _ hr=>?_⟩;refine⟨_,aI (cM (i:=2) nd rfl (bP rfl) (pv 1)) (aI (pI (gH ⟨rfl,rfl,rfl⟩) rfl (OK (pv 0)) (eY (i:=3) nd rfl (bP rfl)) (aN (cM (i:=2) nd rfl (bP rfl) (bB (RP T B) hr ⟨rfl,rfl,rfl⟩ (aA (pv 3) (aA (pv 2) aD)))))) (aI (dN (bB (nQ T) hr.m ⟨rfl,rfl,rfl⟩ (aA (bB (DQ T 6) hr.m ⟨rfl,rfl,rfl⟩ (aA (pv 2) aD)) aD))) (aN (bG (pv 2))))),?_⟩;refine⟨_,rfl,_,rfl,l,rfl,⟨_,gX.of hl0⟩,QH (xs:=rs) (fun i σ H'=>aZ H H'∧∃y u st,σ=[some (.ref l),some x,some y,st]∧oB K H' y u∧iC u=true∧VM.runs es v=VM.runs (es.drop i) u) ⟨aZ.refl H,x,v,none,rfl,hx,hl,rfl⟩ (fun i σ H' _ h=>gX.of (h.1 _ _ hl0)) ?_ ?_⟩
 ·rintro i z σ H' hz ⟨sm,y,u,st,rfl,hy,lu,hrun⟩;obtain⟨e,he,ep,rfl,hep⟩:=Paired.at hes hz;have hm:=hf e (bA he);have hdr:es.drop i=e::es.drop (i+1):=by obtain⟨hi,rfl⟩:=aS.mp he;exact bM hi
  rw[hdr]at hrun;have hrun:VM.runs es v=(dO e u).bind (VM.runs (es.drop (i+1))):=hrun;refine⟨_,rfl,_,rfl,ep,y,e,u,rfl,hep.same sm,hy,lu,hm.1,hm.2,?_⟩;cases q:dO e u with
  | none=>intro H2 s2;exact mT k (by unfold kL;rw[hrun,q];rfl) H2 (sm.trans s2)
  | some w1=>intro H2 m s2 hm2;rw[q]at hrun;exact⟨sm.trans s2,m,w1,_,rfl,hm2,(VM.nN.mp q).2,hrun⟩
 ·rintro σ H' ⟨sm,y,u,st,rfl,hy,lu,hrun⟩;have e0:rs.length=es.length:=hes.length;rw[e0,jP]at hrun;have hrun:VM.runs es v=some u:=hrun;obtain⟨g,c,d⟩:=VM.lN.mp lu;have c:Vatwva.count u≤120:=c;have d:Vatwva.deep u≤6:=d;refine⟨_,rfl,y,u,rfl,hy,d,by omega,fun H2 s2=>⟨_,rfl,fun c=>?_,fun c=>?_⟩⟩
  ·have c:=(xU lu).mp (of_decide_eq_true c);exact⟨_,rfl,tI k (by unfold kL;rw[hrun];exact if_pos c) H2 y (sm.trans s2) (hy.tups s2.tups)⟩
  ·have c:=fun z=>of_decide_eq_false c ((xU lu).mpr z);exact mT k (by unfold kL;rw[hrun];exact if_neg c) H2 (sm.trans s2)
theorem yV (T:iJ K mg a) (B:sI P w K mg a):gV P w K mg base 20 "value_made" ["edit","value"] (VH a K):=by
 refine kI T.f_value_made ["edit","value"] fun vs H Q E h=>?_;obtain⟨ep,x,e,v,rfl,he,hx,hl,hf,hs,k⟩:=h;refine⟨rfl,fun nd _ _ _ _ _ hr=>?_⟩;refine⟨_,aN (bG (bB (lT T B) hr ⟨rfl,rfl,rfl⟩ (aA (eJ (aA (pv 0) aD)) (aA (pv 1) aD)))),?_⟩;refine⟨_,rfl,(by show 1≤aU;decide),fun l hl0=>?_⟩;have s1:=aZ.upd (o:=.lst [.ref ep]) hl0;refine⟨_,rfl,l,[.ref ep],[e],x,v,rfl,aG,.cons ⟨ep,rfl,he.same s1⟩ .nil,hx.tups s1.tups,hl,fun e' he'=>?_,?_⟩
 ·obtain rfl:=bU.mp he';exact⟨hf,hs⟩
 ·rw[lR];cases q:HK e v with
  | none=>exact fun H2 s2=>mT k q H2 (s1.trans s2)
  | some w1=>exact fun H2 m s2 hm=>tI k q H2 m (s1.trans s2) hm
section
variable {n q:Str} {st:yL} {ps:List Str} {k:Nat} {sp:Sp} {C:aQ}
theorem Ro (F:∃f fd,Gw K C n f∧Gr K n q st f fd) (N:List Str) (h:A9 P w K mg base N ps sp k q st) (S:EK N ps (gW st):=by exact⟨rfl,rfl,rfl,by decide+kernel,rfl,by decide+kernel,by decide+kernel⟩) (b:C0 n q st ps:=by
  intro _ _ _ _ _ _ us hl;first | exact(match us,hl with | [_],_=>rfl) | exact(match us,hl with | [_,_],_=>rfl) | exact(match us,hl with | [_,_,_],_=>rfl) | exact(match us,hl with | [_,_,_,_],_=>rfl) | exact(match us,hl with | [_,_,_,_,_],_=>rfl)):Jx P w K mg base (k+1) C n ps sp:=
 let ⟨f,fd,m,F⟩:=F;⟨f,fd,m,F.binds b,F.okY S h⟩
theorem B7 (F:∃f fd,Mk K C f∧Gr K "__init__" q st f fd) (N:List Str) (h:A9 P w K mg base N ps sp k q st) (S:EK N ps (gW st):=by exact⟨rfl,rfl,rfl,by decide+kernel,rfl,by decide+kernel,by decide+kernel⟩) (b:C0 "__init__" q st ps:=by
  intro _ _ _ _ _ _ us hl;first | exact(match us,hl with | [_],_=>rfl) | exact(match us,hl with | [_,_],_=>rfl) | exact(match us,hl with | [_,_,_],_=>rfl) | exact(match us,hl with | [_,_,_,_],_=>rfl) | exact(match us,hl with | [_,_,_,_,_],_=>rfl)):Vr P w K mg base (k+1) C ps sp:=
 let ⟨f,fd,m,F⟩:=F;⟨f,fd,m,F.binds b,F.okY S h⟩
end
def sH (p:aQ) (H H':Hp):Prop:=∀b o,b≠p→H b=some o→H' b=some o
theorem sH.refl (p:aQ) (H:Hp):sH p H H:=fun _ _ _ e=>e
theorem sH.trans (x:sH p H H1) (y:sH p H1 H2):sH p H H2:=fun b o n e=>y b o n (x b o n e)
theorem aZ.but (x:aZ H H'):sH p H H':=fun b o _ e=>x b o e
theorem sH.upd (p:aQ) (H:Hp) (o:HO):sH p H (upd H p o):=fun b u n e=>by rw[bK n];exact e
def RR (a:mI) (H:Hp) (p:aQ) (m:aQ×bW) (r:bW):Prop:=∃dx,∃i:Nat,H p=some (.ins a.cReader dx [("text",.ref m.1),("place",.int i)])∧H m.1=some (.lst (cU m.2))∧m.2.length≤6000∧m.2.drop i=r
theorem aZ.sqL (s:aZ H H') (h:gX K H l xs):gX K H' l xs:=s.seq h
theorem RR.same (s:aZ H H') (h:RR a H p m r):RR a H' p m r:=let ⟨dx,i,h1,h2,h3⟩:=h;⟨dx,i,s _ _ h1,s _ _ h2,h3⟩
theorem RR.len (h:RR a H p m r):r.length≤6000:=by obtain⟨dx,i,h1,h2,h3,rfl⟩:=h;rw[cW];omega
theorem RR.upd (h:RR a H' p m r) (h0:RR a H p m r0) (hl:H l=none):RR a (upd H' l o) p m r:=by obtain⟨dx,i,h1,h2,h3⟩:=h;obtain⟨dx0,i0,k1,k2,_⟩:=h0;exact⟨dx,i,by rw[bK (dL k1 hl)];exact h1,by rw[bK (dL k2 hl)];exact h2,h3⟩
theorem sH.tups (s:sH p H H') (h:RR a H p m r):zH H H':=by obtain⟨dx,i,h1,_⟩:=h;exact⟨fun b xs e=>s b _ (kH e h1 (by intro z;cases z)) e,fun b o u e=>s b _ (kH e h1 (by intro z;cases z)) e⟩
def vP (r:bW):V:=match r with
 | b::_=>.int (b.toNat:Nat)
 | []=>.int (-1)
theorem Md {t:bW} {i:Nat} (h:i < t.length):∃b,t[i]?=some b∧t.drop i=b::t.drop (i+1):=⟨t[i],bC h,bM h⟩
def Sm (a:mI) (K:aB):Sp:=fun vs H Q _=>∃p m r,vs=[.ref p]∧RR a H p m r∧Q (vP r) H
theorem wV (T:iJ K mg a):Jx P w K mg base 1 a.cReader "ahead" ["self"] (Sm a K):=by
 refine Ro T.m_Reader_ahead ["self"] fun vs H Q E h=>?_;obtain⟨p,m,r,rfl,hp,k⟩:=h;refine⟨rfl,fun nd _ _ _ _ _ hr=>?_⟩;obtain⟨u,hm,ru⟩:=T.c_END;refine⟨_,aI (fA (dA MR (cJ (pv 0) rfl) (cX cV rfl T.n_len cE (aA (cJ (pv 0) rfl) aD)) (dJ _)) (aN (bG (fL qW (cJ (pv 0) rfl) (cJ (pv 0) rfl) (fun _ _=>rfl)))) cY) (aN (bG (dM rfl hm ru))),?_⟩;obtain⟨dx,i,h1,h2,hln,rfl⟩:=hp;refine⟨_,rfl,p,_,dx,_,_,rfl,h1,T.q_Reader,T.na_Reader_place,rfl,_,rfl,p,_,dx,_,_,rfl,h1,T.q_Reader,T.na_Reader_text,rfl,m.1,_,rfl,.inl (gX.of h2),_,_,rfl,rfl,_,rfl,?_⟩;have el:(cU m.2).length=m.2.length:=aJ _;refine nB (fun c=>?_) (fun c=>?_)
 ·have c:(i:Int) < ((cU m.2).length:Int):=of_decide_eq_true c;have hi:i < m.2.length:=by rw[el]at c;omega
  obtain⟨b,e1,e2⟩:=Md hi;rw[e2]at k;refine⟨_,rfl,p,_,dx,_,_,rfl,h1,T.q_Reader,T.na_Reader_text,rfl,_,rfl,p,_,dx,_,_,rfl,h1,T.q_Reader,T.na_Reader_place,rfl,m.1,_,_,_,rfl,rfl,gX.of h2,fZ (v:=.int (b.toNat:Nat)) ?_,k⟩;unfold cU;rw[bX,e1];rfl
 ·have c:¬(i:Int) < ((cU m.2).length:Int):=fun z=>c (decide_eq_true z);have hi:m.2.length≤i:=by rw[el]at c;omega
  rw[oH hi]at k;exact k
def Sn (a:mI) (K:aB):Sp:=fun vs H Q _=>∃p m r,vs=[.ref p]∧RR a H p m r∧Q (.bl r.isEmpty) H
theorem Ds (T:iJ K mg a):Jx P w K mg base 1 a.cReader "ended" ["self"] (Sn a K):=by
 refine Ro T.m_Reader_ended ["self"] fun vs H Q E h=>?_;obtain⟨p,m,r,rfl,hp,k⟩:=h;refine⟨rfl,fun nd _ _ _ _ _ hr=>?_⟩;refine⟨_,aN (bG (qY Zl (cJ (pv 0) rfl) (cX cV rfl T.n_len cE (aA (cJ (pv 0) rfl) aD)) (dJ _))),?_⟩;obtain⟨dx,i,h1,h2,hln,rfl⟩:=hp;refine⟨_,rfl,p,_,dx,_,_,rfl,h1,T.q_Reader,T.na_Reader_place,rfl,_,rfl,p,_,dx,_,_,rfl,h1,T.q_Reader,T.na_Reader_text,rfl,m.1,_,rfl,.inl (gX.of h2),_,_,rfl,rfl,?_⟩;have el:(cU m.2).length=m.2.length:=aJ _;have e:(m.2.drop i).isEmpty=decide (((cU m.2).length:Int)≤(i:Int)):=by rw[el,lV,BU,Ji,decide_eq_true_iff];omega
 rw[e]at k;exact k
theorem RR.next {H:Hp} {p:aQ} {m:aQ×bW} {dx:aQ} {i:Nat} (h1:H p=some (.ins a.cReader dx [("text",.ref m.1),("place",.int i)])) (h2:H m.1=some (.lst (cU m.2))) (hln:m.2.length≤6000):RR a (L2.upd H p (.ins a.cReader dx [("text",.ref m.1),("place",.int ((i:Int)+1))])) p m (m.2.drop i).tail:=⟨dx,i+1,aG,by rw[bK (kH h2 h1 (by intro z;cases z))];exact h2,hln,by rw[List.tail_drop]⟩
def Ar (a:mI) (K:aB):Sp:=fun vs H Q _=>∃p m r,vs=[.ref p]∧RR a H p m r∧∀H',sH p H H'→RR a H' p m r.tail→Q (vP r) H'
theorem JV (T:iJ K mg a):Jx P w K mg base 2 a.cReader "pass_byte" ["self"] (Ar a K):=by refine Ro T.m_Reader_pass_byte ["self","byte"] fun vs H Q E h=>?_;obtain⟨p,m,r,rfl,hp,k⟩:=h;refine⟨rfl,fun nd _ _ _ _ _ hr=>?_⟩;refine⟨_,aI (cM (i:=1) nd rfl (bP rfl) (mD (wV T) T.q_Reader hr ⟨rfl,rfl,rfl⟩ (pv 0))) (aI (LQ (pv 0) cA Ho) (aN (bG (pv 1)))),?_⟩;obtain⟨dx,i,h1,h2,hln,rfl⟩:=id hp;exact⟨_,rfl,p,dx,_,rfl,h1,rfl,p,m,_,rfl,hp,_,rfl,p,_,dx,_,_,rfl,h1,T.q_Reader,T.na_Reader_place,rfl,_,_,rfl,rfl,dx,_,h1,(by show 2 < 1000;decide),_,rfl,k _ (sH.upd p H _) (RR.next h1 h2 hln)⟩
def So (a:mI) (K:aB):Sp:=fun vs H Q _=>∃p m r,∃c:UInt8,vs=[.ref p,.str ⟨#[c.toNat]⟩]∧RR a H p m r∧(r.head?=some c→∀H',sH p H H'→RR a H' p m r.tail→Q (.bl true) H')∧(¬r.head?=some c→Q (.bl false) H)
theorem qS (T:iJ K mg a):Jx P w K mg base 2 a.cReader "meets" ["self","sign"] (So a K):=by
 refine Ro T.m_Reader_meets ["self","sign"] fun vs H Q E h=>?_;obtain⟨p,m,r,c,rfl,hp,k1,k2⟩:=h;refine⟨rfl,fun nd _ _ _ _ _ hr=>?_⟩;refine⟨_,aI (fA (dA WZ (mD (wV T) T.q_Reader hr ⟨rfl,rfl,rfl⟩ (pv 0)) (cX mK rfl T.n_ord rA (aA (pv 1) aD)) (dJ _)) (aN (bG Rt)) cY) (aI (LQ (pv 0) cA Ho) (aN (bG Rt))),?_⟩;obtain⟨dx,i,h1,h2,hln,rfl⟩:=id hp;refine⟨_,rfl,p,dx,_,rfl,h1,rfl,p,m,_,rfl,hp,_,rfl,_,rfl,rfl,?_,_,rfl,?_⟩
 ·cases m.2.drop i<;>rfl
 ·have key:(vP (m.2.drop i)=.int (c.toNat:Nat))↔(m.2.drop i).head?=some c:=by
   cases m.2.drop i with
   | nil=>exact⟨fun z=>(by have:=V.int.inj z;omega),fun z=>by cases z⟩
   | cons b r=>
    constructor
    ·intro z;have:(b.toNat:Int)=(c.toNat:Nat):=V.int.inj z;have:b=c:=lU.mp (by omega);rw[this];rfl
    ·intro z;cases z;rfl
  refine nB (fun c1=>?_) (fun c1=>?_)
  ·refine k2 fun z=>?_;rw[decide_eq_true (show vP (m.2.drop i)=.int (((⟨#[c.toNat]⟩:Str).cps.getD 0 0:Nat))from key.mpr z)]at c1;cases c1
  ·have c2:vP (m.2.drop i)=.int (((⟨#[c.toNat]⟩:Str).cps.getD 0 0:Nat)):=by
    by_cases q:vP (m.2.drop i)=.int (((⟨#[c.toNat]⟩:Str).cps.getD 0 0:Nat))
    ·exact q
    ·rw[decide_eq_false q]at c1;exact absurd rfl c1
   exact⟨_,rfl,p,_,dx,_,_,rfl,h1,T.q_Reader,T.na_Reader_place,rfl,_,_,rfl,rfl,dx,_,h1,(by show 2 < 1000;decide),k1 (key.mp c2) _ (sH.upd p H _) (RR.next h1 h2 hln)⟩
theorem uI (n:bW):(bT n).cps.toList=n.map hX:=by unfold bT;simp
theorem XN (n:bW) (i:Nat):(bT n).cps[i]?=(n[i]?).map hX:=by unfold bT;rw[List.getElem?_toArray,bX]
theorem HX (n:bW):(bT n).cps.size=n.length:=by unfold bT;simp
theorem kO (n:bW):(bT n).length=n.length:=HX n
theorem Bf {x y:Str} (h:x.cps.toList=y.cps.toList):x=y:=by cases x;cases y;simp only at h;congr 1;exact Array.toList_inj.mp h
theorem JQ:∀n:Nat,TL.Ie n=(Vatwva.decimal n).map hX:=by
 intro n;induction n using wK with
 | _ n ih=>
  by_cases h:n < 10
  ·rw[TL.Uj h,VM.nO h];show [48+n]=[(VM.DI n).toNat];rw[VM.pC h]
  ·rw[TL.Nl (n:=n) (by omega),VM.rH h,ih (n / 10) (by omega),aW];show _=_++[(VM.DI (n % 10)).toNat];rw[VM.pC (YA n (by decide))]
theorem yE (n:Nat):jY (iM ((n:Nat):Int))=bT (Vatwva.decimal n):=by apply Bf;rw[uI,←JQ];exact TL.Xm n
theorem Ou:∀b:UInt8,cG b=true→BX b.toNat=Vatwva.isDigit b:=by
 have h:∀n:Fin 128,cG (sJ n.val)=true→BX n.val=Vatwva.isDigit (sJ n.val):=by decide+kernel
 intro b hb;have hl:b.toNat < 128:=by
  unfold cG at hb;rw[gN]at hb;rcases hb with hb | hb
  ·have:=VM.uZ.mp hb;omega
  ·have:=VM.kQ.mp hb;omega
 have:=h ⟨b.toNat,hl⟩;have e:sJ b.toNat=b:=by simp
 simp only[e]at this;exact this hb
theorem AW {w:bW} (h:w.all cG=true):GV (bT w)=(!w.isEmpty && w.all Vatwva.isDigit):=by
 unfold GV;have e1:decide ((bT w).length > 0)= !w.isEmpty:=by rw[kO];cases w<;>simp
 rw[e1];congr 1;have e2:(bT w).cps.all BX=(w.map hX).all BX:=by unfold bT;rw[List.all_toArray]
 rw[e2,List.all_map];rw[cD]at h;clear e1 e2;induction w with
 | nil=>rfl
 | cons b w ih=>
  rw[cQ,cQ];congr 1
  ·exact Ou b (h b aM)
  ·exact ih (fun x hx=>h x (aL _ hx))
theorem Hi (w:bW):NumText.digitsVal (w.map hX)=VM.val w:=by
 unfold VM.val;have:∀(w:bW) (k:Nat),(w.map hX).foldl (fun acc c=>acc * 10+(c - 48)) k=w.foldl (fun n b=>10 * n+(b.toNat - 48)) k:=by
  intro w;induction w with
  | nil=>intro k;rfl
  | cons b w ih=>intro k;rw[aP,lW,lW,ih];congr 1;omega
 exact this w 0
theorem Qx {w:bW} (h:w.all Vatwva.isDigit=true) (h1:w≠[]) (h2:w.length≤10):intText? (bT w)=some ((VM.val w:Nat):Int):=by have e:=intText_digits (x:=bT w) (by rw[uI];intro c hc;obtain⟨b,hb,rfl⟩:=aX.mp hc;exact VM.kQ.mp (cD.mp h b hb)) (by rw[uI];simpa using h1) (by rw[kO];omega);rw[uI,Hi]at e;exact e
def Gx (a:mI) (p:aQ) (H:Hp) (E:XK):Prop:=∀H',sH p H H'→E (.ref a.xUnreadable) none H'
theorem Gx.on (h:Gx a p H E) (s:sH p H H1):Gx a p H1 E:=fun H' s'=>h H' (s.trans s')
def oA {α:Type} (a:mI) (p:aQ) (m:aQ×bW) (H:Hp) (o:Option (α×bW)) (At:Hp→V→α→Prop) (Q:VK) (E:XK):Prop:=match o with
 | some x=>∀H' y,sH p H H'→RR a H' p m x.2→At H' y x.1→Q y H'
 | none=>Gx a p H E
theorem oA.on (h:oA a p m H o At Q E) (s:sH p H H1):oA a p m H1 o At Q E:=by
 cases o with
 | none=>exact Gx.on h s
 | some x=>exact fun H' y b=>h H' y (s.trans b)
theorem oA.no (h:oA a p m H o At Q E) (e:o=none):Gx a p H E:=by rw[e]at h;exact h
theorem oA.yes (h:oA a p m H o At Q E) (e:o=some (x,r)):∀H' y,sH p H H'→RR a H' p m r→At H' y x→Q y H':=by rw[e]at h;exact h
def Of (a:mI) (K:aB):Sp:=fun vs H Q E=>∃p m r w,vs=[.ref p,.str (bT w)]∧RR a H p m r∧(∀r',jF w r=some r'→∀H',sH p H H'→RR a H' p m r'→Q .non H')∧(jF w r=none→Gx a p H E)
theorem RR.at (h:RR a H p m r):∃dx fs,H p=some (.ins a.cReader dx fs)∧∀m:Str,m≠"text"→m≠"place"→fs.lookup m=none:=by obtain⟨dx,i,h1,_⟩:=h;refine⟨dx,_,h1,fun m m1 m2=>?_⟩;rw[jQ,beq_eq_false_iff_ne.mpr m1,jQ,beq_eq_false_iff_ne.mpr m2];rfl
theorem wF (T:iJ K mg a):Jx P w K mg base 3 a.cReader "expect" ["self","signs"] (Of a K):=by
 refine Ro T.m_Reader_expect ["self","signs","sign"] fun vs H Q E h=>?_;obtain⟨p,m,r,w',rfl,hp,k1,k2⟩:=h;refine⟨rfl,fun nd _ _ _ _ _ hr=>?_⟩;refine⟨_,aN (pI (gH ⟨rfl,rfl,rfl⟩) rfl (Ry (pv 1)) (eY (i:=2) nd rfl (bP rfl)) (aN (fA (wY (mS (sB (qS T) T.q_Reader hr ⟨rfl,rfl,rfl⟩ (pv 0) (aA (pv 2) aD)))) (aN (iV ⟨rfl,rfl,rfl⟩ rfl rfl T.x_Unreadable.1 T.x_Unreadable.2)) cY))),?_⟩;refine⟨_,rfl,_,rfl,Tq (z:=bT w') (fun i σ H'=>sH p H H'∧∃st r',σ=[some (.ref p),some (.str (bT w')),st]∧RR a H' p m r'∧r=w'.take i++r') ⟨sH.refl p H,none,r,rfl,hp,rfl⟩ ?_ ?_⟩
 ·rintro i c σ H' hc ⟨hb,st,r',rfl,hr',e⟩;rw[XN]at hc;obtain⟨b,eb,rfl⟩:=aO.mp hc;obtain⟨dx,fs,h1,h2⟩:=hr'.at;refine⟨_,rfl,p,dx,fs,rfl,h1,h2 _ (by decide) (by decide),_,rfl,p,m,r',b,rfl,hr',fun hh H2 b2 h3=>⟨_,rfl,xK ⟨hb.trans b2,_,r'.tail,rfl,h3,?_⟩⟩,fun hh=>⟨_,rfl,sY (k2 ?_ H' hb)⟩⟩
  ·rw[e,iY eb,VM.mO hh];simp
  ·cases q:jF w' r with
   | none=>rfl
   | some r2=>
    exfalso;apply hh;have e2:=VM.iF.mp q;rw[e]at e2;have e3:w'=w'.take i++w'.drop i:=(gB i w').symm;rw[e3,fH]at e2;have hil:=(aS.mp eb).1;have e4:r'=w'.drop i++r2:=by
     have:(w'.take i++w'.drop i).take i=w'.take i:=by rw[gB]
     rw[this]at e2;exact Bt e2
    rw[e4,bM hil,(aS.mp eb).2];rfl
 ·rintro σ H' ⟨hb,st,r',rfl,hr',e⟩;rw[HX,cN]at e;exact k1 r' (VM.iF.mpr e) H' hb hr'
def mW (r:bW):bW:=match r with
 | b::_=>if cG b=true then [b]else []
 | []=>[]
theorem Zo:(("a":Str).cps.getD 0 0:Nat)=97:=by decide
theorem Zp:(("z":Str).cps.getD 0 0:Nat)=122:=by decide
theorem Zm:(("0":Str).cps.getD 0 0:Nat)=48:=by decide
theorem Zn:(("9":Str).cps.getD 0 0:Nat)=57:=by decide
theorem Sl:∀n:Fin 26,("abcdefghijklmnopqrstuvwxyz":Str).cps.toList[n.val]?=some (97+n.val):=by decide
theorem Qj:∀n:Fin 10,("0123456789":Str).cps.toList[n.val]?=some (48+n.val):=by decide
theorem zX:bT []=("":Str):=by decide
theorem Om (b:UInt8):bT [b]=⟨#[b.toNat]⟩:=rfl
def Be:Sp:=fun vs H Q _=>∃r,vs=[vP r]∧Q (.str (bT (mW r))) H
theorem PJ (r:bW):∃i:Int,vP r=.int i∧((∃b r',r=b::r'∧i=(b.toNat:Nat))∨(r=[]∧i= -1)):=by
 cases r with
 | nil=>exact⟨_,rfl,.inr ⟨rfl,rfl⟩⟩
 | cons b r=>exact⟨_,rfl,.inl ⟨b,r,rfl,rfl⟩⟩
theorem JY (T:iJ K mg a):gV P w K mg base 1 "word_sign" ["byte"] Be:=by
 refine kI T.f_word_sign ["byte"] fun vs H Q E h=>?_
 obtain⟨r,rfl,k⟩:=h
 refine⟨rfl,fun nd _ _ _ _ _ hr=>?_⟩
 obtain⟨u1,hm1,ru1⟩:=T.c_SMALL_LETTERS
 obtain⟨u2,hm2,ru2⟩:=T.c_DIGITS
 refine⟨_,aI (fA (PW.pt (SH (dA MQ (cX mK rfl T.n_ord rA (aA dZ aD)) (pv 0) (dJ _)) (KC (dA MQ (pv 0) (cX mK rfl T.n_ord rA (aA dZ aD)) (dJ _)))))
   (aN (bG (fL Hv (dM rfl hm1 ru1) (jZ Rp (pv 0) (cX mK rfl T.n_ord rA (aA dZ aD))) (fun _ _=>rfl)))) cY)
  (aI (fA (PW.pt (SH (dA MQ (cX mK rfl T.n_ord rA (aA dZ aD)) (pv 0) (dJ _)) (KC (dA MQ (pv 0) (cX mK rfl T.n_ord rA (aA dZ aD)) (dJ _)))))
   (aN (bG (fL Hv (dM rfl hm2 ru2) (jZ Rp (pv 0) (cX mK rfl T.n_ord rA (aA dZ aD))) (fun _ _=>rfl)))) cY)
  (aN (bG dZ))),?_⟩
 obtain⟨i,ei,hi⟩:=PJ r
 rw[ei]
 have small:97≤i→i≤122→Q (.str ⟨#[i.toNat]⟩) H:=fun h1 h2=>by
  rcases hi with⟨b,r',rfl,rfl⟩ | ⟨rfl,rfl⟩
  ·have hw:cG b=true:=by
    unfold cG
    rw[VM.uZ.mpr (by omega)];rfl
   have e:mW (b::r')=[b]:=if_pos hw
   rw[e]at k
   exact k
  ·omega
 have dig:48≤i→i≤57→Q (.str ⟨#[i.toNat]⟩) H:=fun h1 h2=>by
  rcases hi with⟨b,r',rfl,rfl⟩ | ⟨rfl,rfl⟩
  ·have hw:cG b=true:=by
    unfold cG
    rw[VM.kQ.mpr (by omega),Bool.or_true]
   have e:mW (b::r')=[b]:=if_pos hw
   rw[e]at k
   exact k
  ·omega
 have none:¬(97≤i∧i≤122)→¬(48≤i∧i≤57)→Q (.str "") H:=fun h1 h2=>by
  have e:mW r=[]:=by
   rcases hi with⟨b,r',rfl,rfl⟩ | ⟨rfl,rfl⟩
   ·refine if_neg fun hw=>?_
    unfold cG at hw
    rw[gN]at hw
    rcases hw with hw | hw
    ·have:=VM.uZ.mp hw;omega
    ·have:=VM.kQ.mp hw;omega
   ·rfl
  rw[e,zX]at k
  exact k
 have get1:97≤i→i≤122→Tj ("abcdefghijklmnopqrstuvwxyz":Str).cps.toList (i - 97)=some i.toNat:=fun h1 h2=>by
  have e:i - 97=((i.toNat - 97:Nat):Int):=by omega
  rw[e]
  refine fZ ?_
  have:=Sl ⟨i.toNat - 97,by omega⟩
  rw[this]
  congr 1
  show 97+(i.toNat - 97)=i.toNat
  omega
 have get2:48≤i→i≤57→Tj ("0123456789":Str).cps.toList (i - 48)=some i.toNat:=fun h1 h2=>by
  have e:i - 48=((i.toNat - 48:Nat):Int):=by omega
  rw[e]
  refine fZ ?_
  have:=Qj ⟨i.toNat - 48,by omega⟩
  rw[this]
  congr 1
  show 48+(i.toNat - 48)=i.toNat
  omega
 have o97:(((("a":Str).cps.getD 0 0:Nat)):Int)=97:=by rw[Zo];rfl
 have o122:(((("z":Str).cps.getD 0 0:Nat)):Int)=122:=by rw[Zp];rfl
 have o48:(((("0":Str).cps.getD 0 0:Nat)):Int)=48:=by rw[Zm];rfl
 have o57:(((("9":Str).cps.getD 0 0:Nat)):Int)=57:=by rw[Zn];rfl
 refine⟨_,rfl,rfl,_,rfl,_,_,rfl,rfl,_,rfl,nB (fun c=>⟨_,rfl,_,rfl,rfl,_,_,rfl,rfl,_,rfl,nB (fun d=>?_) (fun d=>?_)⟩) (fun c=>xK ?_)⟩
 ·have c:=of_decide_eq_true c
  have d:=of_decide_eq_true d
  rw[o97]at c
  rw[o122]at d
  refine⟨_,rfl,_,rfl,rfl,_,_,rfl,rfl,_,_,i.toNat,rfl,rfl,(by show 26≤aU;decide),?_,small c d⟩
  rw[o97]
  exact get1 c d
 all_goals
  have hn:¬(97≤i∧i≤122):=by
   rintro⟨q1,q2⟩
   first
    | exact d (decide_eq_true (by rw[o122];exact q2))
    | exact c (decide_eq_true (by rw[o97];exact q1))
  refine⟨_,rfl,rfl,_,rfl,_,_,rfl,rfl,_,rfl,nB (fun c=>⟨_,rfl,_,rfl,rfl,_,_,rfl,rfl,_,rfl,nB (fun d=>?_) (fun d=>?_)⟩) (fun c=>xK ?_)⟩
  ·have c:=of_decide_eq_true c
   have d:=of_decide_eq_true d
   rw[o48]at c
   rw[o57]at d
   refine⟨_,rfl,_,rfl,rfl,_,_,rfl,rfl,_,_,i.toNat,rfl,rfl,(by show 10≤aU;decide),?_,dig c d⟩
   rw[o48]
   exact get2 c d
  ·exact none hn fun q=>d (decide_eq_true (by rw[o57];exact q.2))
  ·exact none hn fun q=>c (decide_eq_true (by rw[o48];exact q.1))
def LW (u:bW):List V:=u.map fun b=>V.str (bT [b])
theorem sS (s:sH p H H') (h:H l=none):sH p H (upd H' l o):=fun b u n e=>by rw[bK (dL e h)];exact s b u n e
theorem Hw (u:bW):Txt.join ("":Str) (u.map fun b=>bT [b])=bT u:=by
 rw[TL.Tx];apply Bf;have e:(Lu ("":Str) (u.map fun b=>bT [b])).cps.toList=TL.QR [] ((u.map fun b=>bT [b]).map TL.tl):=TL.Ll _ _;rw[e,uI,cP];have key:∀u:bW,TL.QR [] (u.map (TL.tl∘fun b=>bT [b]))=u.map hX:=by
  intro u;induction u with
  | nil=>rfl
  | cons b u ih=>
   cases u with
   | nil=>rfl
   | cons c u=>show [b.toNat]++([]++TL.QR [] (_::_))=_;rw[iI];have ih:TL.QR [] ((TL.tl∘fun b=>bT [b]) c::u.map (TL.tl∘fun b=>bT [b]))=(c::u).map hX:=ih;rw[ih];rfl
 exact key u
theorem Se (hu:u.all cG=true) (hr:mW r'=[]):jV (u++r')=u∧kD (u++r')=r':=by
 refine VM.vG hu fun b hb=>?_;cases r' with
 | nil=>cases hb
 | cons c r'=>
  cases hb;by_cases q:cG b=true
  ·have hr:(if cG b=true then [b]else [])=[]:=hr;rw[if_pos q]at hr;cases hr
  ·exact hZ.mpr q
theorem GP (h:mW r≠[]):∃b r',r=b::r'∧cG b=true∧mW r=[b]:=by
 cases r with
 | nil=>exact absurd rfl h
 | cons b r=>
  by_cases q:cG b=true
  ·exact⟨b,r,rfl,q,if_pos q⟩
  ·exact absurd (if_neg q) h
def As (a:mI) (K:aB):Sp:=fun vs H Q _=>∃p m r,vs=[.ref p]∧RR a H p m r∧∀H',sH p H H'→RR a H' p m (kD r)→Q (.str (bT (jV r))) H'
theorem tE (T:iJ K mg a):Jx P w K mg base 2 a.cReader "pass_word" ["self"] (As a K):=by
 refine Ro T.m_Reader_pass_word ["self","signs","sign"] fun vs H Q E h=>?_;obtain⟨p,m,r,rfl,hp,k⟩:=h;refine⟨rfl,fun nd _ _ _ _ _ hr=>?_⟩;refine⟨_,aI (cM (i:=1) nd rfl (bP rfl) (eJ aD)) (aI (cM (i:=2) nd rfl (bP rfl) (bB (JY T) hr ⟨rfl,rfl,rfl⟩ (aA (mD (wV T) T.q_Reader hr ⟨rfl,rfl,rfl⟩ (pv 0)) aD))) (aI (zV (gH ⟨rfl,rfl,rfl⟩) (dA WZ (pv 2) dZ (dJ _)) (aI (dN (nG bF bR bS gF (pv 1) (aA (pv 2) aD))) (aI (LQ (pv 0) cA Ho) (aN (cM (i:=2) nd rfl (bP rfl) (bB (JY T) hr ⟨rfl,rfl,rfl⟩ (aA (mD (wV T) T.q_Reader hr ⟨rfl,rfl,rfl⟩ (pv 0)) aD))))))) (aN (bG (nG sN PySem.F.slot_str_join PySem.F.type_str_join Ui dZ (aA (pv 1) aD)))))),?_⟩;refine⟨aY _,fun l hl=>?_⟩;have s1:aZ H (upd H l (.lst [])):=aZ.upd hl;have hp1:=hp.same s1;obtain⟨dx,fs,h1,h2⟩:=hp1.at;refine⟨_,rfl,p,dx,fs,rfl,h1,h2 _ (by decide) (by decide),p,m,r,rfl,hp1,r,rfl,?_⟩;refine⟨fun n σ H'=>∃u r',σ=[some (.ref p),some (.ref l),some (.str (bT (mW r')))]∧H' l=some (.lst (LW u))∧RR a H' p m r'∧sH p H H'∧r=u++r'∧u.all cG=true∧n=r'.length,⟨r.length,[],r,rfl,aG,hp1,aZ.but s1,rfl,rfl,rfl⟩,?_⟩;rintro n σ H' ⟨u,r',rfl,hl',hr',hb,e,hu,rfl⟩;have hlen:u.length≤6000:=by have:=hp.len;rw[e,aC]at this;omega
 refine⟨_,rfl,rfl,_,rfl,nB (fun c=>?_) (fun c=>?_)⟩
 ·have c:mW r'≠[]:=fun z=>by rw[z,zX]at c;rw[decide_eq_true rfl]at c;cases c
  obtain⟨b,r2,rfl,hwb,ewh⟩:=GP c;refine⟨fun σ' H''=>∃u r',σ'=[some (.ref p),some (.ref l),some (.str (bT (mW r')))]∧H'' l=some (.lst (LW u))∧RR a H'' p m r'∧sH p H H''∧r=u++r'∧u.all cG=true∧r'.length < (b::r2).length,fun σ' H'' ⟨u,r',q1,q2,q3,q4,q5,q6,q7⟩=>⟨_,q7,u,r',q1,q2,q3,q4,q5,q6,rfl⟩,?_⟩;refine⟨_,rfl,.inl ⟨rfl,_,gX.of hl'⟩,_,rfl,l,_,_,rfl,rfl,hl',small (by rw[show(LW u).length=u.length from aJ _];omega),?_⟩;have hr2:RR a (upd H' l (.lst (LW u++[.str (bT (mW (b::r2)))]))) p m (b::r2):=hr'.upd hp hl;obtain⟨dx2,i,g1,g2,g3,g4⟩:=id hr2;refine⟨_,rfl,p,_,dx2,_,_,rfl,g1,T.q_Reader,T.na_Reader_place,rfl,_,_,rfl,rfl,dx2,_,g1,(by show 2 < 1000;decide),?_⟩;have hr3:=RR.next g1 g2 g3;rw[g4]at hr3;obtain⟨dx3,fs3,f1,f2⟩:=hr3.at;have lp:l≠p:=fun z=>by obtain⟨_,_,q,_⟩:=hp;rw[z,q]at hl;cases hl
  refine⟨_,rfl,p,dx3,fs3,rfl,f1,f2 _ (by decide) (by decide),p,m,r2,rfl,hr3,r2,rfl,u++[b],r2,rfl,?_,hr3,(sS hb hl).trans (sH.upd p _ _),by rw[e];simp,by rw[TK,hu];simp[hwb],lE _⟩;show upd (upd H' l _) p _ l=_;rw[bK lp,aG,ewh];show some (HO.lst (LW u++[.str (bT [b])]))=_;unfold LW;rw[aW];rfl
 ·have c:mW r'=[]:=by
   by_cases q:mW r'=[]
   ·exact q
   ·exfalso;apply c;obtain⟨b,r2,rfl,hwb,ewh⟩:=GP q;rw[ewh,decide_eq_false (fun z=>?_)]
    ·rfl
    ·have z:=V.str.inj z;rw[←zX]at z;have:=uJ z;cases this
  obtain⟨e1,e2⟩:=Se hu c;rw[←e]at e1 e2;refine⟨rfl,_,rfl,_,l,u.map (fun b=>bT [b]),rfl,rfl,.inl (gX.of ?_),?_,?_⟩
  ·rw[cP];exact hl'
  ·rw[cP,aJ];have:(u.map ((fun x:Str=>x.length)∘fun b=>bT [b])).sum=u.length:=by
    clear e e1 e2 hlen hu hl';induction u with
    | nil=>rfl
    | cons b u ih=>rw[aP,dU,ih,aK];show 1+u.length=_;omega
   rw[this];show u.length+u.length * 0≤_;omega
  ·rw[Hw];have:=k H' hb (by rw[e2];exact hr');rw[e1]at this;exact this
theorem Dm (h:(b::t).all cG=true):Vatwva.isName (b::t)=true↔Vatwva.isDigit b=false∧(b::t).length≤10:=by
 have hb:cG b=true:=by rw[cQ,aE]at h;exact h.1
 have hs:Vatwva.isSmall b=true↔Vatwva.isDigit b=false:=by
  unfold cG at hb;rw[gN]at hb;constructor
  ·intro q;refine hZ.mpr fun c=>?_;have:=VM.uZ.mp q;have:=VM.kQ.mp c;omega
  ·intro q;rcases hb with hb | hb
   ·exact hb
   ·rw[q]at hb;cases hb
 have h:(b::t).all (fun b=>Vatwva.isSmall b || Vatwva.isDigit b)=true:=h;unfold Vatwva.isName;rw[h,lA,aE,decide_eq_true_iff,←hs];exact NB
def Is (a:mI):Sp:=fun vs H Q E=>∃t:bW,vs=[.str (bT t)]∧t.all cG=true∧t.length≤6000∧(Vatwva.isName t=true→Q (.str (bT t)) H)∧(¬Vatwva.isName t=true→E (.ref a.xUnreadable) none H)
theorem RQ (T:iJ K mg a):gV P w K mg base 1 "as_name" ["word"] (Is a):=by
 refine kI T.f_as_name ["word"] fun vs H Q E h=>?_
 obtain⟨t,rfl,ht,hl,k1,k2⟩:=h
 refine⟨rfl,fun nd _ _ _ _ _ hr=>?_⟩
 obtain⟨u,hm,ru⟩:=T.c_MOST_NAME_BYTES
 refine⟨_,aI (fA (PW.pt (XF (dA qF (pv 0) dZ (dJ _)) (XF (mS (SE sN yH yI HP (fL Hv (pv 0) cA (fun _ _=>rfl))))
   (SI (dA CD (cX AN rfl T.n_len cE (aA (pv 0) aD)) (dM rfl hm ru) (dJ _)))))) (aN (iV ⟨rfl,rfl,rfl⟩ rfl rfl T.x_Unreadable.1 T.x_Unreadable.2)) cY)
  (aN (bG (pv 0))),?_⟩
 refine⟨_,rfl,rfl,_,rfl,?_⟩
 cases t with
 | nil=>exact pE (decide_eq_true (by rw[zX])) (sY (k2 (by decide)))
 | cons b t=>
  refine mP (decide_eq_false fun z=>?_) ?_
  ·have z:=V.str.inj z
   rw[←zX]at z
   have:=uJ z
   cases this
  have hni:=Dm ht
  have hlen:(bT (b::t)).length≤aU:=small (by rw[kO];omega)
  have hdig:GV (⟨#[b.toNat]⟩:Str)=Vatwva.isDigit b:=by
   have:=AW (w:=[b]) (by rw[cQ]at ht ⊢;rw[aE]at ht;simp[ht.1])
   rw[Om]at this
   rw[this];simp
  refine⟨_,rfl,_,_,b.toNat,rfl,rfl,hlen,fZ (j:=0) (by rw[uI];rfl),rfl,_,rfl,rfl,trivial,_,rfl,?_⟩
  rw[hdig]
  refine nB (fun c=>sY (k2 fun z=>?_)) (fun c=>⟨_,rfl,_,rfl,hlen,_,_,rfl,rfl,_,rfl,nB (fun d=>k2 fun z=>?_) (fun d=>⟨_,rfl,k1 (hni.mpr ⟨hZ.mpr c,?_⟩)⟩)⟩)
  ·rw[(hni.mp z).1]at c;cases c
  ·have d:(10:Int) < ((bT (b::t)).length:Nat):=of_decide_eq_true d
   have:=(hni.mp z).2
   rw[kO]at d
   omega
  ·have d:¬(10:Int) < ((bT (b::t)).length:Nat):=fun z=>d (decide_eq_true z)
   rw[kO]at d
   omega
theorem EY (h:n≤1000000000):n.log2 < 1920:=by
 by_cases h0:n=0
 ·subst h0;decide
 ·exact(Nat.log2_lt h0).mpr (bZ (show n < 2 ^ 30 by omega) (Nat.pow_le_pow_right (by decide) (by decide)))
theorem QZ:(jY (iM ((1000000000:Int)))).length=10:=by decide
def Ew (a:mI):Sp:=fun vs H Q E=>∃t:bW,vs=[.str (bT t)]∧t.all cG=true∧t.length≤6000∧(∀n,Vatwva.naturalOf t=some n→Q (.int (n:Nat)) H)∧(Vatwva.naturalOf t=none→E (.ref a.xUnreadable) none H)
theorem MO (T:iJ K mg a):gV P w K mg base 1 "as_count" ["word"] (Ew a):=by
 refine kI T.f_as_count ["word","count"] fun vs H Q E h=>?_;obtain⟨t,rfl,ht,hl,k1,k2⟩:=h;refine⟨rfl,fun nd _ _ _ _ _ hr=>?_⟩;obtain⟨u,hm,ru⟩:=T.c_MOST_NUMBER;refine⟨_,aI (fA (PW.pt (XF (wY (mS (SE sN yH yI HP (pv 0)))) (SI (dA CD (cX AN rfl T.n_len cE (aA (pv 0) aD)) (cX AN rfl T.n_len cE (aA (lK sW rfl T.n_str TV (aA (dM rfl hm ru) aD)) aD)) (dJ _))))) (aN (iV ⟨rfl,rfl,rfl⟩ rfl rfl T.x_Unreadable.1 T.x_Unreadable.2)) cY) (aI (cM (i:=1) nd rfl (bP rfl) (lK YO rfl T.n_int boot_int (aA (pv 0) aD))) (aI (fA (PW.pt (XF (dA CD (pv 1) (dM rfl hm ru) (dJ _)) (SI (dA WZ (pv 0) (lK sW rfl T.n_str TV (aA (pv 1) aD)) (dJ _))))) (aN (iV ⟨rfl,rfl,rfl⟩ rfl rfl T.x_Unreadable.1 T.x_Unreadable.2)) cY) (aN (bG (pv 1))))),?_⟩;have hlen:(bT t).length≤aU:=small (by rw[kO];omega);have hno:¬(!t.isEmpty && t.all Vatwva.isDigit)=true→Vatwva.naturalOf t=none:=fun c=>by unfold Vatwva.naturalOf;rw[if_neg fun z=>c ?_];simp only[aE]at z ⊢;exact⟨z.1,z.2.2.1⟩
 refine⟨_,rfl,rfl,_,rfl,rfl,trivial,_,rfl,?_⟩;rw[AW ht];refine nB (fun c=>sY (k2 (hno fun z=>by rw[z]at c;cases c))) (fun c=>?_);have hd:(!t.isEmpty && t.all Vatwva.isDigit)=true:=by
  cases q:(!t.isEmpty && t.all Vatwva.isDigit)with
  | true=>rfl
  | false=>rw[q]at c;exact absurd rfl c
 rw[aE]at hd;have hne:t≠[]:=fun z=>by rw[z]at hd;cases hd.1
 refine⟨_,rfl,_,rfl,hlen,_,rfl,(by decide),_,rfl,(by rw[QZ];decide),_,_,rfl,rfl,_,rfl,nB (fun d=>k2 ?_) (fun d=>?_)⟩
 ·have d:(((jY (iM ((1000000000:Int)))).length:Nat):Int) < ((bT t).length:Nat):=of_decide_eq_true d;rw[QZ,kO]at d;cases q:Vatwva.naturalOf t with
  | none=>rfl
  | some n=>obtain⟨h1,h2⟩:=VM.mB.mp q;have:=VM.mM 9 n (gP h1 (by decide));rw[h2]at this;omega
 ·have d:¬(((jY (iM ((1000000000:Int)))).length:Nat):Int) < ((bT t).length:Nat):=fun z=>d (decide_eq_true z);rw[QZ,kO]at d;have hl10:t.length≤10:=by omega
  have hv:=Qx hd.2 hne hl10;refine⟨_,rfl,_,_,rfl,hv,by rw[kO];omega,?_⟩;refine⟨_,rfl,_,_,rfl,rfl,_,rfl,nB (fun e=>sY (k2 ?_)) (fun e=>?_)⟩
  ·have e:(1000000000:Int) < ((VM.val t:Nat):Int):=of_decide_eq_true e;cases q:Vatwva.naturalOf t with
   | none=>rfl
   | some n=>
    obtain⟨h1,h2⟩:=VM.mB.mp q;have:VM.val t=n:=by rw[←h2,VM.EE]
    have h1:n≤1000000000:=h1;omega
  ·have e:¬(1000000000:Int) < ((VM.val t:Nat):Int):=fun z=>e (decide_eq_true z);have hle:VM.val t≤1000000000:=by omega
   refine⟨_,rfl,_,rfl,_,rfl,?_,rfl,_,rfl,?_⟩
   ·show((VM.val t:Nat):Int).natAbs.log2 < 1920;rw[Int.natAbs_natCast];exact EY hle
   ·rw[yE];refine nB (fun g=>k2 ?_) (fun g=>?_)
    ·cases q:Vatwva.naturalOf t with
     | none=>rfl
     | some n=>
      obtain⟨h1,h2⟩:=VM.mB.mp q;have:VM.val t=n:=by rw[←h2,VM.EE]
      rw[this,h2,decide_eq_true rfl]at g;cases g
    ·have g:bT t=bT (Vatwva.decimal (VM.val t)):=by
      by_cases q:V.str (bT t)=V.str (bT (Vatwva.decimal (VM.val t)))
      ·exact V.str.inj q
      ·rw[decide_eq_false q]at g;exact absurd rfl g
     exact⟨_,rfl,k1 _ (VM.mB.mpr ⟨hle,(uJ g).symm⟩)⟩
theorem BI (r:bW):(jV r).all cG=true:=by
 unfold jV;rw[cD];intro b hb;induction r with
 | nil=>cases hb
 | cons c r ih=>
  rw[ID]at hb;split at hb
  ·rename_i hc
   rcases aT.mp hb with rfl | hb
   ·exact hc
   ·exact ih hb
  ·cases hb
theorem BJ (r:bW):(jV r).length≤r.length:=by
 conv=>rhs;rw[←VM.uL r,aC]
 omega
def atName:Hp→V→Name→Prop:=fun _ y n=>y=.str (bT n)
def Yk:Hp→V→Nat→Prop:=fun _ y n=>y=.int (n:Nat)
def Yj:Hp→V→Int→Prop:=fun _ y z=>y=.int z
def Aw (a:mI):Sp:=fun vs H Q E=>∃p m r,vs=[.ref p]∧RR a H p m r∧oA a p m H (uG r) atName Q E
theorem JW (T:iJ K mg a):gV P w K mg base 3 "read_name" ["reader"] (Aw a):=by
 refine kI T.f_read_name ["reader"] fun vs H Q E h=>?_;obtain⟨p,m,r,rfl,hp,k⟩:=h;refine⟨rfl,fun nd _ _ _ _ _ hr=>?_⟩;refine⟨_,aN (bG (bB (RQ T) hr.m ⟨rfl,rfl,rfl⟩ (aA (mD (tE T) T.q_Reader hr ⟨rfl,rfl,rfl⟩ (pv 0)) aD))),?_⟩;obtain⟨dx,fs,h1,h2⟩:=hp.at;refine⟨_,rfl,p,dx,fs,rfl,h1,h2 _ (by decide) (by decide),p,m,r,rfl,hp,fun H' hb hr'=>⟨jV r,rfl,BI r,bI (BJ r) hp.len,fun hn=>?_,fun hn=>?_⟩⟩
 ·exact k.yes (show uG r=some (jV r,kD r)from if_pos hn) H' _ hb hr' rfl
 ·exact k.no (if_neg hn) H' hb
def VB (a:mI):Sp:=fun vs H Q E=>∃p m r,vs=[.ref p]∧RR a H p m r∧oA a p m H (kN r) Yk Q E
theorem yU (T:iJ K mg a):gV P w K mg base 3 "read_count" ["reader"] (VB a):=by
 refine kI T.f_read_count ["reader"] fun vs H Q E h=>?_;obtain⟨p,m,r,rfl,hp,k⟩:=h;refine⟨rfl,fun nd _ _ _ _ _ hr=>?_⟩;refine⟨_,aN (bG (bB (MO T) hr.m ⟨rfl,rfl,rfl⟩ (aA (mD (tE T) T.q_Reader hr ⟨rfl,rfl,rfl⟩ (pv 0)) aD))),?_⟩;obtain⟨dx,fs,h1,h2⟩:=hp.at;refine⟨_,rfl,p,dx,fs,rfl,h1,h2 _ (by decide) (by decide),p,m,r,rfl,hp,fun H' hb hr'=>⟨jV r,rfl,BI r,bI (BJ r) hp.len,fun n hn=>?_,fun hn=>?_⟩⟩
 ·exact k.yes (x:=n) (r:=kD r) (by unfold kN;rw[hn];rfl) H' _ hb hr' rfl
 ·exact k.no (by unfold kN;rw[hn];rfl) H' hb
def SV (a:mI):Sp:=fun vs H Q E=>∃p m r,vs=[.ref p]∧RR a H p m r∧oA a p m H (KD r) Yj Q E
theorem RZ (T:iJ K mg a):gV P w K mg base 4 "read_number" ["reader"] (SV a):=by
 refine kI T.f_read_number ["reader","count"] fun vs H Q E h=>?_;obtain⟨p,m,r,rfl,hp,k⟩:=h;refine⟨rfl,fun nd _ _ _ _ _ hr=>?_⟩;refine⟨_,aI (fA (wY (mS (sB (qS T) T.q_Reader hr.m ⟨rfl,rfl,rfl⟩ (pv 0) (aA dZ aD)))) (aN (bG (bB (yU T) hr ⟨rfl,rfl,rfl⟩ (aA (pv 0) aD)))) cY) (aI (cM (i:=1) nd rfl (bP rfl) (bB (yU T) hr ⟨rfl,rfl,rfl⟩ (aA (pv 0) aD))) (aI (fA (dA qF (pv 1) cA (dJ _)) (aN (iV ⟨rfl,rfl,rfl⟩ rfl rfl T.x_Unreadable.1 T.x_Unreadable.2)) cY) (aN (bG (MS EC (pv 1)))))),?_⟩;obtain⟨dx,fs,h1,h2⟩:=hp.at;refine⟨_,rfl,p,dx,fs,rfl,h1,h2 _ (by decide) (by decide),p,m,r,45,rfl,hp,fun hh H1 b1 r1=>⟨_,rfl,xK ?_⟩,fun hh=>⟨_,rfl,sY ?_⟩⟩
 ·have e:KD r=(kN r.tail).bind fun x=>if x.1=0 then none else some (-(x.1:Int),x.2):=if_pos hh
  refine⟨_,rfl,p,m,r.tail,rfl,r1,?_⟩;cases q:kN r.tail with
  | none=>exact(k.no (by rw[e,q];rfl)).on b1
  | some x=>
   intro H2 y b2 r2 hy;have hy:y=.int (x.1:Nat):=hy;subst hy;have e:KD r=if x.1=0 then none else some (-(x.1:Int),x.2):=by rw[e,q];rfl
   refine⟨_,rfl,rfl,_,rfl,nB (fun c=>?_) (fun c=>?_)⟩
   ·have c:(x.1:Int)=0:=V.int.inj (of_decide_eq_true c);exact k.no (by rw[e,if_pos (by omega)]) H2 (b1.trans b2)
   ·have c:¬x.1=0:=fun z=>c (decide_eq_true (by rw[z];rfl));refine⟨_,rfl,_,rfl,?_⟩;exact k.yes (x:= -(x.1:Int)) (r:=x.2) (by rw[e,if_neg c]) H2 _ (b1.trans b2) r2 rfl
 ·have e:KD r=(kN r).map fun x=>((x.1:Int),x.2):=if_neg hh;refine⟨_,rfl,p,m,r,rfl,hp,?_⟩;cases q:kN r with
  | none=>exact k.no (by rw[e,q];rfl)
  | some x=>intro H2 y b2 r2 hy;exact k.yes (x:=(x.1:Int)) (r:=x.2) (by rw[e,q];rfl) H2 y b2 r2 hy
def yW (r:bW):Option (UInt8×bW):=if r.head?=some 92 then (if r.tail.head?=some 34∨r.tail.head?=some 92 then (r.tail.head?).map fun b=>(b,r.tail.tail)else none)else (r.head?).bind fun b=>if Vatwva.isSign b=true then some (b,r.tail)else none
theorem VL (r:bW):Vatwva.unquoted r=if r.head?=some 34 then some ([],r.tail)else (yW r).bind fun x=>(Vatwva.unquoted x.2).map fun y=>(x.1::y.1,y.2):=by
 cases r with
 | nil=>rw[Vatwva.unquoted];rfl
 | cons b r=>
  by_cases h34:b=34
  ·subst h34;rw[Vatwva.unquoted];exact(if_pos rfl).symm
  ·have n34:¬(b::r).head?=some 34:=fun z=>h34 (by simpa using z);rw[if_neg n34];unfold yW;by_cases h92:b=92
   ·subst h92;rw[if_pos (show(92::r:bW).head?=some 92 from rfl)];cases r with
    | nil=>
     have e:Vatwva.unquoted [92]=if (Vatwva.isSign 92 && (92:UInt8) != 92)=true then (Vatwva.unquoted []).map fun x=>(92::x.1,x.2)else none:=by
      rw[Vatwva.unquoted]
      ·intro q;cases q
      ·intro b' r' _ q;cases q
     rw[e];rfl
    | cons c r=>
     rw[Vatwva.unquoted];show _=(if (c::r:bW).head?=some 34∨(c::r:bW).head?=some 92 then some (c,r)else none).bind _;by_cases hc:c=34∨c=92
     ·rw[if_pos hc,if_pos (by simpa using hc)];rfl
     ·rw[if_neg hc,if_neg (by simpa using hc)];rfl
   ·have n92:¬(b::r).head?=some 92:=fun z=>h92 (by simpa using z);rw[if_neg n92];have e:Vatwva.unquoted (b::r)=if (Vatwva.isSign b && b != 92)=true then (Vatwva.unquoted r).map fun x=>(b::x.1,x.2)else none:=by
     rw[Vatwva.unquoted]
     ·intro q;exact h34 q
     ·intro b' r' q _;exact h92 q
    rw[e];show _=(if Vatwva.isSign b=true then some (b,r)else none).bind _;by_cases hs:Vatwva.isSign b=true
    ·rw[if_pos hs,if_pos (by rw[hs];simpa using h92)];rfl
    ·rw[if_neg hs,if_neg (by simp[hs])];rfl
theorem Ik (h:yW r=some x):x.2.length < r.length:=by
 unfold yW at h;cases r with
 | nil=>
  split at h
  ·rename_i q;cases q
  ·cases h
 | cons b r=>
  split at h
  ·split at h
   ·obtain⟨c,hc,rfl⟩:=aO.mp h;show r.tail.length < _;rw[NY,aK];omega
   ·cases h
  ·obtain⟨c,hc,h⟩:=bE.mp h;split at h
   ·cases h;exact lE _
   ·cases h
theorem IU (r:bW) (c:UInt8):(vP r=.int (c.toNat:Nat))↔r.head?=some c:=by
 cases r with
 | nil=>exact⟨fun z=>(by have:=V.int.inj z;omega),fun z=>by cases z⟩
 | cons b r=>
  constructor
  ·intro z;have:(b.toNat:Int)=(c.toNat:Nat):=V.int.inj z;have:b=c:=lU.mp (by omega);rw[this];rfl
  ·intro z;cases z;rfl
theorem Ec:(("\"":Str).cps.getD 0 0:Nat)=(34:UInt8).toNat:=by decide
theorem XA:(("\\":Str).cps.getD 0 0:Nat)=(92:UInt8).toNat:=by decide
def Wh:Hp→V→UInt8→Prop:=fun _ y b=>y=.int (b.toNat:Nat)
def FP (a:mI):Sp:=fun vs H Q E=>∃p m r,vs=[.ref p]∧RR a H p m r∧oA a p m H (yW r) Wh Q E
theorem HV (r:bW) (i:Int):Xc (vP r) (.int i)=true:=by cases r<;>rfl
theorem OI {r:bW} {c:UInt8} {i:Int} (h:i=(c.toNat:Nat)):(!decide (vP r=.int i))=true↔¬r.head?=some c:=by subst h;rw[fF,decide_eq_false_iff_not,IU]
theorem FO (T:iJ K mg a):gV P w K mg base 3 "read_marked_sign" ["reader"] (FP a):=by
 refine kI T.f_read_marked_sign ["reader","byte"] fun vs H Q E h=>?_;obtain⟨p,m,r,rfl,hp,k⟩:=h;refine⟨rfl,fun nd _ _ _ _ _ hr=>?_⟩;obtain⟨u1,hm1,ru1⟩:=T.c_FIRST_SIGN;obtain⟨u2,hm2,ru2⟩:=T.c_LAST_SIGN;refine⟨_,aI (fA (mS (sB (qS T) T.q_Reader hr ⟨rfl,rfl,rfl⟩ (pv 0) (aA dZ aD))) (aI (fA (PW.pt (SH (dA WZ (mD (wV T) T.q_Reader hr.m ⟨rfl,rfl,rfl⟩ (pv 0)) (cX mK rfl T.n_ord rA (aA dZ aD)) (dJ _)) (KC (dA WZ (mD (wV T) T.q_Reader hr.m ⟨rfl,rfl,rfl⟩ (pv 0)) (cX mK rfl T.n_ord rA (aA dZ aD)) (dJ _))))) (aN (iV ⟨rfl,rfl,rfl⟩ rfl rfl T.x_Unreadable.1 T.x_Unreadable.2)) cY) (aN (bG (mD (JV T) T.q_Reader hr ⟨rfl,rfl,rfl⟩ (pv 0))))) cY) (aI (cM (i:=1) nd rfl (bP rfl) (mD (JV T) T.q_Reader hr ⟨rfl,rfl,rfl⟩ (pv 0))) (aI (fA (PW.pt (XF (dA MR (pv 1) (dM rfl hm1 ru1) (dJ _)) (SI (dA CD (pv 1) (dM rfl hm2 ru2) (dJ _))))) (aN (iV ⟨rfl,rfl,rfl⟩ rfl rfl T.x_Unreadable.1 T.x_Unreadable.2)) cY) (aN (bG (pv 1))))),?_⟩;obtain⟨dx,fs,h1,h2⟩:=hp.at;refine⟨_,rfl,p,dx,fs,rfl,h1,h2 _ (by decide) (by decide),p,m,r,92,rfl,hp,fun hh H1 b1 r1=>⟨_,rfl,sY ?_⟩,fun hh=>⟨_,rfl,xK ?_⟩⟩
 ·obtain⟨dx1,fs1,g1,g2⟩:=r1.at;have e:yW r=if r.tail.head?=some 34∨r.tail.head?=some 92 then (r.tail.head?).map fun b=>(b,r.tail.tail)else none:=if_pos hh
  have o34:(((("\"":Str).cps.getD 0 0:Nat)):Int)=((34:UInt8).toNat:Nat):=by rw[Ec]
  have o92:(((("\\":Str).cps.getD 0 0:Nat)):Int)=((92:UInt8).toNat:Nat):=by rw[XA]
  have fin:∀c:UInt8,r.tail.head?=some c→(c=34∨c=92)→yW r=some (c,r.tail.tail):=fun c hc hq=>by rw[e,if_pos (by rw[hc];simpa using hq),hc];rfl
  refine⟨_,rfl,p,dx1,fs1,rfl,g1,g2 _ (by decide) (by decide),p,m,r.tail,rfl,r1,_,rfl,rfl,HV _ _,_,rfl,nB (fun c=>?_) (fun c=>xK ?_)⟩
  ·have c:=(OI o34).mp c;refine⟨_,rfl,p,dx1,fs1,rfl,g1,g2 _ (by decide) (by decide),p,m,r.tail,rfl,r1,_,rfl,rfl,HV _ _,_,rfl,nB (fun d=>?_) (fun d=>?_)⟩
   ·have d:=(OI o92).mp d;exact k.no (by rw[e,if_neg (by rw[not_or];exact⟨c,d⟩)]) H1 b1
   ·have d:r.tail.head?=some 92:=by
     by_cases q:r.tail.head?=some 92
     ·exact q
     ·exact absurd ((OI o92).mpr q) d
    refine⟨_,rfl,p,dx1,fs1,rfl,g1,g2 _ (by decide) (by decide),p,m,r.tail,rfl,r1,fun H2 b2 r2=>?_⟩;exact k.yes (fin 92 d (.inr rfl)) H2 _ (b1.trans b2) r2 ((IU _ _).mpr d)
  ·have c:r.tail.head?=some 34:=by
    by_cases q:r.tail.head?=some 34
    ·exact q
    ·exact absurd ((OI o34).mpr q) c
   refine⟨_,rfl,p,dx1,fs1,rfl,g1,g2 _ (by decide) (by decide),p,m,r.tail,rfl,r1,fun H2 b2 r2=>?_⟩;exact k.yes (fin 34 c (.inl rfl)) H2 _ (b1.trans b2) r2 ((IU _ _).mpr c)
 ·have e:yW r=(r.head?).bind fun b=>if Vatwva.isSign b=true then some (b,r.tail)else none:=if_neg hh
  refine⟨_,rfl,p,dx,fs,rfl,h1,h2 _ (by decide) (by decide),p,m,r,rfl,hp,fun H1 b1 r1=>?_⟩;obtain⟨i,ei,hi⟩:=PJ r;rw[ei];have no:¬(32≤i∧i≤126)→yW r=none:=fun c=>by
   rw[e];rcases hi with⟨b,r',rfl,rfl⟩ | ⟨rfl,rfl⟩
   ·show(if Vatwva.isSign b=true then _ else none)=none;rw[if_neg fun z=>c ?_];have:=VM.QP.mp z;omega
   ·rfl
  refine⟨_,rfl,_,_,rfl,rfl,_,rfl,nB (fun c=>sY (k.no (no ?_) H1 b1)) (fun c=>⟨_,rfl,_,_,rfl,rfl,_,rfl,nB (fun d=>k.no (no ?_) H1 b1) (fun d=>⟨_,rfl,?_⟩)⟩)⟩
  ·have c:i < 32:=of_decide_eq_true c;omega
  ·have d:(126:Int) < i:=of_decide_eq_true d;omega
  ·have c:¬i < 32:=fun z=>c (decide_eq_true z);have d:¬(126:Int) < i:=fun z=>d (decide_eq_true z);rcases hi with⟨b,r',rfl,rfl⟩ | ⟨rfl,rfl⟩
   ·refine k.yes (x:=b) (r:=r') ?_ H1 _ b1 r1 rfl;rw[e];show(if Vatwva.isSign b=true then some (b,r')else none)=_;rw[if_pos (VM.QP.mpr (by omega))]
   ·omega
def Ay (a:mI) (K:aB):Sp:=fun vs H Q E=>∃p m r,vs=[.ref p]∧RR a H p m r∧oA a p m H (VM.DX r) (oB K) Q E
theorem eN (u v:bW):cU (u++v)=cU u++cU v:=aW
theorem RR.ne (h:RR a H p m r) (hl:H l=none):l≠p:=fun z=>by obtain⟨_,_,q,_⟩:=h;rw[z,q]at hl;cases hl
theorem ZQ (T:iJ K mg a):gV P w K mg base 4 "read_text" ["reader"] (Ay a K):=by
 refine kI T.f_read_text ["reader","signs"] fun vs H Q E h=>?_
 obtain⟨p,m,r,rfl,hp,k⟩:=h
 refine⟨rfl,fun nd _ _ _ _ _ hr=>?_⟩
 obtain⟨u1,hm1,ru1⟩:=T.c_MOST_SIGNS
 refine⟨_,aI (cM (i:=1) nd rfl (bP rfl) (eJ aD))
  (aI (zV (gH ⟨rfl,rfl,rfl⟩) (wY (mS (sB (qS T) T.q_Reader hr.m ⟨rfl,rfl,rfl⟩ (pv 0) (aA dZ aD))))
   (aN (dN (nG bF bR bS gF (pv 1) (aA (bB (FO T) hr ⟨rfl,rfl,rfl⟩ (aA (pv 0) aD)) aD)))))
  (aI (fA (dA CD (cX cV rfl T.n_len cE (aA (pv 1) aD)) (dM rfl hm1 ru1) (dJ _)) (aN (iV ⟨rfl,rfl,rfl⟩ rfl rfl T.x_Unreadable.1 T.x_Unreadable.2)) cY)
  (aN (bG (bB (UT T) hr.m ⟨rfl,rfl,rfl⟩ (aA (pv 1) aD)))))),?_⟩
 refine⟨aY _,fun l hl=>?_⟩
 have s1:aZ H (upd H l (.lst [])):=aZ.upd hl
 have lp:=hp.ne hl
 refine⟨fun n σ H'=>∃u r',σ=[some (.ref p),some (.ref l)]∧H' l=some (.lst (cU u))∧RR a H' p m r'∧sH p H H'∧Vatwva.unquoted r=(Vatwva.unquoted r').map (fun x=>(u++x.1,x.2))∧u.length+r'.length≤6000∧n=r'.length,
  ⟨r.length,[],r,rfl,aG,hp.same s1,aZ.but s1,?_,by have:=hp.len;simpa using this,rfl⟩,?_⟩
 ·cases Vatwva.unquoted r<;>rfl
 rintro n σ H' ⟨u,r',rfl,hl',hr',hb,e,hn,rfl⟩
 obtain⟨dx,fs,h1,h2⟩:=hr'.at
 have est:=VL r'
 refine⟨_,rfl,p,dx,fs,rfl,h1,h2 _ (by decide) (by decide),p,m,r',34,rfl,hr',fun hh H1 b1 r1=>⟨_,rfl,xK ?_⟩,fun hh=>⟨_,rfl,sY ?_⟩⟩
 ·rw[if_pos hh]at est
  rw[est]at e
  have e:Vatwva.unquoted r=some (u++[],r'.tail):=e
  rw[cK]at e
  have hl1:H1 l=some (.lst (cU u)):=b1 l _ lp hl'
  have elen:(cU u).length=u.length:=aJ _
  refine⟨_,rfl,l,_,rfl,.inl (gX.of hl1),_,_,rfl,rfl,_,rfl,nB (fun c=>?_) (fun c=>?_)⟩
  ·have c:(30:Int) < ((cU u).length:Nat):=of_decide_eq_true c
   refine k.no ?_ H1 (hb.trans b1)
   unfold VM.DX
   rw[e]
   exact if_neg (by show ¬u.length≤30;omega)
  ·have c:¬(30:Int) < ((cU u).length:Nat):=fun z=>c (decide_eq_true z)
   refine⟨_,rfl,l,u,rfl,gX.of hl1,fun H2 x s2 hx=>?_⟩
   refine k.yes (x:=Vatwva.vText u) (r:=r'.tail) ?_ H2 x ((hb.trans b1).trans (aZ.but s2)) (r1.same s2) hx
   unfold VM.DX
   rw[e]
   exact if_pos (by show u.length≤30;omega)
 ·rw[if_neg hh]at est
  refine⟨fun σ' H''=>∃u r2,σ'=[some (.ref p),some (.ref l)]∧H'' l=some (.lst (cU u))∧RR a H'' p m r2∧sH p H H''∧Vatwva.unquoted r=(Vatwva.unquoted r2).map (fun x=>(u++x.1,x.2))∧u.length+r2.length≤6000∧r2.length < r'.length,
   fun σ' H'' ⟨u,r2,q1,q2,q3,q4,q5,q6,q7⟩=>⟨_,q7,u,r2,q1,q2,q3,q4,q5,q6,rfl⟩,?_⟩
  refine⟨_,rfl,.inl ⟨rfl,_,gX.of hl'⟩,_,rfl,p,m,r',rfl,hr',?_⟩
  cases q:yW r' with
  | none=>
   rw[q]at est
   rw[est]at e
   refine Gx.on (k.no ?_) hb
   unfold VM.DX
   rw[e];rfl
  | some x=>
   intro H2 y b2 r2 hy
   have hy:y=.int (x.1.toNat:Nat):=hy
   subst hy
   have hlt:=Ik q
   have hl2:H2 l=some (.lst (cU u)):=b2 l _ lp hl'
   refine⟨l,_,_,rfl,rfl,hl2,small (by rw[show(cU u).length=u.length from aJ _];omega),?_⟩
   refine⟨u++[x.1],x.2,rfl,?_,r2.upd hp hl,sS (hb.trans b2) hl,?_,by rw[aC,cR];omega,hlt⟩
   ·rw[eN];exact aG
   ·rw[q]at est
    rw[e,est]
    show((Vatwva.unquoted x.2).map _).map _=_
    rw[mX]
    congr 1
    funext z
    show(u++x.1::z.1,z.2)=_
    simp
theorem KA (h:dI d r=some x):x.2.length < r.length:=by obtain⟨g,_,e⟩:=VM.tH d r.length r x (aR _) h;obtain⟨b,s,eb,_⟩:=VM.xB g.1;rw[e,eb,aC,aK];omega
theorem AV {w r r':bW} (h:jF w r=some r'):r'.length≤r.length:=by rw[VM.iF.mp h,aC];omega
def jH (fs:List (Name×fT)):List Name:=fs.map fun x=>x.1
def GN (fs:List (Name×fT)):List fT:=fs.map fun x=>x.2
theorem JE (h:r.head?=some (VM.dG (!named))):cT named (dI d) ns r=some ([],r.tail):=by rw[cT,if_pos h]
theorem WI (h:¬r.head?=some (VM.dG (!named))):
  cT named (dI d) ns r=(if ns.isEmpty=true then some r else jF [44,32] r).bind fun r1=>(VM.uF named ns r1).bind fun h=>(dI d h.2).bind fun x=>(cT named (dI d) (ns++[h.1]) x.2).map fun y=>((h.1,x.1)::y.1,y.2):=by
 rw[cT,if_neg h];cases q1:(if ns.isEmpty=true then some r else jF [44,32] r)with
 | none=>rfl
 | some r1=>
  have l1:r1.length≤r.length:=by
   split at q1
   ·cases q1;exact aR _
   ·exact AV q1
  show(VM.uF named ns r1).bind _=(VM.uF named ns r1).bind _;cases q2:VM.uF named ns r1 with
  | none=>rfl
  | some hh=>
   have l2:hh.2.length≤r1.length:=by rw[(VM.MX q2).2.2,aC];omega
   show(dI d hh.2).bind _=(dI d hh.2).bind _;cases q3:dI d hh.2 with
   | none=>rfl
   | some x=>have:=KA q3;show(if h':x.2.length < r.length then _ else none)=_;rw[dif_pos (by omega)];rfl
def BM (d:Nat) (a:mI) (K:aB):Sp:=fun vs H Q E=>∃p m r,∃lv:Int,vs=[.ref p,.int lv]∧lv+d=7∧RR a H p m r∧oA a p m H (dI d r) (oB K) Q E
def LR (d:Nat) (r:bW):Option (fT×bW):=(cT false (dI d) [] r).map fun x=>(Vatwva.listOf (GN x.1),x.2)
def vF (d:Nat) (r:bW):Option (fT×bW):=(cT true (dI d) [] r).map fun x=>(Vatwva.recordOf x.1,x.2)
def Av (d:Nat) (a:mI) (K:aB):Sp:=fun vs H Q E=>∃p m r,∃lv:Int,vs=[.ref p,.int lv]∧lv+d=6∧RR a H p m r∧oA a p m H (LR d r) (oB K) Q E
def SW (d:Nat) (a:mI) (K:aB):Sp:=fun vs H Q E=>∃p m r,∃lv:Int,vs=[.ref p,.int lv]∧lv+d=6∧RR a H p m r∧oA a p m H (vF d r) (oB K) Q E
theorem OF:(", ":Str)=bT [44,32]:=by decide
theorem Ks:(": ":Str)=bT [58,32]:=by decide
theorem fW.snoc (h:fW K H zs vs) (hx:oB K H x v):fW K H (zs++[x]) (vs++[v]):=h.append (.cons hx .nil)
theorem ZO (T:iJ K mg a) {d k0:Nat} (hk:4≤k0) (R:gV P w K mg base k0 "read_part" ["reader","level"] (BM d a K)):gV P w K mg base (k0+1) "read_list" ["reader","level"] (Av d a K):=by
 refine kI T.f_read_list ["reader","level","parts"] fun vs H Q E h=>?_
 obtain⟨p,m,r,lv,rfl,hlv,hp,k⟩:=h
 refine⟨rfl,fun nd _ _ _ _ _ hr=>?_⟩
 refine⟨_,aI (cM (i:=2) nd rfl (bP rfl) (eJ aD))
  (aI (zV (gH ⟨rfl,rfl,rfl⟩) (wY (mS (sB (qS T) T.q_Reader (hr.mono (by omega)) ⟨rfl,rfl,rfl⟩ (pv 0) (aA dZ aD))))
   (aI (fA (dA CD (cX cV rfl T.n_len cE (aA (pv 2) aD)) cA (dJ _)) (aN (dN (sB (wF T) T.q_Reader (hr.mono (by omega)) ⟨rfl,rfl,rfl⟩ (pv 0) (aA dZ aD)))) cY)
   (aN (dN (nG bF bR bS gF (pv 2) (aA (bB R hr ⟨rfl,rfl,rfl⟩ (aA (pv 0) (aA (jZ uD (pv 1) cA) aD))) aD))))))
  (aN (bG (bB (qR T) (hr.mono (by omega)) ⟨rfl,rfl,rfl⟩ (aA (pv 2) aD))))),?_⟩
 refine⟨aY _,fun l hl=>?_⟩
 have s1:aZ H (upd H l (.lst [])):=aZ.upd hl
 have lp:=hp.ne hl
 refine⟨fun n σ H'=>∃fs zs r',σ=[some (.ref p),some (.int lv),some (.ref l)]∧H' l=some (.lst zs)∧fW K H' zs (GN fs)∧RR a H' p m r'∧sH p H H'∧cT false (dI d) [] r=(cT false (dI d) (jH fs) r').map (fun x=>(fs++x.1,x.2))∧zs.length=fs.length∧fs.length+r'.length≤6000∧n=r'.length,
  ⟨r.length,[],[],r,rfl,aG,.nil,hp.same s1,aZ.but s1,?_,rfl,by have:=hp.len;simpa using this,rfl⟩,?_⟩
 ·show _=(cT false (dI d) [] r).map _
  cases cT false (dI d) [] r<;>rfl
 rintro n σ H' ⟨fs,zs,r',rfl,hl',hz,hr',hb,e,hzl,hn,rfl⟩
 obtain⟨dx,fl,h1,h2⟩:=hr'.at
 refine⟨_,rfl,p,dx,fl,rfl,h1,h2 _ (by decide) (by decide),p,m,r',93,rfl,hr',fun hh H1 b1 r1=>⟨_,rfl,xK ?_⟩,fun hh=>⟨_,rfl,sY ?_⟩⟩
 ·rw[JE (named:=false) hh]at e
  have e:cT false (dI d) [] r=some (fs++[],r'.tail):=e
  rw[cK]at e
  have hl1:H1 l=some (.lst zs):=b1 l _ lp hl'
  refine⟨_,rfl,l,GN fs,zs,rfl,.inl (gX.of hl1),hz.tups (sH.tups b1 hr'),fun H2 x s2 hx=>?_⟩
  exact k.yes (x:=Vatwva.listOf (GN fs)) (r:=r'.tail) (by unfold LR;rw[e];rfl) H2 x ((hb.trans b1).trans (aZ.but s2)) (r1.same s2) hx
 ·rw[WI (named:=false) hh]at e
  refine⟨fun σ' H''=>∃fs zs r2,σ'=[some (.ref p),some (.int lv),some (.ref l)]∧H'' l=some (.lst zs)∧fW K H'' zs (GN fs)∧RR a H'' p m r2∧sH p H H''∧cT false (dI d) [] r=(cT false (dI d) (jH fs) r2).map (fun x=>(fs++x.1,x.2))∧zs.length=fs.length∧fs.length+r2.length≤6000∧r2.length < r'.length,
   fun σ' H'' ⟨fs,zs,r2,q1,q2,q3,q4,q5,q6,q7,q8,q9⟩=>⟨_,q9,fs,zs,r2,q1,q2,q3,q4,q5,q6,q7,q8,rfl⟩,?_⟩
  have elen:(jH fs).isEmpty=true↔¬(0:Int) < ((zs.length:Nat):Int):=by
   rw[hzl]
   cases fs<;>simp[jH]
  refine⟨_,rfl,l,_,rfl,.inl (gX.of hl'),_,_,rfl,rfl,_,rfl,nB (fun c=>⟨_,rfl,p,dx,fl,rfl,h1,h2 _ (by decide) (by decide),p,m,r',[44,32],by rw[OF];rfl,hr',fun r1 he H1 b1 hr1=>?_,fun he=>?_⟩) (fun c=>?_)⟩
  rotate_left
  ·have c:=of_decide_eq_true c
   rw[if_neg fun z=>elen.mp z c,he]at e
   exact Gx.on (k.no (by unfold LR;rw[e];rfl)) hb
  rotate_left
  ·have c:(0:Int) < ((zs.length:Nat):Int):=of_decide_eq_true c
   have hif:(if (jH fs).isEmpty=true then some r' else jF [44,32] r')=some r1:=by rw[if_neg fun z=>elen.mp z c];exact he
   have hle:=AV he
   rw[hif]at e
   refine⟨_,rfl,.inl ⟨rfl,_,gX.of (b1 l _ lp hl')⟩,_,rfl,_,rfl,_,_,rfl,rfl,p,m,r1,lv+1,rfl,by omega,hr1,?_⟩
   have e:cT false (dI d) [] r=((dI d r1).bind fun x=>(cT false (dI d) (jH fs++[[]]) x.2).map fun y=>(([],x.1)::y.1,y.2)).map (fun x=>(fs++x.1,x.2)):=e
   cases q:dI d r1 with
   | none=>
    rw[q]at e
    exact Gx.on (k.no (by unfold LR;rw[e];rfl)) (hb.trans b1)
   | some x=>
    rw[q]at e
    intro H2 y b2 r2 hy
    have hlt:=KA q
    have hl2:H2 l=some (.lst zs):=b2 l _ lp (b1 l _ lp hl')
    have t1:=(sH.tups b1 hr').trans (sH.tups b2 hr1)
    refine⟨l,_,_,rfl,rfl,hl2,small (by omega),fs++[([],x.1)],zs++[y],x.2,rfl,aG,?_,r2.upd hp hl,sS ((hb.trans b1).trans b2) hl,?_,by rw[aC,aC,hzl];rfl,by rw[aC,cR];omega,by omega⟩
    ·have:=(fW.snoc (hz.tups t1) hy).tups (oP (ys:=zs++[y]) hl2)
     unfold GN at this ⊢
     rw[aW];exact this
    ·rw[e]
     show((cT false (dI d) (jH fs++[[]]) x.2).map _).map _=_
     rw[mX]
     have e3:jH (fs++[([],x.1)])=jH fs++[[]]:=by unfold jH;rw[aW];rfl
     rw[e3]
     congr 1
     funext z
     show(fs++([],x.1)::z.1,z.2)=_
     simp
  ·have c:¬(0:Int) < ((zs.length:Nat):Int):=fun z=>c (decide_eq_true z)
   have hif:(if (jH fs).isEmpty=true then some r' else jF [44,32] r')=some r':=by rw[if_pos (elen.mpr c)]
   rw[hif]at e
   refine⟨_,rfl,.inl ⟨rfl,_,gX.of hl'⟩,_,rfl,_,rfl,_,_,rfl,rfl,p,m,r',lv+1,rfl,by omega,hr',?_⟩
   have e:cT false (dI d) [] r=((dI d r').bind fun x=>(cT false (dI d) (jH fs++[[]]) x.2).map fun y=>(([],x.1)::y.1,y.2)).map (fun x=>(fs++x.1,x.2)):=e
   cases q:dI d r' with
   | none=>
    rw[q]at e
    exact Gx.on (k.no (by unfold LR;rw[e];rfl)) hb
   | some x=>
    rw[q]at e
    intro H2 y b2 r2 hy
    have hlt:=KA q
    have hl2:H2 l=some (.lst zs):=b2 l _ lp hl'
    have t1:=sH.tups b2 hr'
    refine⟨l,_,_,rfl,rfl,hl2,small (by omega),fs++[([],x.1)],zs++[y],x.2,rfl,aG,?_,r2.upd hp hl,sS (hb.trans b2) hl,?_,by rw[aC,aC,hzl];rfl,by rw[aC,cR];omega,by omega⟩
    ·have:=(fW.snoc (hz.tups t1) hy).tups (oP (ys:=zs++[y]) hl2)
     unfold GN at this ⊢
     rw[aW];exact this
    ·rw[e]
     show((cT false (dI d) (jH fs++[[]]) x.2).map _).map _=_
     rw[mX]
     have e3:jH (fs++[([],x.1)])=jH fs++[[]]:=by unfold jH;rw[aW];rfl
     rw[e3]
     congr 1
     funext z
     show(fs++([],x.1)::z.1,z.2)=_
     simp
theorem Nb (ns:List Name) (r:bW):VM.uF true ns r=(uG r).bind fun n=>if ns.contains n.1=true then none else (jF [58,32] n.2).map fun r2=>(n.1,r2):=rfl
theorem YS (fs:List (Name×fT)) (n:Name):(jH fs).contains n=Vatwvc.hasField fs n:=by rw[lV,VM.jN,List.contains_iff_mem];unfold jH;rw[aX]
theorem Rl (h:uG r=some x):x.2.length≤r.length:=by rw[(VM.vE.mp h).2.1,aC];omega
theorem SA (T:iJ K mg a) (hk:4≤k0) (R:gV P w K mg base k0 "read_part" ["reader","level"] (BM d a K)):gV P w K mg base (k0+1) "read_record" ["reader","level"] (SW d a K):=by
 refine kI T.f_read_record ["reader","level","names","parts","name"] fun vs H Q E h=>?_
 obtain⟨p,m,r,lv,rfl,hlv,hp,k⟩:=h
 refine⟨rfl,fun nd _ _ _ _ _ hr=>?_⟩
 refine⟨_,aI (cM (i:=2) nd rfl (bP rfl) (eJ aD)) (aI (cM (i:=3) nd rfl (bP rfl) (eJ aD))
  (aI (zV (gH ⟨rfl,rfl,rfl⟩) (wY (mS (sB (qS T) T.q_Reader (hr.mono (by omega)) ⟨rfl,rfl,rfl⟩ (pv 0) (aA dZ aD))))
   (aI (fA (dA CD (cX cV rfl T.n_len cE (aA (pv 2) aD)) cA (dJ _)) (aN (dN (sB (wF T) T.q_Reader (hr.mono (by omega)) ⟨rfl,rfl,rfl⟩ (pv 0) (aA dZ aD)))) cY)
   (aI (cM (i:=4) nd rfl (bP rfl) (bB (JW T) (hr.mono (by omega)) ⟨rfl,rfl,rfl⟩ (aA (pv 0) aD)))
   (aI (fA (dA WY (pv 4) (pv 2) rfl) (aN (iV ⟨rfl,rfl,rfl⟩ rfl rfl T.x_Unreadable.1 T.x_Unreadable.2)) cY)
   (aI (dN (nG bF bR bS gF (pv 2) (aA (pv 4) aD)))
   (aI (dN (sB (wF T) T.q_Reader (hr.mono (by omega)) ⟨rfl,rfl,rfl⟩ (pv 0) (aA dZ aD)))
   (aN (dN (nG bF bR bS gF (pv 3) (aA (bB R hr ⟨rfl,rfl,rfl⟩ (aA (pv 0) (aA (jZ uD (pv 1) cA) aD))) aD))))))))))
  (aN (bG (bB (oC T) (hr.mono (by omega)) ⟨rfl,rfl,rfl⟩ (aA (pv 2) (aA (pv 3) aD))))))),?_⟩
 refine⟨aY _,fun ln hln=>⟨aY _,fun l hl0=>?_⟩⟩
 have hne:l≠ln:=fun z=>by rw[z,aG]at hl0;cases hl0
 have hl:H l=none:=by rw[bK hne]at hl0;exact hl0
 have s1:aZ H (upd (upd H ln (.lst [])) l (.lst [])):=(aZ.upd hln).trans (aZ.upd hl0)
 have lp:=hp.ne hl
 have lnp:=hp.ne hln
 refine⟨fun n σ H'=>∃fs zs r' st,σ=[some (.ref p),some (.int lv),some (.ref ln),some (.ref l),st]∧H' ln=some (.lst (dQ fs))∧H' l=some (.lst zs)∧fW K H' zs (GN fs)∧RR a H' p m r'∧sH p H H'∧cT true (dI d) [] r=(cT true (dI d) (jH fs) r').map (fun x=>(fs++x.1,x.2))∧zs.length=fs.length∧fs.length+r'.length≤6000∧n=r'.length,
  ⟨r.length,[],[],r,none,rfl,by rw[bK hne.symm];exact aG,aG,.nil,hp.same s1,aZ.but s1,?_,rfl,by have:=hp.len;simpa using this,rfl⟩,?_⟩
 ·show _=(cT true (dI d) [] r).map _
  cases cT true (dI d) [] r<;>rfl
 rintro n σ H' ⟨fs,zs,r',st,rfl,hln',hl',hz,hr',hb,e,hzl,hn,rfl⟩
 obtain⟨dx,fl,h1,h2⟩:=hr'.at
 refine⟨_,rfl,p,dx,fl,rfl,h1,h2 _ (by decide) (by decide),p,m,r',125,rfl,hr',fun hh H1 b1 r1=>⟨_,rfl,xK ?_⟩,fun hh=>⟨_,rfl,sY ?_⟩⟩
 ·rw[JE (named:=true) hh]at e
  have e:cT true (dI d) [] r=some (fs++[],r'.tail):=e
  rw[cK]at e
  have hl1:H1 l=some (.lst zs):=b1 l _ lp hl'
  have hln1:H1 ln=some (.lst (dQ fs)):=b1 ln _ lnp hln'
  refine⟨_,rfl,_,rfl,ln,l,fs,zs,rfl,.inl (gX.of hln1),.inl (gX.of hl1),hz.tups (sH.tups b1 hr'),fun H2 x s2 hx=>?_⟩
  exact k.yes (x:=Vatwva.recordOf fs) (r:=r'.tail) (by unfold vF;rw[e];rfl) H2 x ((hb.trans b1).trans (aZ.but s2)) (r1.same s2) hx
 ·rw[WI (named:=true) hh]at e
  refine⟨fun σ' H''=>∃fs zs r2 st,σ'=[some (.ref p),some (.int lv),some (.ref ln),some (.ref l),st]∧H'' ln=some (.lst (dQ fs))∧H'' l=some (.lst zs)∧fW K H'' zs (GN fs)∧RR a H'' p m r2∧sH p H H''∧cT true (dI d) [] r=(cT true (dI d) (jH fs) r2).map (fun x=>(fs++x.1,x.2))∧zs.length=fs.length∧fs.length+r2.length≤6000∧r2.length < r'.length,
   fun σ' H'' ⟨fs,zs,r2,st,q1,q2,q3,q4,q5,q6,q7,q8,q9,q10⟩=>⟨_,q10,fs,zs,r2,st,q1,q2,q3,q4,q5,q6,q7,q8,q9,rfl⟩,?_⟩
  have elen:(jH fs).isEmpty=true↔¬(0:Int) < (((dQ fs).length:Nat):Int):=by
   rw[gT]
   cases fs<;>simp[jH]
  refine⟨_,rfl,ln,_,rfl,.inl (gX.of hln'),_,_,rfl,rfl,_,rfl,nB (fun c=>⟨_,rfl,p,dx,fl,rfl,h1,h2 _ (by decide) (by decide),p,m,r',[44,32],by rw[OF];rfl,hr',fun r1 he H1 b1 hr1=>?rest1,fun he=>?ecase⟩) (fun c=>?rest2)⟩
  case ecase=>
   have c:=of_decide_eq_true c
   rw[if_neg fun z=>elen.mp z c,he]at e
   exact Gx.on (k.no (by unfold vF;rw[e];rfl)) hb
  case' rest1=>
   have c:(0:Int) < (((dQ fs).length:Nat):Int):=of_decide_eq_true c
   have hif:(if (jH fs).isEmpty=true then some r' else jF [44,32] r')=some r1:=by rw[if_neg fun z=>elen.mp z c];exact he
   have hle:=AV he
   rw[hif]at e
   have e:cT true (dI d) [] r=((VM.uF true (jH fs) r1).bind fun h=>(dI d h.2).bind fun x=>(cT true (dI d) (jH fs++[h.1]) x.2).map fun y=>((h.1,x.1)::y.1,y.2)).map (fun x=>(fs++x.1,x.2)):=e
  case' rest2=>
   have c:¬(0:Int) < (((dQ fs).length:Nat):Int):=fun z=>c (decide_eq_true z)
   have hif:(if (jH fs).isEmpty=true then some r' else jF [44,32] r')=some r':=by rw[if_pos (elen.mpr c)]
   rw[hif]at e
   obtain⟨r1,hr1,hle,e⟩:∃r1,RR a H' p m r1∧r1.length≤r'.length∧cT true (dI d) [] r=((VM.uF true (jH fs) r1).bind fun h=>(dI d h.2).bind fun x=>(cT true (dI d) (jH fs++[h.1]) x.2).map fun y=>((h.1,x.1)::y.1,y.2)).map (fun x=>(fs++x.1,x.2)):=⟨r',hr',aR _,e⟩
   have b1:=sH.refl p H'
  all_goals
   refine⟨_,rfl,p,m,r1,rfl,hr1,?_⟩
   rw[Nb]at e
   cases q1:uG r1 with
   | none=>
    rw[q1]at e
    exact Gx.on (k.no (by unfold vF;rw[e];rfl)) (hb.trans b1)
   | some nm=>
    rw[q1]at e
    intro H2 y b2 r2 hy
    have hy:y=.str (bT nm.1):=hy
    subst hy
    have hnl:=Rl q1
    have b12:=b1.trans b2
    have e:cT true (dI d) [] r=((if (jH fs).contains nm.1=true then none else (jF [58,32] nm.2).map fun r2=>(nm.1,r2)).bind fun h=>(dI d h.2).bind fun x=>(cT true (dI d) (jH fs++[h.1]) x.2).map fun y=>((h.1,x.1)::y.1,y.2)).map (fun x=>(fs++x.1,x.2)):=e
    refine⟨_,rfl,_,rfl,ln,_,rfl,.inl (gX.of (b12 ln _ lnp hln')),rfl,tW _,_,rfl,?_⟩
    rw[tX,←YS]
    refine nB (fun g=>?_) (fun g=>?_)
    ·have g:(jH fs).contains nm.1=true:=g
     rw[if_pos g]at e
     exact k.no (by unfold vF;rw[e];rfl) _ (hb.trans b12)
    ·have g:¬(jH fs).contains nm.1=true:=g
     rw[if_neg g]at e
     have hln2:=b12 ln _ lnp hln'
     refine⟨_,rfl,.inl ⟨rfl,_,gX.of hln2⟩,_,rfl,ln,_,_,rfl,rfl,hln2,small (by rw[gT];omega),?_⟩
     have r3:RR a (upd H2 ln (.lst (dQ fs++[.str (bT nm.1)]))) p m nm.2:=r2.upd hp hln
     obtain⟨dx3,fl3,f1,f2⟩:=r3.at
     refine⟨_,rfl,p,dx3,fl3,rfl,f1,f2 _ (by decide) (by decide),p,m,nm.2,[58,32],by rw[Ks];rfl,r3,fun r4 he4 H4 b4 hr4=>?_,fun he4=>?_⟩
     rotate_left
     ·rw[he4]at e
      exact Gx.on (k.no (by unfold vF;rw[e];rfl)) (sS (hb.trans b12) hln)
     have hle4:=AV he4
     rw[he4]at e
     have hl4:H4 l=some (.lst zs):=b4 l _ lp (by rw[bK hne];exact b12 l _ lp hl')
     have hln4:H4 ln=some (.lst (dQ fs++[.str (bT nm.1)])):=b4 ln _ lnp aG
     have bH4:sH p H H4:=(sS (hb.trans b12) hln).trans b4
     have t4:zH H' H4:=((sH.tups b12 hr').trans (oP hln2)).trans (sH.tups b4 r3)
     refine⟨_,rfl,.inl ⟨rfl,_,gX.of hl4⟩,_,rfl,_,rfl,_,_,rfl,rfl,p,m,r4,lv+1,rfl,by omega,hr4,?_⟩
     have e:cT true (dI d) [] r=((dI d r4).bind fun x=>(cT true (dI d) (jH fs++[nm.1]) x.2).map fun y=>((nm.1,x.1)::y.1,y.2)).map (fun x=>(fs++x.1,x.2)):=e
     cases q:dI d r4 with
     | none=>
      rw[q]at e
      exact Gx.on (k.no (by unfold vF;rw[e];rfl)) bH4
     | some x=>
      rw[q]at e
      intro H5 y b5 r5 hy
      have hlt:=KA q
      have hl5:H5 l=some (.lst zs):=b5 l _ lp hl4
      have hln5:=b5 ln _ lnp hln4
      have t5:=t4.trans (sH.tups b5 hr4)
      refine⟨l,_,_,rfl,rfl,hl5,small (by omega),fs++[(nm.1,x.1)],zs++[y],x.2,_,rfl,?_,aG,?_,r5.upd hp hl,sS (bH4.trans b5) hl,?_,by rw[aC,aC,hzl];rfl,by rw[aC,cR];omega,by omega⟩
      ·rw[bK hne.symm,lZ];exact hln5
      ·have:=(fW.snoc (hz.tups t5) hy).tups (oP (ys:=zs++[y]) hl5)
       unfold GN at this ⊢
       rw[aW];exact this
      ·rw[e]
       show((cT true (dI d) (jH fs++[nm.1]) x.2).map _).map _=_
       rw[mX]
       have e3:jH (fs++[(nm.1,x.1)])=jH fs++[nm.1]:=by unfold jH;rw[aW];rfl
       rw[e3]
       congr 1
       funext z
       show(fs++(nm.1,x.1)::z.1,z.2)=_
       simp
theorem wQ:∀(r:NN) (named:Bool),Vatwva.count r≤(Vatwva.rowText named r).length
 | .nil,_=>aY _
 | .text n t r,named=>by
  have ih:=wQ r named;show 1+Vatwva.count r≤(Vatwva.nameText named n++(Vatwva.quoted t++(if r=.nil then []else 44::32::Vatwva.rowText named r))).length;rw[aC,aC,VM.pW,aK];split
  ·rename_i h;subst h
   show 1+0≤_;omega
  ·rw[aK,aK];omega
 | .num n z r,named=>by
  have ih:=wQ r named;obtain⟨b,s,e,_⟩:=VM.sX z;show 1+Vatwva.count r≤(Vatwva.nameText named n++(Vatwva.integer z++(if r=.nil then []else 44::32::Vatwva.rowText named r))).length;rw[aC,aC,e,aK];split
  ·rename_i h;subst h
   show 1+0≤_;omega
  ·rw[aK,aK];omega
 | .sub n l k r,named=>by
  have ih:=wQ r named;have ik:=wQ k (!l);show 1+Vatwva.count k+Vatwva.count r≤(Vatwva.nameText named n++((if l=true then 91 else 123)::(Vatwva.rowText (!l) k++((if l=true then 93 else 125)::(if r=.nil then []else 44::32::Vatwva.rowText named r))))).length;rw[aC,aK,aC,aK];split
  ·rename_i h;subst h
   show 1+Vatwva.count k+0≤_;omega
  ·rw[aK,aK];omega
theorem JX (T:iJ K mg a):∀d:Nat,gV P w K mg base (2 * d+6) "read_part" ["reader","level"] (BM d a K)
 | 0=>by
  refine kI T.f_read_part ["reader","level"] fun vs H Q E h=>?_
  obtain⟨p,m,r,lv,rfl,hlv,hp,k⟩:=h
  refine⟨rfl,fun nd _ _ _ _ _ hr=>?_⟩
  obtain⟨u,hm,ru⟩:=T.c_MOST_DEEP
  refine⟨_,aI (fA (dA CD (pv 1) (dM rfl hm ru) (dJ _)) (aN (iV ⟨rfl,rfl,rfl⟩ rfl rfl T.x_Unreadable.1 T.x_Unreadable.2)) cY) Nv,?_⟩
  refine⟨_,rfl,_,_,rfl,rfl,_,rfl,pE (decide_eq_true ?_) (k H (sH.refl p H))⟩
  show(6:Int) < lv
  have:lv+(0:Nat)=7:=hlv
  omega
 | d+1=>by
  have R:=JX T d
  refine kI T.f_read_part ["reader","level"] fun vs H Q E h=>?_
  obtain⟨p,m,r,lv,rfl,hlv,hp,k⟩:=h
  refine⟨rfl,fun nd f cdv A outer s hr=>?_⟩
  obtain⟨u,hm,ru⟩:=T.c_MOST_DEEP
  have hr:jE (2 * d+7) (A.deeper (tQ "read_part" (gW (top 71)) s.heap.objs.size f cdv)):=hr
  refine⟨_,aI (fA (dA CD (pv 1) (dM rfl hm ru) (dJ _)) (aN (iV ⟨rfl,rfl,rfl⟩ rfl rfl T.x_Unreadable.1 T.x_Unreadable.2)) cY)
   (aI (fA (mS (sB (qS T) T.q_Reader (hr.mono (by omega)) ⟨rfl,rfl,rfl⟩ (pv 0) (aA dZ aD))) (aN (bG (bB (SA T (by omega) R) hr ⟨rfl,rfl,rfl⟩ (aA (pv 0) (aA (pv 1) aD))))) cY)
   (aI (fA (mS (sB (qS T) T.q_Reader (hr.mono (by omega)) ⟨rfl,rfl,rfl⟩ (pv 0) (aA dZ aD))) (aN (bG (bB (ZO T (by omega) R) hr ⟨rfl,rfl,rfl⟩ (aA (pv 0) (aA (pv 1) aD))))) cY)
   (aI (fA (mS (sB (qS T) T.q_Reader (hr.mono (by omega)) ⟨rfl,rfl,rfl⟩ (pv 0) (aA dZ aD))) (aN (bG (bB (ZQ T) (hr.mono (by omega)) ⟨rfl,rfl,rfl⟩ (aA (pv 0) aD)))) cY)
   (aN (bG (bB (NU T) (hr.mono (by omega)) ⟨rfl,rfl,rfl⟩ (aA (bB (RZ T) (hr.mono (by omega)) ⟨rfl,rfl,rfl⟩ (aA (pv 0) aD)) aD))))))),?_⟩
  have hlv':lv+d=6:=by omega
  obtain⟨dx,fl,h1,h2⟩:=hp.at
  have e0:dI (d+1) r=if r.head?=some 123 then vF d r.tail else if r.head?=some 91 then LR d r.tail else if r.head?=some 34 then VM.DX r.tail else (KD r).map fun x=>(Vatwva.vNum x.1,x.2):=by
   rw[dI];rfl
  rw[e0]at k
  refine⟨_,rfl,_,_,rfl,rfl,_,rfl,mP (decide_eq_false (by show ¬(6:Int) < lv;omega)) ?_⟩
  refine⟨_,rfl,p,dx,fl,rfl,h1,h2 _ (by decide) (by decide),p,m,r,123,rfl,hp,fun hh H1 b1 r1=>⟨_,rfl,sY ?_⟩,fun hh=>⟨_,rfl,xK ?_⟩⟩
  ·rw[if_pos hh]at k
   exact⟨_,rfl,_,rfl,p,m,r.tail,lv,rfl,hlv',r1,k.on b1⟩
  rw[if_neg hh]at k
  refine⟨_,rfl,p,dx,fl,rfl,h1,h2 _ (by decide) (by decide),p,m,r,91,rfl,hp,fun hh H1 b1 r1=>⟨_,rfl,sY ?_⟩,fun hh=>⟨_,rfl,xK ?_⟩⟩
  ·rw[if_pos hh]at k
   exact⟨_,rfl,_,rfl,p,m,r.tail,lv,rfl,hlv',r1,k.on b1⟩
  rw[if_neg hh]at k
  refine⟨_,rfl,p,dx,fl,rfl,h1,h2 _ (by decide) (by decide),p,m,r,34,rfl,hp,fun hh H1 b1 r1=>⟨_,rfl,sY ?_⟩,fun hh=>⟨_,rfl,xK ?_⟩⟩
  ·rw[if_pos hh]at k
   exact⟨_,rfl,p,m,r.tail,rfl,r1,k.on b1⟩
  rw[if_neg hh]at k
  refine⟨_,rfl,p,m,r,rfl,hp,?_⟩
  cases q:KD r with
  | none=>exact k.no (by rw[q];rfl)
  | some x=>
   intro H1 y b1 r1 hy
   have hy:y=.int x.1:=hy
   subst hy
   refine⟨x.1,rfl,fun H2 z s2 hz=>?_⟩
   exact k.yes (x:=Vatwva.vNum x.1) (r:=x.2) (by rw[q];rfl) H2 z (b1.trans (aZ.but s2)) (r1.same s2) hz
def VC (a:mI) (K:aB):Sp:=fun vs H Q E=>∃p m r,vs=[.ref p]∧RR a H p m r∧oA a p m H (qZ r) (oB K) Q E
theorem TB (g:VM.eB W v):(Vatwva.deep v≤6∧Vatwva.count v≤60∧qK v≤12)↔Vatwva.isValue v=true:=by rw[VM.dR,←EU g];exact⟨fun z=>⟨z.2.2,z.2.1,z.1⟩,fun z=>⟨z.2.2,z.2.1,z.1⟩⟩
theorem GF (T:iJ K mg a):gV P w K mg base 19 "read_value" ["reader"] (VC a K):=by
 refine kI T.f_read_value ["reader","value"] fun vs H Q E h=>?_;obtain⟨p,m,r,rfl,hp,k⟩:=h;refine⟨rfl,fun nd _ _ _ _ _ hr=>?_⟩;refine⟨_,aI (cM (i:=1) nd rfl (bP rfl) (bB (JX T 6) hr ⟨rfl,rfl,rfl⟩ (aA (pv 0) (aA cA aD)))) (aI (fA (wY (mS (bB (DQ T 6) hr.m ⟨rfl,rfl,rfl⟩ (aA (pv 1) aD)))) (aN (iV ⟨rfl,rfl,rfl⟩ rfl rfl T.x_Unreadable.1 T.x_Unreadable.2)) cY) (aN (bG (pv 1)))),?_⟩;refine⟨_,rfl,p,m,r,1,rfl,rfl,hp,?_⟩;unfold qZ at k;cases q:dI 6 r with
 | none=>exact k.no (by rw[q];rfl)
 | some x=>
  intro H1 y b1 r1 hy;have hy:oB K H1 y x.1:=hy;obtain⟨g,hd,et⟩:=VM.tH 6 r.length r x (aR _) q;have hc:Vatwva.count x.1≤10000:=by have h1:Vatwva.count x.1≤(Vatwva.valueText x.1).length:=wQ x.1 false;have h2:=hp.len;rw[et,aC]at h2;omega
  refine⟨_,rfl,y,x.1,rfl,hy,hd,hc,fun H2 s2=>⟨_,rfl,?_⟩⟩;by_cases hv:Vatwva.isValue x.1=true
  ·rw[decide_eq_true ((TB g).mpr hv)];refine xK ⟨_,rfl,?_⟩;exact k.yes (x:=x.1) (r:=x.2) (by rw[q];exact if_pos hv) H2 y (b1.trans (aZ.but s2)) (r1.same s2) (hy.tups s2.tups)
  ·rw[decide_eq_false fun z=>hv ((TB g).mp z)];exact sY (k.no (by rw[q];exact if_neg hv) H2 (b1.trans (aZ.but s2)))
def SN (a:mI):Sp:=fun vs H Q _=>∃x l dx,vs=[.ref x,.ref l]∧H x=some (.ins a.cReader dx [])∧Q .non (upd (upd H x (.ins a.cReader dx [("text",.ref l)])) x (.ins a.cReader dx [("text",.ref l),("place",.int 0)]))
theorem WW (T:iJ K mg a):Vr P w K mg base 1 a.cReader ["self","text"] (SN a):=by refine B7 T.mk_Reader ["self","text"] fun vs H Q E h=>?_;obtain⟨x,l,dx,rfl,hx,k⟩:=h;refine⟨rfl,fun nd _ _ _ _ _ hr=>?_⟩;refine⟨_,aI (nT (pv 0) (pv 1) rfl) (aN (nT (pv 0) cA rfl)),?_⟩;exact⟨_,rfl,_,rfl,x,_,dx,_,rfl,hx,T.q_Reader,T.na_Reader_text,(by show 0 < 1000;decide),_,rfl,x,_,dx,_,rfl,aG,T.q_Reader,T.na_Reader_place,(by show 1 < 1000;decide),k⟩
def Vy (a:mI) (K:aB) (H:Hp) (o:Option fT) (Q:VK) (E:XK):Prop:=match o with
 | some v=>sR K H v Q
 | none=>∀H',aZ H H'→E (.ref a.xUnreadable) none H'
def VG (a:mI) (K:aB):Sp:=fun vs H Q E=>∃l t,vs=[.ref l]∧H l=some (.lst (cU t))∧t.length≤6000∧Vy a K H (Vatwva.valueOf t) Q E
theorem sH.same (s:aZ H H1) (b:sH p H1 H2) (h:H p=none):aZ H H2:=fun c o e=>b c o (dL e h) (s c o e)
theorem RC (hl:H l=some (.lst (cU t))) (hn:t.length≤6000) (hx:H x=none) (hdx:H dx=none) (ne:dx≠x):
  aZ H (upd (upd (upd (upd H dx (.own x)) x (.ins a.cReader dx [])) x (.ins a.cReader dx [("text",.ref l)])) x (.ins a.cReader dx [("text",.ref l),("place",.int 0)]))∧
   RR a (upd (upd (upd (upd H dx (.own x)) x (.ins a.cReader dx [])) x (.ins a.cReader dx [("text",.ref l)])) x (.ins a.cReader dx [("text",.ref l),("place",.int 0)])) x (l,t) t:=by
 have s:aZ H (upd (upd (upd (upd H dx (.own x)) x (.ins a.cReader dx [])) x (.ins a.cReader dx [("text",.ref l)])) x (.ins a.cReader dx [("text",.ref l),("place",.int 0)])):=dB (dB (dB (aZ.upd hdx) hx) hx) hx;exact⟨s,dx,0,aG,s _ _ hl,hn,rfl⟩
theorem GH (T:iJ K mg a):gV P w K mg base 20 "value_from" ["text"] (VG a K):=by
 refine kI T.f_value_from ["text","reader","value"] fun vs H Q E h=>?_;obtain⟨l,t,rfl,hl,hn,k⟩:=h;refine⟨rfl,fun nd _ _ _ _ _ hr=>?_⟩;refine⟨_,aI (cM (i:=1) nd rfl (bP rfl) (nR (WW T) T.k_Reader hr.m ⟨rfl,rfl,rfl⟩ (aA (pv 0) aD))) (aI (cM (i:=2) nd rfl (bP rfl) (bB (GF T) hr ⟨rfl,rfl,rfl⟩ (aA (pv 1) aD))) (aI (fA (wY (mS (mD (Ds T) T.q_Reader hr.m ⟨rfl,rfl,rfl⟩ (pv 1)))) (aN (iV ⟨rfl,rfl,rfl⟩ rfl rfl T.x_Unreadable.1 T.x_Unreadable.2)) cY) (aN (bG (pv 2))))),?_⟩;refine⟨_,rfl,fun x dx hx hdx ne=>⟨x,l,dx,rfl,aG,rfl,?_⟩⟩;obtain⟨s1,r1⟩:=RC (a:=a) hl hn hx hdx ne;refine⟨_,rfl,x,(l,t),t,rfl,r1,?_⟩;cases q:qZ t with
 | none=>
  intro H2 b2;have:Vatwva.valueOf t=none:=by
   cases q2:Vatwva.valueOf t with
   | none=>rfl
   | some v=>rw[VM.DY.mpr q2]at q;cases q
  rw[this]at k;exact k H2 (sH.same s1 b2 hx)
 | some y=>
  intro H2 z b2 r2 hz;obtain⟨dx2,fl2,f1,f2⟩:=r2.at;refine⟨_,rfl,x,dx2,fl2,rfl,f1,f2 _ (by decide) (by decide),x,(l,t),y.2,rfl,r2,_,rfl,?_⟩;cases hy:y.2 with
  | nil=>refine xK ⟨_,rfl,?_⟩;have:Vatwva.valueOf t=some y.1:=VM.DY.mp (by rw[q,←hy]);rw[this]at k;exact k H2 z (sH.same s1 b2 hx) hz
  | cons b rr=>
   refine sY ?_;have:Vatwva.valueOf t=none:=by
    cases q2:Vatwva.valueOf t with
    | none=>rfl
    | some v=>rw[VM.DY.mpr q2]at q;cases q;cases hy
   rw[this]at k;exact k H2 (sH.same s1 b2 hx)
theorem big (h:n≤16000000):n≤aU:=bI h (by decide)
theorem KW (h:n≤16000000):n < aU:=gP h (by decide)
theorem bV (t:bW):(cU t).length=t.length:=aJ _
def dW (H:Hp) (t:bW) (Q:VK):Prop:=∀D H',aZ H H'→H D=none→H' D=some (.lst (cU t))→Q (.ref D) H'
theorem dW.on (h:dW H t Q) (s:aZ H H1):dW H1 t Q:=fun D H' s' hD h'=>h D H' (s.trans s') (by
 cases q:H D with
 | none=>rfl
 | some o=>rw[s _ _ q]at hD;cases hD) h'
def Ex:Sp:=fun vs H Q _=>∃t:bW,vs=[.str (bT t)]∧t.length≤1000000∧dW H t Q
theorem fK (T:iJ K mg a):gV P w K mg base 1 "bytes_of" ["signs"] Ex:=by
 refine kI T.f_bytes_of ["signs","sign"] fun vs H Q E h=>?_;obtain⟨t,rfl,hl,k⟩:=h;refine⟨rfl,fun nd _ _ _ _ _ hr=>?_⟩;refine⟨_,aN (bG (XC rfl nd (Ry (pv 0)) (uU (own:=[("sign",1)]) (by rfl)) (fun _ _ _ _ _=>eY (i:=1) nd rfl (bP rfl)) (fun _ _ _ _ _=>xZ) (fun _ _ _ _ _=>cX mK rfl T.n_ord rA (aA (pv 1) aD)))),?_⟩;refine⟨_,rfl,_,rfl,fun D hD=>?_⟩;refine Ws (z:=bT t) (fun j H'=>aZ H H'∧H' D=some (.lst (cU (t.take j)))) ⟨aZ.upd hD,aG⟩ (fun j c H' hc h=>?_) (fun H' h=>?_)
 ·rw[XN]at hc;obtain⟨b,hb,rfl⟩:=aO.mp hc;refine⟨rfl,sY (B:=aZ H H'∧H' D=some (.lst (cU (t.take (j+1))))) ⟨_,rfl,_,rfl,rfl,_,h.2,?_,?_,?_⟩⟩
  ·rw[bV,bJ];exact KW (by omega)
  ·intro c o e;rw[bK (dL e hD)];exact h.1 c o e
  ·rw[aG,iY hb,eN];rfl
 ·rw[HX,cN]at h;exact k D H' h.1 hD h.2
def mF (b:bW):List bW→bW
 | []=>[]
 | [t]=>t
 | t::r=>t++(b++mF b r)
theorem QS (b:bW):∀(ts:List bW) (t:bW),mF b (ts++[t])=mF b ts++((if ts.length=0 then []else b)++t)
 | [],t=>rfl
 | [u],t=>by show u++(b++t)=u++(b++t);rfl
 | u::v::r,t=>by have ih:=QS b (v::r) t;show u++(b++mF b ((v::r)++[t]))=(u++(b++mF b (v::r)))++_;rw[ih];simp
def YL (H:Hp):List V→List bW→Prop:=gY fun r t=>∃q,r=.ref q∧H q=some (.lst (cU t))
theorem YL.same (s:aZ H H') (h:YL H rs ts):YL H' rs ts:=Paired.mapP h fun _ _ ⟨q,e,hq⟩=>⟨q,e,s _ _ hq⟩
def kE (b:bW) (ts:List bW):Nat:=(ts.map fun t=>t.length+b.length).sum
theorem pF (b:bW):∀(ts:List bW) (i:Nat),(mF b (ts.take i)).length≤kE b ts
 | [],i=>by rw[List.take_nil];exact aY _
 | t::ts,0=>aY _
 | t::ts,i+1=>by
  have ih:=pF b ts i;rw[List.take_succ_cons];have e:kE b (t::ts)=t.length+b.length+kE b ts:=by unfold kE;rw[aP,dU]
  rw[e];cases q:ts.take i with
  | nil=>show t.length≤_;omega
  | cons u r=>rw[q]at ih;show(t++(b++mF b (u::r))).length≤_;rw[aC,aC];omega
theorem Op (h:t∈ts):t.length+b.length≤kE b ts:=by
 induction ts with
 | nil=>cases h
 | cons u ts ih=>
  have e:kE b (u::ts)=u.length+b.length+kE b ts:=by unfold kE;rw[aP,dU]
  rw[e];rcases aT.mp h with rfl | h
  ·omega
  ·have:=ih h;omega
def Og:Sp:=fun vs H Q _=>∃(l:aQ) (rs:List V) (ts:List bW) (b:bW),vs=[.ref l,.str (bT b)]∧H l=some (.lst rs)∧YL H rs ts∧kE b ts≤1000000∧b.length≤1000000∧dW H (mF b ts) Q
theorem FA (T:iJ K mg a):gV P w K mg base 2 "joined" ["texts","between"] Og:=by
 refine kI T.f_joined ["texts","between","whole","place","text"] fun vs H Q E h=>?_;obtain⟨l,rs,ts,b,rfl,hl,ht,hn,hb,k⟩:=h;refine⟨rfl,fun nd _ _ _ _ _ hr=>?_⟩;refine⟨_,aI (cM (i:=2) nd rfl (bP rfl) (eJ aD)) (aI (pI (gH ⟨rfl,rfl,rfl⟩) rfl (Kz (by rfl) T.n_enumerate (aA (pv 0) aD)) (HS (n:=2) (by rfl) (lC (eY (i:=3) nd rfl (bP rfl)) (lC (eY (i:=4) nd rfl (bP rfl)) BF))) (aI (fA (dA CD (pv 3) cA (dJ _)) (aN (dN (nG bF kC lX zT (pv 2) (aA (bB (fK T) hr ⟨rfl,rfl,rfl⟩ (aA (pv 1) aD)) aD)))) cY) (aN (dN (nG bF kC lX zT (pv 2) (aA (pv 4) aD)))))) (aN (bG (pv 2)))),?_⟩;have hlen:=ht.length;refine⟨aY _,fun D hD=>?_⟩;have s1:aZ H (upd H D (.lst [])):=aZ.upd hD;refine⟨_,rfl,l,rs,rfl,gX.of (s1 _ _ hl),Cs (xs:=rs) (fun i σ H'=>aZ H H'∧H' D=some (.lst (cU (mF b (ts.take i))))∧∃s3 s4,σ=[some (.ref l),some (.str (bT b)),some (.ref D),s3,s4]) ⟨s1,aG,none,none,rfl⟩ (fun i σ H' _ h=>gX.of (h.1 _ _ hl)) ?_ ?_⟩
 ·rintro i x t' σ H' hx ht' ⟨sm,hD',s3,s4,rfl⟩;obtain⟨t,et,q,rfl,hq⟩:=Paired.at ht hx;have sT:aZ H' (upd H' t' (.tup [.int (i:Nat),.ref q])):=aZ.upd ht';have hmem:=bA et;have htot:=Op (b:=b) hmem;have htk:=pF b ts i;have htk1:=pF b ts (i+1);have esn:mF b (ts.take (i+1))=mF b (ts.take i)++((if i=0 then []else b)++t):=by
   rw[iY et,QS];have hi:=(aS.mp et).1;have:(ts.take i).length=i:=by rw[bJ];omega
   rw[this]
  have hqD:q≠D:=fun z=>by rw[z,hD]at hq;cases hq
  refine⟨t',_,rfl,.of' aG,rfl,_,_,rfl,_,_,rfl,rfl,?_⟩;refine⟨_,rfl,_,_,rfl,rfl,_,rfl,nB (fun c=>?_) (fun c=>?_)⟩
  ·have c:(0:Int) < ((i:Nat):Int):=of_decide_eq_true c;rw[if_neg (show ¬i=0 by omega)]at esn;have hD2:=sT _ _ hD';refine⟨_,rfl,.inl ⟨rfl,_,gX.of hD2⟩,_,rfl,b,rfl,hb,fun B H2 s2 hB0 hB=>?_⟩;have hD3:=s2 _ _ hD2;refine⟨D,B,_,_,rfl,rfl,hD3,hB,big (by rw[bV,bV];omega),?_⟩;have hq3:upd H2 D (.lst (cU (mF b (ts.take i))++cU b)) q=some (.lst (cU t)):=by rw[bK hqD];exact s2 _ _ (sT _ _ (sm _ _ hq))
   refine⟨_,rfl,.inl ⟨rfl,_,gX.of aG⟩,_,rfl,D,q,_,_,rfl,rfl,aG,hq3,big ?_,dB (dB (sm.trans (sT.trans s2)) hD) hD,?_,_,_,rfl⟩
   ·rw[aC,bV,bV,bV];omega
   ·rw[aG,esn,eN,eN,fH]
  ·have c:¬(0:Int) < ((i:Nat):Int):=fun z=>c (decide_eq_true z);rw[if_pos (show i=0 by omega)]at esn;have hD2:=sT _ _ hD';refine⟨_,rfl,.inl ⟨rfl,_,gX.of hD2⟩,_,rfl,D,q,_,_,rfl,rfl,hD2,sT _ _ (sm _ _ hq),big ?_,dB (sm.trans sT) hD,?_,_,_,rfl⟩
   ·rw[bV,bV];omega
   ·rw[aG,esn,iI,eN]
 ·rintro σ H' ⟨sm,hD',s3,s4,rfl⟩;rw[hlen,cN]at hD';exact⟨_,rfl,k D H' sm hD hD'⟩
theorem Fi (z:Int):jY (iM z)=bT (Vatwva.integer z):=by
 cases z with
 | ofNat n=>
  have e:Vatwva.integer (Int.ofNat n)=Vatwva.decimal n:=by unfold Vatwva.integer;rw[if_neg (by show ¬(n:Int) < 0;omega)];rfl
  rw[e];exact yE n
 | negSucc m=>
  have e:Vatwva.integer (Lp m)=45::Vatwva.decimal (m+1):=by unfold Vatwva.integer;rw[if_pos (Int.negSucc_lt_zero m)];rfl
  rw[e];apply Bf;rw[uI,PySem.Str.ofString_eq_toList];show((iM (Lp m)).toList.map VO)=_;have e1:iM (Lp m)="-"++Nat.repr (m+1):=rfl;rw[e1,String.toList_append,aW,Nat.toList_repr];show 45::TL.Ie (m+1)=_;rw[JQ];rfl
theorem Tv {z:Int} (h:z.natAbs≤1000000000):z.natAbs.log2 < 1920:=EY h
theorem HL (t:bW):(t.flatMap VM.marked).length≤2 * t.length:=by
 induction t with
 | nil=>exact aR _
 | cons b t ih=>
  rw[dX,aC,aK];have:(VM.marked b).length≤2:=by unfold VM.marked;split<;>simp
  omega
theorem WK {t:bW} {b:UInt8} {i:Nat} (h:t[i]?=some b):(t.take (i+1)).flatMap VM.marked=(t.take i).flatMap VM.marked++VM.marked b:=by rw[iY h,Lq];simp
theorem Df:("\"":Str)=bT [34]:=by decide
theorem Nf:("\\":Str)=bT [92]:=by decide
def Ey (K:aB):Sp:=fun vs H Q _=>∃(c:aQ) (t:bW),vs=[.ref c]∧fE K H c (cU t)∧t.length≤1000∧dW H (Vatwva.quoted t) Q
theorem Dt (T:iJ K mg a):gV P w K mg base 2 "in_marks" ["signs"] (Ey K):=by
 refine kI T.f_in_marks ["signs","marked","byte"] fun vs H Q E h=>?_;obtain⟨c,t,rfl,hc,hn,k⟩:=h;refine⟨rfl,fun nd _ _ _ _ _ hr=>?_⟩;refine⟨_,aI (cM (i:=1) nd rfl (bP rfl) (bB (fK T) hr ⟨rfl,rfl,rfl⟩ (aA dZ aD))) (aI (pI (gH ⟨rfl,rfl,rfl⟩) rfl (BG (pv 0)) (eY (i:=2) nd rfl (bP rfl)) (aI (fA (PW.pt (XF (dA qF (pv 2) (cX mK rfl T.n_ord rA (aA dZ aD)) (dJ _)) (SI (dA qF (pv 2) (cX mK rfl T.n_ord rA (aA dZ aD)) (dJ _))))) (aN (dN (nG bF kC lX zT (pv 1) (aA (bB (fK T) hr ⟨rfl,rfl,rfl⟩ (aA dZ aD)) aD)))) cY) (aN (dN (nG bF bR bS gF (pv 1) (aA (pv 2) aD)))))) (aN (bG (jZ uE (pv 1) (bB (fK T) hr ⟨rfl,rfl,rfl⟩ (aA dZ aD)))))),?_⟩;refine⟨[34],by rw[Df];rfl,by decide,fun D H1 s1 hD h1=>?_⟩;refine⟨_,rfl,c,rfl,⟨_,s1.sqT hc⟩,OD (xs:=cU t) (fun i σ H'=>aZ H H'∧H' D=some (.lst (cU (34::(t.take i).flatMap VM.marked)))∧∃st,σ=[some (.ref c),some (.ref D),st]) ⟨s1,h1,none,rfl⟩ (fun i σ H' _ h=>h.1.sqT hc) ?_ ?_⟩
 ·rintro i x σ H' hx ⟨sm,hD',st,rfl⟩;unfold cU at hx;rw[bX]at hx;obtain⟨b,eb,rfl⟩:=aO.mp hx;have hlen:(cU (34::(t.take i).flatMap VM.marked)).length≤3000:=by rw[bV,aK];have:=HL (t.take i);rw[bJ]at this;omega
  have o34:(((("\"":Str).cps.getD 0 0:Nat)):Int)=((34:UInt8).toNat:Nat):=by rw[Ec]
  have o92:(((("\\":Str).cps.getD 0 0:Nat)):Int)=((92:UInt8).toNat:Nat):=by rw[XA]
  have yes:∀{c:UInt8} {i:Int},i=(c.toNat:Nat)→decide (V.int (b.toNat:Nat)=.int i)=true→b=c:=fun {c i} hi h=>by have h:=V.int.inj (of_decide_eq_true h);rw[hi]at h;exact lU.mp (by omega)
  have no:∀{c:UInt8} {i:Int},i=(c.toNat:Nat)→¬decide (V.int (b.toNat:Nat)=.int i)=true→b≠c:=fun {c i} hi h z=>h (decide_eq_true (by rw[hi,z]));have mark:b=34∨b=92→cU (34::(t.take (i+1)).flatMap VM.marked)=(cU (34::(t.take i).flatMap VM.marked)++cU [92])++[.int (b.toNat:Nat)]:=fun hb=>by rw[WK eb];unfold VM.marked;rw[if_pos hb,←iR,eN];simp[cU]
  refine⟨_,rfl,_,rfl,rfl,rfl,_,rfl,nB (fun c1=>sY ?y1) (fun c1=>⟨_,rfl,_,rfl,rfl,rfl,_,rfl,nB (fun c2=>?y2) (fun c2=>?n)⟩)⟩
  case n=>refine⟨_,rfl,.inl ⟨rfl,_,gX.of hD'⟩,_,rfl,D,_,_,rfl,rfl,hD',KW (by omega),dB sm hD,?_,_,rfl⟩;rw[aG,WK eb];unfold VM.marked;rw[if_neg (by rw[not_or];exact⟨no o34 c1,no o92 c2⟩),←iR,eN];rfl
  case' y1=>have hb:b=34∨b=92:=.inl (yes o34 c1)
  case' y2=>have hb:b=34∨b=92:=.inr (yes o92 c2)
  all_goals refine⟨_,rfl,.inl ⟨rfl,_,gX.of hD'⟩,[92],by rw[Nf];rfl,by decide,fun B H2 s2 hB0 hB=>?_⟩;have hD2:=s2 _ _ hD';refine⟨D,B,_,_,rfl,rfl,hD2,hB,big (by have:(cU [92]).length=1:=rfl;omega),?_⟩;refine⟨_,rfl,.inl ⟨rfl,_,gX.of aG⟩,_,rfl,D,_,_,rfl,rfl,aG,KW (by rw[aC];have:(cU [92]).length=1:=rfl;omega),dB (dB (sm.trans s2) hD) hD,?_,_,rfl⟩;rw[aG,mark hb]
 ·rintro σ H' ⟨sm,hD',st,rfl⟩;rw[bV,cN]at hD';refine⟨_,rfl,[34],by rw[Df];rfl,by decide,fun B H2 s2 hB0 hB=>?_⟩;have hm:=HL t;refine⟨D,B,_,_,rfl,rfl,s2 _ _ hD',hB,big ?_,fun p hp=>?_⟩
  ·rw[bV,bV,aK];show _+1+1≤_;omega
  ·have sf:=sm.trans s2;have hp0:H p=none:=by
    cases q:H p with
    | none=>rfl
    | some o=>rw[sf _ _ q]at hp;cases hp
   refine k p _ (sf.trans (aZ.upd hp)) hp0 ?_;rw[aG,←eN,VM.pW];rfl
theorem rK (h:Vatwva.isName n=true):n.length≤10:=by unfold Vatwva.isName at h;simp only[aE,decide_eq_true_iff]at h;exact h.2.1
theorem MI (h:z.natAbs≤1000000000):(Vatwva.integer z).length≤11:=by
 have hd:=VM.mM 9 z.natAbs (gP h (by decide));unfold Vatwva.integer;split
 ·rw[aK];omega
 ·have:z.toNat=z.natAbs:=by omega
  rw[this];omega
theorem EA:∀(r:NN) (named:Bool),VM.ok W named r=true→(Vatwva.rowText named r).length≤100 * Vatwva.count r
 | .nil,_,_=>aY _
 | .text n t r,named,h=>by
  unfold VM.ok at h;rw[aE,aE]at h;have ih:=EA r named h.2.2;have hn:(Vatwva.nameText named n).length≤12:=by
   unfold Vatwva.nameText;cases named with
   | false=>exact aY _
   | true=>have:=rK (n:=n) (by simpa using h.1);show(n++[58,32]).length≤12;rw[aC];show n.length+2≤12;omega
  have ht:(Vatwva.quoted t).length≤62:=by have h2:=h.2.1;unfold Vatwva.isText at h2;rw[aE,decide_eq_true_iff]at h2;have h3:t.length≤30:=h2.1;have:=HL t;rw[VM.pW,aK,aC];show _+1+1≤62;omega
  show(Vatwva.nameText named n++(Vatwva.quoted t++(if r=.nil then []else 44::32::Vatwva.rowText named r))).length≤100 * (1+Vatwva.count r);rw[aC,aC];split
  ·show _+(_+0)≤_;omega
  ·rw[aK,aK];omega
 | .num n z r,named,h=>by
  unfold VM.ok at h;rw[aE,aE,decide_eq_true_iff]at h;have ih:=EA r named h.2.2;have hn:(Vatwva.nameText named n).length≤12:=by
   unfold Vatwva.nameText;cases named with
   | false=>exact aY _
   | true=>have:=rK (n:=n) (by simpa using h.1);show(n++[58,32]).length≤12;rw[aC];show n.length+2≤12;omega
  have ht:=MI h.2.1;show(Vatwva.nameText named n++(Vatwva.integer z++(if r=.nil then []else 44::32::Vatwva.rowText named r))).length≤100 * (1+Vatwva.count r);rw[aC,aC];split
  ·show _+(_+0)≤_;omega
  ·rw[aK,aK];omega
 | .sub n l k r,named,h=>by
  unfold VM.ok at h;rw[aE,aE,aE,aE]at h;have ih:=EA r named h.2.2.2.2;have ik:=EA k (!l) h.2.2.2.1;have hn:(Vatwva.nameText named n).length≤12:=by
   unfold Vatwva.nameText;cases named with
   | false=>exact aY _
   | true=>have:=rK (n:=n) (by simpa using h.1);show(n++[58,32]).length≤12;rw[aC];show n.length+2≤12;omega
  show(Vatwva.nameText named n++((if l=true then 91 else 123)::(Vatwva.rowText (!l) k++((if l=true then 93 else 125)::(if r=.nil then []else 44::32::Vatwva.rowText named r))))).length≤100 * (1+Vatwva.count k+Vatwva.count r);rw[aC,aK,aC,aK];split
  ·show _+(_+(0+1)+1)≤_;omega
  ·rw[aK,aK];omega
theorem wH (g:VM.eB W v):(Vatwva.valueText v).length≤100 * Vatwva.count v:=EA v false g.2
theorem MG (named:Bool):∀l:List (Name×fT),VM.cI named l=mF [44,32] (l.map fun x=>Vatwva.nameText named x.1++Vatwva.valueText x.2)
 | []=>rfl
 | [x]=>by show Vatwva.nameText named x.1++(Vatwva.valueText x.2++[])=Vatwva.nameText named x.1++Vatwva.valueText x.2;rw[cK]
 | x::y::l=>by have ih:=MG named (y::l);show Vatwva.nameText named x.1++(Vatwva.valueText x.2++(44::32::VM.cI named (y::l)))=(Vatwva.nameText named x.1++Vatwva.valueText x.2)++([44,32]++mF [44,32] ((y::l).map _));rw[ih];simp
theorem QQ:∀l:List fT,VM.jA l=mF [44,32] (l.map Vatwva.valueText)
 | []=>rfl
 | [x]=>by show Vatwva.valueText x++[]=Vatwva.valueText x;rw[cK]
 | x::y::l=>by have ih:=QQ (y::l);show Vatwva.valueText x++(44::32::VM.jA (y::l))=Vatwva.valueText x++([44,32]++mF [44,32] ((y::l).map _));rw[ih];simp
def UJ (H:Hp) (D:aQ):List V→List bW→Prop:=gY fun r t=>∃q,r=.ref q∧q≠D∧H q=some (.lst (cU t))
theorem UJ.ts {H:Hp} {D:aQ} {rs:List V} {ts:List bW} (h:UJ H D rs ts):YL H rs ts:=Paired.mapP h fun _ _ ⟨q,e,_,hq⟩=>⟨q,e,hq⟩
theorem UJ.same {H H':Hp} {D:aQ} (s:aZ H H') {rs:List V} {ts:List bW} (h:UJ H D rs ts):UJ H' D rs ts:=Paired.mapP h fun _ _ ⟨q,e,n,hq⟩=>⟨q,e,n,s _ _ hq⟩
theorem UJ.upd {H:Hp} {D:aQ} {o:HO} {rs:List V} {ts:List bW} (h:UJ H D rs ts):UJ (upd H D o) D rs ts:=Paired.mapP h fun _ _ ⟨q,e,n,hq⟩=>⟨q,e,n,by rw[bK n];exact hq⟩
theorem wZ:∀{l:List α},(∀x∈l,(f x).length+b.length≤m * g x)→kE b (l.map f)≤m * (l.map g).sum
 | [],_=>aY _
 | x::l,h=>by
  have ih:=wZ (b:=b) (f:=f) (g:=g) (m:=m) (l:=l) fun y hy=>h y (aL _ hy);have hx:=h x aM;have e:kE b ((x::l).map f)=(f x).length+b.length+kE b (l.map f):=by unfold kE;rw[aP,aP,dU]
  rw[e,aP,dU,Nat.mul_add];omega
def GO (d:Nat) (K:aB):Sp:=fun vs H Q _=>∃(x:V) (v:fT),vs=[x]∧oB K H x v∧VM.eB 24 v∧Vatwva.deep v≤d∧Vatwva.count v≤200∧dW H (Vatwva.valueText v) Q
def UY (d:Nat) (K:aB):Sp:=fun vs H Q _=>∃(n:Name) (x:V) (v:fT),vs=[.str (bT n),x]∧Vatwva.isName n=true∧oB K H x v∧VM.eB 24 v∧Vatwva.deep v≤d∧Vatwva.count v≤200∧dW H (Vatwva.nameText true n++Vatwva.valueText v) Q
theorem dW.fresh (s:aZ H H') (h:H' p=none):H p=none:=by
 cases q:H p with
 | none=>rfl
 | some o=>rw[s _ _ q]at h;cases h
theorem UR (T:iJ K mg a) (hk:1≤k0) (R:gV P w K mg base k0 "value_text" ["value"] (GO d K)):gV P w K mg base (k0+1) "field_text" ["name","part"] (UY d K):=by refine kI T.f_field_text ["name","part"] fun vs H Q E h=>?_;obtain⟨n,x,v,rfl,hn,hx,g,hd,hc,k⟩:=h;refine⟨rfl,fun nd _ _ _ _ _ hr=>?_⟩;refine⟨_,aN (bG (jZ uE (jZ uE (bB (fK T) (hr.mono hk) ⟨rfl,rfl,rfl⟩ (aA (pv 0) aD)) (bB (fK T) (hr.mono hk) ⟨rfl,rfl,rfl⟩ (aA dZ aD))) (bB R hr ⟨rfl,rfl,rfl⟩ (aA (pv 1) aD)))),?_⟩;have hnl:=rK hn;have hvl:=wH g;refine⟨_,rfl,n,rfl,by omega,fun A1 H1 s1 hA1 h1=>⟨[58,32],by rw[Ks];rfl,by decide,fun A2 H2 s2 hA2 h2=>?_⟩⟩;refine⟨A1,A2,_,_,rfl,rfl,s2 _ _ h1,h2,big (by rw[bV,bV];show _+2≤_;omega),fun A3 hA3=>?_⟩;have s3:=(s1.trans s2).trans (aZ.upd (o:=.lst (cU n++cU [58,32])) hA3);refine⟨_,rfl,x,v,rfl,hx.tups s3.tups,g,hd,hc,fun A4 H4 s4 hA4 h4=>?_⟩;refine⟨A3,A4,_,_,rfl,rfl,s4 _ _ aG,h4,big (by rw[aC,bV,bV,bV];show _+2+_≤_;omega),fun A5 hA5=>?_⟩;refine k A5 _ ((s3.trans s4).trans (aZ.upd hA5)) (dW.fresh (s3.trans s4) hA5) ?_;rw[aG,←eN,←eN];rfl
theorem Re:("{":Str)=bT [123]:=by decide
theorem Rf:("}":Str)=bT [125]:=by decide
theorem Ud:("[":Str)=bT [91]:=by decide
theorem Ue:("]":Str)=bT [93]:=by decide
theorem uQ (T:iJ K mg a):∀d:Nat,gV P w K mg base (2 * d+3) "value_text" ["value"] (GO d K)
 | 0=>by refine kI T.f_value_text ["value","fields","name","part"] fun vs H Q E h=>?_;obtain⟨x,v,rfl,hx,g,hd,_⟩:=h;refine⟨rfl,fun nd _ _ _ _ _ hr=>?_⟩;exact absurd (VM.qO hx.1) (by omega)
 | d+1=>by
  have R:=uQ T d;refine kI T.f_value_text ["value","fields","name","part"] fun vs H Q E h=>?_;obtain⟨x,v,rfl,hx,g,hd,hc,k⟩:=h;refine⟨rfl,fun nd f cdv A outer s hr=>?_⟩;obtain⟨u1,hm1,ru1⟩:=T.c_NUMBER;obtain⟨u2,hm2,ru2⟩:=T.c_RECORD;obtain⟨u3,hm3,ru3⟩:=T.c_LIST;have hr:jE (2 * d+4) (A.deeper (tQ "value_text" (gW (top 79)) s.heap.objs.size f cdv)):=hr;refine⟨_,aI (fA (dA qF (bB (mC T) (hr.mono (by omega)) ⟨rfl,rfl,rfl⟩ (aA (pv 0) aD)) (dM rfl hm1 ru1) (dJ _)) (aN (bG (bB (fK T) (hr.mono (by omega)) ⟨rfl,rfl,rfl⟩ (aA (lK sW rfl T.n_str TV (aA (bB (rY T) (hr.mono (by omega)) ⟨rfl,rfl,rfl⟩ (aA (pv 0) aD)) aD)) aD)))) cY) (aI (fA (dA qF (bB (mC T) (hr.mono (by omega)) ⟨rfl,rfl,rfl⟩ (aA (pv 0) aD)) (dM rfl hm2 ru2) (dJ _)) (aI (Em (i:=1) rfl nd rfl rfl (Li rfl rfl rfl (by rfl)) (Ac rfl T.n_zip (aA (bB (rY T) (hr.mono (by omega)) ⟨rfl,rfl,rfl⟩ (aA (pv 0) aD)) (aA (bB (eR T) (hr.mono (by omega)) ⟨rfl,rfl,rfl⟩ (aA (pv 0) aD)) aD))) (uU (own:=[("name",2),("part",3)]) (by rfl)) (g:=Yu K 2 (Qu (QJ 2) (Qu (QJ 3) Yt))) (fun _ _ _ _ _=>HS (n:=2) (by rfl) (lC (eY (i:=2) nd rfl (bP rfl)) (lC (eY (i:=3) nd rfl (bP rfl)) BF))) (fun _ _ _ _ _=>xZ) (fun _ _ _ _ _=>LP (UR T (by omega) R) hr (aA (pv 2) (aA (pv 3) aD)))) (aN (bG (jZ uE (jZ uE (bB (fK T) (hr.mono (by omega)) ⟨rfl,rfl,rfl⟩ (aA dZ aD)) (bB (FA T) (hr.mono (by omega)) ⟨rfl,rfl,rfl⟩ (aA (pv 1) (aA dZ aD)))) (bB (fK T) (hr.mono (by omega)) ⟨rfl,rfl,rfl⟩ (aA dZ aD)))))) cY) (aI (fA (dA qF (bB (mC T) (hr.mono (by omega)) ⟨rfl,rfl,rfl⟩ (aA (pv 0) aD)) (dM rfl hm3 ru3) (dJ _)) (aN (bG (jZ uE (jZ uE (bB (fK T) (hr.mono (by omega)) ⟨rfl,rfl,rfl⟩ (aA dZ aD)) (bB (FA T) (hr.mono (by omega)) ⟨rfl,rfl,rfl⟩ (aA (XC rfl nd (BG (bB (eR T) (hr.mono (by omega)) ⟨rfl,rfl,rfl⟩ (aA (pv 0) aD))) (uU (own:=[("part",3)]) (by rfl)) (fun _ _ _ _ _=>eY (i:=3) nd rfl (bP rfl)) (fun _ _ _ _ _=>xZ) (fun _ _ _ _ _=>LP R (hr.mono (by omega)) (aA (pv 3) aD))) (aA dZ aD)))) (bB (fK T) (hr.mono (by omega)) ⟨rfl,rfl,rfl⟩ (aA dZ aD))))) cY) (aN (bG (bB (Dt T) (hr.mono (by omega)) ⟨rfl,rfl,rfl⟩ (aA (bB (rY T) (hr.mono (by omega)) ⟨rfl,rfl,rfl⟩ (aA (pv 0) aD)) aD)))))),?_⟩;rcases g.cases with⟨t,ht,rfl⟩ | ⟨z,hz,rfl⟩ | ⟨l,rfl,gl⟩ | ⟨l,rfl,gl⟩
  ·obtain⟨p,b,c,rfl,h1,h2,h3⟩:=TH.mp hx;refine⟨_,rfl,p,_,_,rfl,h1,rfl,rfl,_,rfl,mP (decide_eq_false (by decide)) ?_⟩;refine⟨_,rfl,p,_,_,rfl,h1,rfl,rfl,_,rfl,mP (decide_eq_false (by decide)) ?_⟩;refine⟨_,rfl,p,_,_,rfl,h1,rfl,rfl,_,rfl,mP (decide_eq_false (by decide)) ?_⟩;refine⟨_,rfl,p,_,_,rfl,h1,rfl,b,t,rfl,h2,?_,?_⟩
   ·unfold Vatwva.isText at ht;rw[aE,decide_eq_true_iff]at ht;have:t.length≤30:=ht.1;omega
   ·rw[VM.mU]at k;exact k
  ·obtain⟨p,c,rfl,h1,h2⟩:=Bh.mp hx;refine⟨_,rfl,p,_,_,rfl,h1,rfl,rfl,_,rfl,pE (decide_eq_true rfl) ?_⟩;refine⟨_,rfl,p,_,_,rfl,h1,rfl,z,rfl,Tv hz,Vatwva.integer z,by rw[Fi];rfl,?_,?_⟩
   ·have:=MI hz;omega
   ·rw[VM.oQ]at k;exact k
  ·have ho:∀z∈l,VM.mJ z.2:=fun z hz=>(gl.2.2 z hz).2.1;obtain⟨p,b,c,zs,rfl,h1,h2,h3,h4⟩:=(OO ho).mp hx;have hzl:(dQ l).length=zs.length:=by rw[gT,h4.length,aJ]
   have hcount:=VM.mL ho;have hdeep:=VM.lY ho;refine⟨_,rfl,p,_,_,rfl,h1,rfl,rfl,_,rfl,mP (decide_eq_false (by decide)) ?_⟩;refine⟨_,rfl,p,_,_,rfl,h1,rfl,rfl,_,rfl,pE (decide_eq_true rfl) ?_⟩;refine⟨_,rfl,p,_,_,rfl,h1,rfl,_,rfl,p,_,_,rfl,h1,rfl,b,c,_,_,rfl,h2,h3,fun D hD=>?_⟩;refine Uc (xs:=dQ l) (ys:=zs) hzl (fun j H'=>aZ H H'∧∃rs,H' D=some (.lst rs)∧UJ H' D rs ((l.take j).map fun x=>Vatwva.nameText true x.1++Vatwva.valueText x.2)) ⟨aZ.upd hD,[],aG,.nil⟩ (fun j H' _ h=>⟨h.1.sqT h2,h.1.sqT h3⟩) (fun j n y t' H' hn hy ht' h=>?_) (fun H' h=>?_)
   ·obtain⟨sm,rs,hD',hts⟩:=h;unfold dQ at hn;rw[bX]at hn;obtain⟨kid,ek,rfl⟩:=aO.mp hn;have mk:=bA ek;obtain⟨v1,ev,hv⟩:=h4.get hy;rw[bX,ek]at ev;cases ev;have sT:aZ H' (upd H' t' (.tup [.str (bT kid.1),y])):=aZ.upd ht';have hcm:=VM.HM mk;have hdm:Vatwva.deep kid.2≤d:=by rw[hdeep]at hd;exact VM.pT.mp (tP hd) _ (aX.mpr ⟨kid,mk,rfl⟩)
    refine⟨t',_,rfl,.of' aG,rfl,_,_,rfl,_,_,rfl,rfl,rfl,sY (B:=aZ H (upd H' t' (.tup [.str (bT kid.1),y]))∧∃rs,upd H' t' (.tup [.str (bT kid.1),y]) D=some (.lst rs)∧UJ (upd H' t' (.tup [.str (bT kid.1),y])) D rs ((l.take (j+1)).map fun x=>Vatwva.nameText true x.1++Vatwva.valueText x.2)) ?_⟩;refine⟨_,rfl,_,rfl,kid.1,y,kid.2,rfl,(gl.2.2 kid mk).1,hv.tups (sm.trans sT).tups,(gl.2.2 kid mk).2,hdm,by omega,fun B H4 s4 hB0 hB=>?_⟩;have hD4:=s4 _ _ (sT _ _ hD');have hBD:B≠D:=fun z=>by rw[z,sT _ _ hD']at hB0;cases hB0
    have hrl:=hts.length;refine⟨rs,hD4,KW ?_,dB (sm.trans (sT.trans s4)) hD,rs++[.ref B],aG,?_⟩
    ·rw[hrl,aJ,bJ];have:=gl.1;omega
    ·rw[iY ek,aW];exact Paired.snoc (UJ.upd (hts.same (sT.trans s4))) ⟨B,rfl,hBD,by rw[bK hBD];exact hB⟩
   ·obtain⟨sm,rs,hD',hts⟩:=h;rw[gT,cN]at hts;have htot:kE [44,32] (l.map fun x=>Vatwva.nameText true x.1++Vatwva.valueText x.2)≤120 * (l.map fun x=>Vatwva.count x.2).sum:=wZ fun x hx'=>by have h1:=rK (gl.2.2 x hx').1;have h2:=wH (gl.2.2 x hx').2;have h3:=VM.EM (ho x hx');show((x.1++[58,32])++Vatwva.valueText x.2).length+2≤_;rw[aC,aC];show x.1.length+2+_+2≤_;omega
    have hjl:=pF [44,32] (l.map fun x=>Vatwva.nameText true x.1++Vatwva.valueText x.2) l.length;rw[←aJ (as:=l) (f:=fun x=>Vatwva.nameText true x.1++Vatwva.valueText x.2),cN]at hjl;refine⟨[123],by rw[Re];rfl,by decide,fun A1 H1 s1 hA1 g1=>?_⟩;refine⟨_,rfl,D,rs,_,[44,32],by rw[OF];rfl,s1 _ _ hD',(hts.ts).same s1,by omega,by decide,fun A2 H2 s2 hA2 g2=>?_⟩;refine⟨A1,A2,_,_,rfl,rfl,s2 _ _ g1,g2,big (by rw[bV,bV];show 1+_≤_;omega),fun A3 hA3=>?_⟩;have s3:=((sm.trans s1).trans s2).trans (aZ.upd (o:=.lst (cU [123]++cU (mF [44,32] (l.map fun x=>Vatwva.nameText true x.1++Vatwva.valueText x.2)))) hA3);refine⟨[125],by rw[Rf];rfl,by decide,fun A4 H4 s4 hA4 g4=>?_⟩;refine⟨A3,A4,_,_,rfl,rfl,s4 _ _ aG,g4,big (by rw[aC,bV,bV,bV];show 1+_+1≤_;omega),fun A5 hA5=>?_⟩;refine k A5 _ ((s3.trans s4).trans (aZ.upd hA5)) (dW.fresh (s3.trans s4) hA5) ?_;rw[aG,←eN,←eN,VM.nV ho,MG];rfl
  ·have ho:∀z∈l,VM.mJ z:=fun z hz=>(gl.2 z hz).1;obtain⟨p,b,c,zs,rfl,h1,h2,h3,h4⟩:=(Fs ho).mp hx;have hcount:=VM.lL ho;have hdeep:=VM.lM ho;refine⟨_,rfl,p,_,_,rfl,h1,rfl,rfl,_,rfl,mP (decide_eq_false (by decide)) ?_⟩;refine⟨_,rfl,p,_,_,rfl,h1,rfl,rfl,_,rfl,mP (decide_eq_false (by decide)) ?_⟩;refine⟨_,rfl,p,_,_,rfl,h1,rfl,rfl,_,rfl,pE (decide_eq_true rfl) ?_⟩;refine⟨[91],by rw[Ud];rfl,by decide,fun A1 H1 s1 hA1 g1=>?_⟩;refine⟨_,rfl,p,_,_,rfl,s1.sqT h1,rfl,c,rfl,⟨_,s1.sqT h3⟩,fun D hD=>?_⟩;have hD0:=dW.fresh s1 hD;refine Hy (xs:=zs) (fun j H'=>aZ H1 H'∧∃rs,H' D=some (.lst rs)∧UJ H' D rs ((l.take j).map Vatwva.valueText)) ⟨aZ.upd hD,[],aG,.nil⟩ (fun j H' _ h=>(s1.trans h.1).sqT h3) (fun j y H' hy h=>?_) (fun H' h=>?_)
   ·obtain⟨sm,rs,hD',hts⟩:=h;obtain⟨v1,ev,hv⟩:=h4.get hy;have mv:=bA ev;have hcm:=VM.LK mv;have hdm:Vatwva.deep v1≤d:=by rw[hdeep]at hd;exact VM.pT.mp (tP hd) _ (aX.mpr ⟨v1,mv,rfl⟩)
    refine⟨rfl,sY (B:=aZ H1 H'∧∃rs,H' D=some (.lst rs)∧UJ H' D rs ((l.take (j+1)).map Vatwva.valueText)) ?_⟩;refine⟨_,rfl,y,v1,rfl,hv.tups (s1.trans sm).tups,gl.2 v1 mv,hdm,by omega,fun B H4 s4 hB0 hB=>?_⟩;have hD4:=s4 _ _ hD';have hBD:B≠D:=fun z=>by rw[z,hD']at hB0;cases hB0
    have hrl:=hts.length;refine⟨rs,hD4,KW ?_,dB (sm.trans s4) hD,rs++[.ref B],aG,?_⟩
    ·rw[hrl,aJ,bJ];have:=gl.1;omega
    ·rw[iY ev,aW];exact Paired.snoc (UJ.upd (hts.same s4)) ⟨B,rfl,hBD,by rw[bK hBD];exact hB⟩
   ·obtain⟨sm,rs,hD',hts⟩:=h;rw[h4.length,cN]at hts;have htot:kE [44,32] (l.map Vatwva.valueText)≤120 * (l.map Vatwva.count).sum:=wZ fun x hx'=>by have h2:=wH (gl.2 x hx');have h3:=VM.EM (ho x hx');show(Vatwva.valueText x).length+2≤_;omega
    have hjl:=pF [44,32] (l.map Vatwva.valueText) l.length;rw[←aJ (as:=l) (f:=Vatwva.valueText),cN]at hjl;have sA:=s1.trans sm;refine⟨D,rs,_,[44,32],by rw[OF];rfl,hD',hts.ts,by omega,by decide,fun A2 H2 s2 hA2 g2=>?_⟩;refine⟨A1,A2,_,_,rfl,rfl,s2 _ _ (sm _ _ g1),g2,big (by rw[bV,bV];show 1+_≤_;omega),fun A3 hA3=>?_⟩;have s3:=(sA.trans s2).trans (aZ.upd (o:=.lst (cU [91]++cU (mF [44,32] (l.map Vatwva.valueText)))) hA3);refine⟨[93],by rw[Ue];rfl,by decide,fun A4 H4 s4 hA4 g4=>?_⟩;refine⟨A3,A4,_,_,rfl,rfl,s4 _ _ aG,g4,big (by rw[aC,bV,bV,bV];show 1+_+1≤_;omega),fun A5 hA5=>?_⟩;refine k A5 _ ((s3.trans s4).trans (aZ.upd hA5)) (dW.fresh (s3.trans s4) hA5) ?_;rw[aG,←eN,←eN,VM.pY ho,QQ];rfl
def Iu (a:mI):Sp:=fun vs H Q E=>∃t:bW,vs=[.str (bT t)]∧t.all cG=true∧t.length≤6000∧(∀s,Vatwva.stepOf t=some s→Q (SY s) H)∧(Vatwva.stepOf t=none→E (.ref a.xUnreadable) none H)
theorem RS (T:iJ K mg a):gV P w K mg base 2 "as_step" ["word"] (Iu a):=by
 refine kI T.f_as_step ["word"] fun vs H Q E h=>?_;obtain⟨t,rfl,ht,hl,k1,k2⟩:=h;refine⟨rfl,fun nd _ _ _ _ _ hr=>?_⟩;refine⟨_,aI (fA (mS (SE sN yH yI HP (pv 0))) (aN (bG (bB (MO T) hr ⟨rfl,rfl,rfl⟩ (aA (pv 0) aD)))) cY) (aN (bG (bB (RQ T) hr ⟨rfl,rfl,rfl⟩ (aA (pv 0) aD)))),?_⟩;refine⟨_,rfl,rfl,_,rfl,rfl,trivial,_,rfl,?_⟩;rw[AW ht];refine nB (fun c=>?_) (fun c=>?_)
 ·rw[aE]at c;have hnm:¬Vatwva.isName t=true:=by
   cases t with
   | nil=>simp at c
   | cons b t=>intro z;have:=(Dm ht).mp z;rw[cQ,aE]at c;rw[c.2.1]at this;cases this.1
  have e:Vatwva.stepOf t=(Vatwva.naturalOf t).map .item:=by unfold Vatwva.stepOf;rw[if_neg hnm]
  refine⟨_,rfl,t,rfl,ht,hl,fun n hn=>k1 (.item n) (by rw[e,hn];rfl),fun hn=>k2 (by rw[e,hn];rfl)⟩
 ·refine⟨_,rfl,t,rfl,ht,hl,fun hn=>k1 (.field t) (by unfold Vatwva.stepOf;rw[if_pos hn]),fun hn=>k2 ?_⟩;unfold Vatwva.stepOf;rw[if_neg hn];have:Vatwva.naturalOf t=none:=by unfold Vatwva.naturalOf;rw[if_neg fun z=>c ?_];simp only[aE]at z ⊢;exact⟨z.1,z.2.2.1⟩
  rw[this];rfl
def Tk (K:aB):Hp→V→Vatwvc.Path→Prop:=fun H y p=>∃q,y=.ref q∧fE K H q (qG p)
def Ax (a:mI) (K:aB):Sp:=fun vs H Q E=>∃p m r,vs=[.ref p]∧RR a H p m r∧oA a p m H (qI r) (Tk K) Q E
theorem ZG:("/":Str)=bT [47]:=by decide
theorem Nn:((" ":Str).cps.getD 0 0:Nat)=(32:UInt8).toNat:=by decide
theorem Kj {r:bW} {c:UInt8} {i:Int} (h:i=(c.toNat:Nat)):decide (vP r=.int i)=true↔r.head?=some c:=by subst h;rw[decide_eq_true_iff,IU]
theorem QD {c:UInt8} {r r':bW}:jF [c] r=some r'↔r.head?=some c∧r'=r.tail:=by
 rw[VM.iF];constructor
 ·rintro rfl;exact⟨rfl,rfl⟩
 ·rintro⟨h,rfl⟩;exact VM.mO h
theorem ZP (T:iJ K mg a):gV P w K mg base 4 "read_path" ["reader"] (Ax a K):=by
 refine kI T.f_read_path ["reader","steps"] fun vs H Q E h=>?_
 obtain⟨p,m,r,rfl,hp,k⟩:=h
 refine⟨rfl,fun nd _ _ _ _ _ hr=>?_⟩
 refine⟨_,aI (dN (sB (wF T) T.q_Reader hr ⟨rfl,rfl,rfl⟩ (pv 0) (aA dZ aD)))
  (aI (fA (dA qF (mD (wV T) T.q_Reader hr.m ⟨rfl,rfl,rfl⟩ (pv 0)) (cX mK rfl T.n_ord rA (aA dZ aD)) (dJ _)) (aN (bG (iP aD))) cY)
  (aI (cM (i:=1) nd rfl (bP rfl) (eJ (aA (bB (RS T) hr.m ⟨rfl,rfl,rfl⟩ (aA (mD (tE T) T.q_Reader hr.m ⟨rfl,rfl,rfl⟩ (pv 0)) aD)) aD)))
  (aI (zV (gH ⟨rfl,rfl,rfl⟩) (mS (sB (qS T) T.q_Reader hr.m ⟨rfl,rfl,rfl⟩ (pv 0) (aA dZ aD)))
   (aN (dN (nG bF bR bS gF (pv 1) (aA (bB (RS T) hr.m ⟨rfl,rfl,rfl⟩ (aA (mD (tE T) T.q_Reader hr.m ⟨rfl,rfl,rfl⟩ (pv 0)) aD)) aD)))))
  (aN (bG (lK EB rfl T.n_tuple boot_tuple (aA (pv 1) aD))))))),?_⟩
 obtain⟨dx,fl,h1,h2⟩:=hp.at
 refine⟨_,rfl,p,dx,fl,rfl,h1,h2 _ (by decide) (by decide),p,m,r,[47],by rw[ZG];rfl,hp,fun r1 he H1 b1 hr1=>?_,fun he=>k.no ?_⟩
 rotate_left
 ·unfold qI
  rw[if_neg fun z=>?_]
  rw[QD.mpr ⟨z,rfl⟩]at he
  cases he
 obtain⟨hh,rfl⟩:=QD.mp he
 obtain⟨dx1,fl1,f1,f2⟩:=hr1.at
 have e0:qI r=if r.tail.head?=some 32 then some ([],r.tail)else (uH r.tail).bind fun s=>(pK s.2).map fun y=>(s.1::y.1,y.2):=by
  unfold qI;rw[if_pos hh]
 have o32:((((" ":Str).cps.getD 0 0:Nat)):Int)=((32:UInt8).toNat:Nat):=by rw[Nn]
 refine⟨_,rfl,p,dx1,fl1,rfl,f1,f2 _ (by decide) (by decide),p,m,r.tail,rfl,hr1,_,rfl,rfl,HV _ _,_,rfl,nB (fun c=>?_) (fun c=>?_)⟩
 ·have c:=(Kj o32).mp c
  rw[if_pos c]at e0
  refine⟨aY _,fun t ht=>?_⟩
  exact k.yes e0 _ _ (b1.trans (aZ.but (aZ.upd ht))) (hr1.same (aZ.upd ht)) ⟨t,rfl,.of' aG⟩
 ·have c:¬r.tail.head?=some 32:=fun z=>c ((Kj o32).mpr z)
  rw[if_neg c]at e0
  refine⟨_,rfl,p,dx1,fl1,rfl,f1,f2 _ (by decide) (by decide),p,m,r.tail,rfl,hr1,fun H2 b2 hr2=>⟨_,rfl,BI _,bI (BJ _) hr1.len,fun s1 hs1=>?_,fun hs1=>?_⟩⟩
  rotate_left
  ·exact k.no (by rw[e0];unfold uH;rw[hs1];rfl) H2 (b1.trans b2)
  have est:uH r.tail=some (s1,kD r.tail):=by unfold uH;rw[hs1];rfl
  rw[est]at e0
  have e0:qI r=(pK (kD r.tail)).map fun y=>(s1::y.1,y.2):=e0
  refine⟨(by show 1≤aU;decide),fun l hl=>?_⟩
  have b12:=b1.trans b2
  have hlH:H l=none:=by
   cases q:H l with
   | none=>rfl
   | some o=>
    by_cases z:l=p
    ·subst z
     obtain⟨_,_,y,_⟩:=hr2
     rw[y]at hl;cases hl
    ·rw[b12 l o z q]at hl;cases hl
  have lp:=hp.ne hlH
  have sl:aZ H2 (upd H2 l (.lst [SY s1])):=aZ.upd hl
  have hrl:(kD r.tail).length≤6000:=hr2.len
  refine⟨fun n σ H'=>∃ss r',σ=[some (.ref p),some (.ref l)]∧H' l=some (.lst (qG ss))∧RR a H' p m r'∧sH p H H'∧qI r=(pK r').map (fun x=>(ss++x.1,x.2))∧ss.length+r'.length≤7000∧n=r'.length,
   ⟨_,[s1],kD r.tail,rfl,aG,hr2.same sl,b12.trans (aZ.but sl),e0,by show 1+_≤_;omega,rfl⟩,?_⟩
  rintro n σ H' ⟨ss,r',rfl,hl',hr',hb,e,hn,rfl⟩
  obtain⟨dx3,fl3,g1,g2⟩:=hr'.at
  have elen:(qG ss).length=ss.length:=aJ _
  refine⟨_,rfl,p,dx3,fl3,rfl,g1,g2 _ (by decide) (by decide),p,m,r',47,rfl,hr',fun hh H3 b3 r3=>⟨_,rfl,sY ?_⟩,fun hh=>⟨_,rfl,xK ?_⟩⟩
  ·have hl3:H3 l=some (.lst (qG ss)):=b3 l _ lp hl'
   obtain⟨dx4,fl4,i1,i2⟩:=r3.at
   rw[pK,if_pos hh]at e
   refine⟨fun σ' H''=>∃ss r2,σ'=[some (.ref p),some (.ref l)]∧H'' l=some (.lst (qG ss))∧RR a H'' p m r2∧sH p H H''∧qI r=(pK r2).map (fun x=>(ss++x.1,x.2))∧ss.length+r2.length≤7000∧r2.length < r'.length,
    fun σ' H'' ⟨ss,r2,q1,q2,q3,q4,q5,q6,q7⟩=>⟨_,q7,ss,r2,q1,q2,q3,q4,q5,q6,rfl⟩,?_⟩
   refine⟨_,rfl,.inl ⟨rfl,_,gX.of hl3⟩,_,rfl,p,dx4,fl4,rfl,i1,i2 _ (by decide) (by decide),p,m,r'.tail,rfl,r3,fun H4 b4 r4=>⟨_,rfl,BI _,bI (BJ _) r3.len,fun s2 hs2=>?_,fun hs2=>?_⟩⟩
   rotate_left
   ·exact k.no (by rw[e];unfold uH;rw[hs2];rfl) H4 ((hb.trans b3).trans b4)
   have est:uH r'.tail=some (s2,kD r'.tail):=by unfold uH;rw[hs2];rfl
   rw[est]at e
   have hrest:(kD r'.tail).length < r'.length:=by
    have h1:=congrArg sK (VM.uL r'.tail)
    rw[aC]at h1
    have h2:=VM.mO hh
    have h3:=congrArg sK h2
    rw[aK]at h3
    omega
   have e:qI r=((if h:(kD r'.tail).length < r'.length then (pK (kD r'.tail)).map fun y=>(s2::y.1,y.2)else none):Option (List Vatwva.Step×bW)).map (fun x=>(ss++x.1,x.2)):=e
   rw[dif_pos hrest]at e
   have hl4:H4 l=some (.lst (qG ss)):=b4 l _ lp hl3
   refine⟨l,_,_,rfl,rfl,hl4,small (by rw[elen];omega),ss++[s2],kD r'.tail,rfl,?_,r4.upd hp hlH,sS ((hb.trans b3).trans b4) hlH,?_,by rw[aC,cR];omega,hrest⟩
   ·rw[aG];unfold qG;rw[aW];rfl
   ·rw[e,mX]
    congr 1
    funext z
    show(ss++s2::z.1,z.2)=_
    simp
  ·rw[pK,if_neg hh]at e
   have e:qI r=some (ss++[],r'):=e
   rw[cK]at e
   refine⟨_,rfl,l,_,rfl,.inl (gX.of hl'),fun t H5 s5 ht=>?_⟩
   exact k.yes e H5 _ (hb.trans (aZ.but s5)) (hr'.same s5) ⟨t,rfl,ht⟩
def Qt:NL→Str
 | .place=>"place"
 | .name=>"name"
 | .value=>"value"
def xS (f:NL):V:=.str (Qt f)
def UI (K:aB) (H:Hp) (y:V):rF→Prop
 | .place n=>y=.int (n:Nat)
 | .name n=>y=.str (bT n)
 | .value v=>oB K H y v
theorem UI.tups (s:zH H H') (h:UI K H y d):UI K H' y d:=by
 cases d with
 | place n=>exact h
 | name n=>exact h
 | value v=>exact oB.tups s h
def SU (a:mI) (K:aB):Sp:=fun vs H Q E=>∃p m r f,vs=[.ref p,xS f]∧RR a H p m r∧oA a p m H (MV f r) (UI K) Q E
theorem RY (T:iJ K mg a):gV P w K mg base 20 "read_detail" ["reader","form"] (SU a K):=by
 refine kI T.f_read_detail ["reader","form"] fun vs H Q E h=>?_;obtain⟨p,m,r,f,rfl,hp,k⟩:=h;refine⟨rfl,fun nd _ _ _ _ _ hr=>?_⟩;obtain⟨u1,hm1,ru1⟩:=T.c_PLACE;obtain⟨u2,hm2,ru2⟩:=T.c_NAME;refine⟨_,aI (fA (dA qF (pv 1) (dM rfl hm1 ru1) (dJ _)) (aN (bG (bB (yU T) hr.m ⟨rfl,rfl,rfl⟩ (aA (pv 0) aD)))) cY) (aI (fA (dA qF (pv 1) (dM rfl hm2 ru2) (dJ _)) (aN (bG (bB (JW T) hr.m ⟨rfl,rfl,rfl⟩ (aA (pv 0) aD)))) cY) (aN (bG (bB (GF T) hr ⟨rfl,rfl,rfl⟩ (aA (pv 0) aD))))),?_⟩;cases f with
 | place=>
  refine⟨_,rfl,rfl,_,rfl,pE (decide_eq_true rfl) ⟨_,rfl,p,m,r,rfl,hp,?_⟩⟩;cases q:kN r with
  | none=>exact k.no (show(kN r).map _=none by rw[q];rfl)
  | some x=>exact fun H' y b hr' hy=>k.yes (x:=rF.place x.1) (r:=x.2) (show(kN r).map (fun x=>(rF.place x.1,x.2))=some (rF.place x.1,x.2)by rw[q];rfl) H' y b hr' hy
 | name=>
  refine⟨_,rfl,rfl,_,rfl,mP (decide_eq_false (by decide)) ⟨_,rfl,rfl,_,rfl,pE (decide_eq_true rfl) ⟨_,rfl,p,m,r,rfl,hp,?_⟩⟩⟩;cases q:uG r with
  | none=>exact k.no (show(uG r).map _=none by rw[q];rfl)
  | some x=>exact fun H' y b hr' hy=>k.yes (x:=rF.name x.1) (r:=x.2) (show(uG r).map (fun x=>(rF.name x.1,x.2))=some (rF.name x.1,x.2)by rw[q];rfl) H' y b hr' hy
 | value=>
  refine⟨_,rfl,rfl,_,rfl,mP (decide_eq_false (by decide)) ⟨_,rfl,rfl,_,rfl,mP (decide_eq_false (by decide)) ⟨_,rfl,p,m,r,rfl,hp,?_⟩⟩⟩;cases q:qZ r with
  | none=>exact k.no (show(qZ r).map _=none by rw[q];rfl)
  | some x=>exact fun H' y b hr' hy=>k.yes (x:=rF.value x.1) (r:=x.2) (show(qZ r).map (fun x=>(rF.value x.1,x.2))=some (rF.value x.1,x.2)by rw[q];rfl) H' y b hr' hy
theorem Ku:("set":Str)=bT (Vatwva.ascii "set"):=by decide
theorem Kt:("put":Str)=bT (Vatwva.ascii "put"):=by decide
theorem Dh:("take":Str)=bT (Vatwva.ascii "take"):=by decide
theorem Dg:("move":Str)=bT (Vatwva.ascii "move"):=by decide
theorem Kr:("add":Str)=bT (Vatwva.ascii "add"):=by decide
theorem Dd:("drop":Str)=bT (Vatwva.ascii "drop"):=by decide
theorem RB:("rename":Str)=bT (Vatwva.ascii "rename"):=by decide
theorem KL (e:gE):GQ e=bT (VM.iH e):=by
 cases e
 ·exact Ku
 ·exact Kt
 ·exact Dh
 ·exact Dg
 ·exact Kr
 ·exact Dd
 ·exact RB
theorem xA {l:Str} {t u:bW} {v:V} {r:List (CG×V)} (hl:l=bT t):qJ ((IH l,v)::r) (.inr (bT u))=if u=t then some v else qJ r (.inr (bT u)):=by
 by_cases h:u=t
 ·rw[if_pos h];exact oG (by rw[hl,h])
 ·rw[if_neg h];exact oF fun z=>h (uJ (by rw[←hl];exact(Sum.inr.inj z).symm))
theorem LG (B:sI P w K mg a):∃kvs,xO P w K a.dFORMS kvs∧∀t:bW,(∀fs,wA t=some fs→∃q,qJ kvs (.inr (bT t))=some (.ref q)∧∀H:Hp,fE K H q (fs.map xS))∧(wA t=none→qJ kvs (.inr (bT t))=none):=by
 obtain⟨t1,t2,t3,t4,t5,t6,t7,h,kd⟩:=B.forms
 refine⟨_,kd,fun t=>?_⟩
 rw[xA Ku,xA Kt,xA Dh,xA Dg,xA Kr,xA Dd,xA RB,Sx]
 unfold wA
 split
 ·exact⟨fun fs e=>by cases e;exact⟨t1,rfl,fun H=>(h H).1⟩,fun e=>by cases e⟩
 split
 ·exact⟨fun fs e=>by cases e;exact⟨t2,rfl,fun H=>(h H).2.1⟩,fun e=>by cases e⟩
 split
 ·exact⟨fun fs e=>by cases e;exact⟨t3,rfl,fun H=>(h H).2.2.1⟩,fun e=>by cases e⟩
 split
 ·exact⟨fun fs e=>by cases e;exact⟨t4,rfl,fun H=>(h H).2.2.2.1⟩,fun e=>by cases e⟩
 split
 ·exact⟨fun fs e=>by cases e;exact⟨t5,rfl,fun H=>(h H).2.2.2.2.1⟩,fun e=>by cases e⟩
 split
 ·exact⟨fun fs e=>by cases e;exact⟨t6,rfl,fun H=>(h H).2.2.2.2.2.1⟩,fun e=>by cases e⟩
 split
 ·exact⟨fun fs e=>by cases e;exact⟨t7,rfl,fun H=>(h H).2.2.2.2.2.2⟩,fun e=>by cases e⟩
 ·exact⟨fun fs e=>(by cases e),fun _=>rfl⟩
def KE (a:mI):Sp:=fun vs H Q _=>∃x dx y1 y2 y3,vs=[.ref x,y1,y2,y3]∧H x=some (.ins a.cEdit dx [])∧Q .non (upd (upd (upd H x (.ins a.cEdit dx [("word",y1)])) x (.ins a.cEdit dx [("word",y1),("path",y2)])) x (.ins a.cEdit dx [("word",y1),("path",y2),("details",y3)]))
theorem qX (T:iJ K mg a):Vr P w K mg base 1 a.cEdit ["self","word","path","details"] (KE a):=by refine B7 T.mk_Edit ["self","word","path","details"] fun vs H Q E h=>?_;obtain⟨x,dx,y1,y2,y3,rfl,hx,k⟩:=h;refine⟨rfl,fun nd _ _ _ _ _ hr=>?_⟩;refine⟨_,aI (nT (pv 0) (pv 1) rfl) (aI (nT (pv 0) (pv 2) rfl) (aN (nT (pv 0) (pv 3) rfl))),?_⟩;exact⟨_,rfl,_,rfl,x,_,dx,_,rfl,hx,T.q_Edit,T.na_Edit_word,(by show 0 < 1000;decide),_,rfl,_,rfl,x,_,dx,_,rfl,aG,T.q_Edit,T.na_Edit_path,(by show 1 < 1000;decide),_,rfl,_,rfl,x,_,dx,_,rfl,aG,T.q_Edit,T.na_Edit_details,(by show 2 < 1000;decide),k⟩
theorem vB (hx:H x=none) (hdx:H dx=none):aZ H (upd (upd (upd (upd (upd H dx (.own x)) x (.ins a.cEdit dx [])) x (.ins a.cEdit dx [("word",y1)])) x (.ins a.cEdit dx [("word",y1),("path",y2)])) x (.ins a.cEdit dx [("word",y1),("path",y2),("details",y3)])):=dB (dB (dB (dB (aZ.upd hdx) hx) hx) hx) hx
theorem Wj (h:fE K H d ys) (hd:gY (UI K H) ys (VM.eW e)):Tc K H d e:=by
 cases e with
 | set p v=>
  cases hd with
  | cons h1 h2=>cases h2;exact⟨_,h,h1⟩
 | put p i v=>
  cases hd with
  | cons h1 h2=>
   cases h2 with
   | cons h2 h3=>cases h3;cases(show _=_ from h1);exact⟨_,h,h2⟩
 | take p i=>
  cases hd with
  | cons h1 h2=>cases h2;cases(show _=_ from h1);exact h
 | move p i j=>
  cases hd with
  | cons h1 h2=>
   cases h2 with
   | cons h2 h3=>cases h3;cases(show _=_ from h1);cases(show _=_ from h2);exact h
 | add p i n v=>
  cases hd with
  | cons h1 h2=>
   cases h2 with
   | cons h2 h3=>
    cases h3 with
    | cons h3 h4=>cases h4;cases(show _=_ from h1);cases(show _=_ from h2);exact⟨_,h,h3⟩
 | drop p n=>
  cases hd with
  | cons h1 h2=>cases h2;cases(show _=_ from h1);exact h
 | rename p n m=>
  cases hd with
  | cons h1 h2=>
   cases h2 with
   | cons h2 h3=>cases h3;cases(show _=_ from h1);cases(show _=_ from h2);exact h
def OZ (a:mI) (K:aB) (H:Hp) (o:Option gE) (Q:VK) (E:XK):Prop:=match o with
 | some e=>∀H' ep,aZ H H'→Ca a K H' ep e→Q (.ref ep) H'
 | none=>∀H',aZ H H'→E (.ref a.xUnreadable) none H'
theorem OZ.no (h:OZ a K H o Q E) (e:∀x,o≠some x):∀H',aZ H H'→E (.ref a.xUnreadable) none H':=by
 cases o with
 | none=>exact h
 | some x=>exact absurd rfl (e x)
theorem OZ.yes (h:OZ a K H o Q E) (e:o=some x):∀H' ep,aZ H H'→Ca a K H' ep x→Q (.ref ep) H':=by rw[e]at h;exact h
def An (a:mI) (K:aB):Sp:=fun vs H Q E=>∃l t,vs=[.ref l]∧H l=some (.lst (cU t))∧t.length≤6000∧OZ a K H (Vatwvc.editOf t) Q E
theorem LJ:(" ":Str)=bT [32]:=by decide
theorem sH.none (b:sH p H H') (h:H' l=none) (n:l≠p):H l=none:=by
 cases q:H l with
 | none=>rfl
 | some o=>rw[b l o n q]at h;cases h
theorem Paired.appendP (h:gY R xs ys) (h':gY R xs' ys'):gY R (xs++xs') (ys++ys'):=by
 induction h with
 | nil=>exact h'
 | cons r _ ih=>exact .cons r ih
theorem nP (T:iJ K mg a) (B:sI P w K mg a):gV P w K mg base 21 "edit_from" ["text"] (An a K):=by
 refine kI T.f_edit_from ["text","reader","word","path","details","form"] fun vs H Q E h=>?_
 obtain⟨l,t,rfl,hl,hn,k⟩:=h
 refine⟨rfl,fun nd _ _ _ _ _ hr=>?_⟩
 refine⟨_,aI (cM (i:=1) nd rfl (bP rfl) (nR (WW T) T.k_Reader hr.m ⟨rfl,rfl,rfl⟩ (aA (pv 0) aD)))
  (aI (cM (i:=2) nd rfl (bP rfl) (mD (tE T) T.q_Reader hr.m ⟨rfl,rfl,rfl⟩ (pv 1)))
  (aI (fA (Wy (Nr (pv 2) (dM (v:=.ref a.dFORMS) (by rfl) T.d_FORMS rfl))) (aN (iV ⟨rfl,rfl,rfl⟩ rfl rfl T.x_Unreadable.1 T.x_Unreadable.2)) cY)
  (aI (dN (sB (wF T) T.q_Reader hr.m ⟨rfl,rfl,rfl⟩ (pv 1) (aA dZ aD)))
  (aI (cM (i:=3) nd rfl (bP rfl) (bB (ZP T) hr.m ⟨rfl,rfl,rfl⟩ (aA (pv 1) aD)))
  (aI (cM (i:=4) nd rfl (bP rfl) (eJ aD))
  (aI (pI (gH ⟨rfl,rfl,rfl⟩) rfl (BG (BE (dM (v:=.ref a.dFORMS) (by rfl) T.d_FORMS rfl) (pv 2) (fun _ _=>rfl))) (eY (i:=5) nd rfl (bP rfl))
   (aI (dN (sB (wF T) T.q_Reader hr.m ⟨rfl,rfl,rfl⟩ (pv 1) (aA dZ aD)))
   (aN (dN (nG bF bR bS gF (pv 4) (aA (bB (RY T) hr ⟨rfl,rfl,rfl⟩ (aA (pv 1) (aA (pv 5) aD))) aD))))))
  (aI (fA (wY (mS (mD (Ds T) T.q_Reader hr.m ⟨rfl,rfl,rfl⟩ (pv 1)))) (aN (iV ⟨rfl,rfl,rfl⟩ rfl rfl T.x_Unreadable.1 T.x_Unreadable.2)) cY)
  (aN (bG (nR (qX T) T.k_Edit hr.m ⟨rfl,rfl,rfl⟩ (aA (pv 2) (aA (pv 3) (aA (lK EB rfl T.n_tuple boot_tuple (aA (pv 4) aD)) aD))))))))))))),?_⟩
 refine⟨_,rfl,fun x dx hx hdx ne=>⟨x,l,dx,rfl,aG,rfl,?_⟩⟩
 obtain⟨s1,r1⟩:=RC (a:=a) hl hn hx hdx ne
 revert s1 r1
 generalize upd (upd (upd (upd H dx (.own x)) x (.ins a.cReader dx [])) x (.ins a.cReader dx [("text",.ref l)])) x (.ins a.cReader dx [("text",.ref l),("place",.int 0)])=H1
 intro s1 r1
 have no:∀{H'},sH x H1 H'→(∀e,Vatwvc.editOf t≠some e)→E (.ref a.xUnreadable) none H':=fun b he=>k.no he _ (sH.same s1 b hx)
 obtain⟨dx1,fl1,f1,f2⟩:=r1.at
 refine⟨_,rfl,x,dx1,fl1,rfl,f1,f2 _ (by decide) (by decide),x,(l,t),t,rfl,r1,fun H2 b2 r2=>?_⟩
 obtain⟨kvs,kd,tab⟩:=LG B
 refine⟨_,rfl,_,kvs,.inr (bT (jV t)),rfl,kd,rfl,_,rfl,?_⟩
 cases hf:wA (jV t)with
 | none=>
  rw[(tab (jV t)).2 hf]
  refine sY (no b2 fun e he=>?_)
  obtain⟨_,_,q1,_⟩:=VM.FG he
  rw[q1,VM.JI]at hf
  cases hf
 | some fs=>
  obtain⟨q,hval,hq⟩:=(tab (jV t)).1 fs hf
  rw[hval]
  refine xK ?_
  obtain⟨dx2,fl2,g1,g2⟩:=r2.at
  refine⟨_,rfl,x,dx2,fl2,rfl,g1,g2 _ (by decide) (by decide),x,(l,t),kD t,[32],by rw[LJ];rfl,r2,fun r3 he3 H3 b3 hr3=>?_,fun he3 H3 b3=>no (b2.trans b3) fun e he=>?_⟩
  rotate_left
  ·obtain⟨_,_,_,q2,_⟩:=VM.FG he
   rw[he3]at q2;cases q2
  refine⟨_,rfl,x,(l,t),r3,rfl,hr3,?_⟩
  cases hpa:qI r3 with
  | none=>
   intro H4 b4
   refine no ((b2.trans b3).trans b4) fun e he=>?_
   obtain⟨_,_,_,q2,q3,_⟩:=VM.FG he
   rw[he3]at q2;cases q2
   rw[hpa]at q3;cases q3
  | some pr=>
   intro H4 y b4 hr4 hy
   obtain⟨pp,rfl,hpp⟩:=hy
   have b14:=(b2.trans b3).trans b4
   refine⟨aY _,fun D hD=>?_⟩
   have Dx:=hr4.ne hD
   have hD1:H1 D=none:=b14.none hD Dx
   have sD:aZ H4 (upd H4 D (.lst [])):=aZ.upd hD
   have parts:∀e,Vatwvc.editOf t=some e→VM.iH e=jV t∧Vatwvc.pathIn e=pr.1∧oS fs pr.2=some (VM.eW e,[]):=fun e he=>by
    obtain⟨r1',r2',q1,q2,q3,q4⟩:=VM.FG he
    rw[he3]at q2;cases q2
    rw[hpa]at q3
    have q3:=cO q3
    subst q3
    rw[q1,VM.JI]at hf
    cases hf
    exact⟨q1.symm,rfl,q4⟩
   refine⟨_,rfl,_,kvs,.inr (bT (jV t)),.ref q,rfl,kd,rfl,hval,q,rfl,⟨_,hq _⟩,OD (xs:=fs.map xS) (fun i σ H'=>sH x H1 H'∧∃ys ds r' st,σ=[some (.ref l),some (.ref x),some (.str (bT (jV t))),some (.ref pp),some (.ref D),st]∧fE K H' pp (qG pr.1)∧H' D=some (.lst ys)∧gY (UI K H') ys ds∧ds.length=i∧RR a H' x (l,t) r'∧
    oS fs pr.2=(oS (fs.drop i) r').map (fun z=>(ds++z.1,z.2))) ⟨b14.trans (aZ.but sD),[],[],pr.2,none,rfl,sD.sqT hpp,aG,.nil,rfl,hr4.same sD,?_⟩ (fun i σ H' _ _=>hq H') ?_ ?_⟩
   ·rw[xL]
    cases oS fs pr.2<;>rfl
   ·rintro i z σ H' hz ⟨hb,ys,ds,r',st,rfl,hpp',hD',hds,hdl,hr',e⟩
    rw[bX]at hz
    obtain⟨fm,efm,rfl⟩:=aO.mp hz
    have hil:=(aS.mp efm).1
    have hdr:fs.drop i=fm::fs.drop (i+1):=by
     obtain⟨hi,rfl⟩:=aS.mp efm
     exact bM hi
    have hfl:fs.length≤3:=by
     unfold wA at hf
     repeat(first | (split at hf;· cases hf;decide) | cases hf)
    rw[hdr,oS]at e
    obtain⟨dx5,fl5,i1,i2⟩:=hr'.at
    refine⟨_,rfl,x,dx5,fl5,rfl,i1,i2 _ (by decide) (by decide),x,(l,t),r',[32],by rw[LJ];rfl,hr',fun r6 he6 H6 b6 hr6=>?_,fun he6 H6 b6=>no (hb.trans b6) fun ed hed=>?_⟩
    rotate_left
    ·rw[he6]at e
     rw[(parts ed hed).2.2]at e;cases e
    rw[he6]at e
    have hD6:=b6 D _ Dx hD'
    refine⟨_,rfl,.inl ⟨rfl,_,gX.of hD6⟩,_,rfl,_,rfl,x,(l,t),r6,fm,rfl,hr6,?_⟩
    cases hq7:MV fm r6 with
    | none=>
     intro H7 b7
     refine no ((hb.trans b6).trans b7) fun ed hed=>?_
     have e:oS fs pr.2=((MV fm r6).bind fun z=>(oS (fs.drop (i+1)) z.2).map fun y=>(z.1::y.1,y.2)).map (fun z=>(ds++z.1,z.2)):=e
     rw[hq7]at e
     rw[(parts ed hed).2.2]at e;cases e
    | some dt=>
     intro H7 y b7 hr7 hy
     have e:oS fs pr.2=((MV fm r6).bind fun z=>(oS (fs.drop (i+1)) z.2).map fun y=>(z.1::y.1,y.2)).map (fun z=>(ds++z.1,z.2)):=e
     rw[hq7]at e
     have t67:=(sH.tups b6 hr').trans (sH.tups b7 hr6)
     have hD7:=b7 D _ Dx hD6
     have tD:=oP (ys:=ys++[y]) hD7
     have hyl:=hds.length
     refine⟨D,_,_,rfl,rfl,hD7,small (by omega),sS ((hb.trans b6).trans b7) hD1,ys++[y],ds++[dt.1],dt.2,_,rfl,(t67.trans tD).sqT hpp',aG,?_,by rw[aC,cR,hdl],hr7.upd r1 hD1,?_⟩
     ·exact Paired.snoc (Paired.mapP hds fun _ _ z=>z.tups (t67.trans tD)) (UI.tups tD hy)
     ·rw[e]
      show((oS (fs.drop (i+1)) dt.2).map _).map _=_
      rw[mX]
      congr 1
      funext z
      show(ds++dt.1::z.1,z.2)=_
      simp
   ·rintro σ H' ⟨hb,ys,ds,r',st,rfl,hpp',hD',hds,hdl,hr',e⟩
    have e0:(fs.map xS).length=fs.length:=aJ _
    rw[e0,jP]at e
    have e:oS fs pr.2=some (ds++[],r'):=e
    rw[cK]at e
    obtain⟨dx5,fl5,i1,i2⟩:=hr'.at
    refine⟨_,rfl,x,dx5,fl5,rfl,i1,i2 _ (by decide) (by decide),x,(l,t),r',rfl,hr',_,rfl,?_⟩
    cases hr0:r' with
    | cons b0 rr=>
     refine sY (no hb fun ed hed=>?_)
     rw[(parts ed hed).2.2,hr0]at e;cases e
    | nil=>
     rw[hr0]at e
     refine xK ?_
     obtain⟨d1,d2,d3⟩:=VM.BH e
     obtain⟨ed,hed⟩:=VM.Yq (w:=jV t) (p:=pr.1) (ds:=ds) (by rw[hf];exact congrArg some d1.symm)
     have heo:Vatwvc.editOf t=some ed:=VM.Ae rfl hf he3 hpa e hed
     obtain⟨w1,w2,w3⟩:=hed
     refine⟨_,rfl,_,rfl,_,rfl,D,_,rfl,.inl (gX.of hD'),fun td H6 s6 htd=>fun x2 dx2 hx2 hdx2 ne2=>⟨x2,dx2,_,_,_,rfl,aG,rfl,?_⟩⟩
     have s7:=vB (a:=a) (y1:=.str (bT (jV t))) (y2:=.ref pp) (y3:=.ref td) hx2 hdx2
     have sF:=(sH.same s1 hb hx).trans (s6.trans s7)
     refine k.yes heo _ x2 sF ⟨dx2,pp,td,?_,?_,?_⟩
     ·rw[aG,KL,w1]
     ·rw[w2];exact s7.sqT (s6.sqT hpp')
     ·refine Wj (s7.sqT htd) ?_
      rw[w3]
      exact Paired.mapP hds fun _ _ z=>z.tups (s6.trans s7).tups
theorem AK:∀(x y:List (Option A)),Vatwva.allOf (x++y)=(Vatwva.allOf x).bind fun l=>(Vatwva.allOf y).map fun m=>l++m
 | [],y=>by show Vatwva.allOf y=(Vatwva.allOf y).map fun m=>[]++m;cases Vatwva.allOf y<;>rfl
 | a::x,y=>by
  show(a.bind fun b=>(Vatwva.allOf (x++y)).map fun l=>b::l)=(a.bind fun b=>(Vatwva.allOf x).map fun l=>b::l).bind _;cases a with
  | none=>rfl
  | some b=>
   rw[AK x y];show((Vatwva.allOf x).bind fun l=>(Vatwva.allOf y).map fun m=>l++m).map _=((Vatwva.allOf x).map fun l=>b::l).bind _;cases Vatwva.allOf x with
   | none=>rfl
   | some l=>show((Vatwva.allOf y).map _).map _=(Vatwva.allOf y).map _;rw[mX];rfl
theorem Ca.updl (hD:H D=some (.lst xs)) (h:Ca a K H p e):Ca a K (upd H D (.lst ys)) p e:=by obtain⟨dx,pp,d,h1,h2,h3⟩:=h;exact⟨dx,pp,d,by rw[bK (kH h1 hD (by intro z;cases z))];exact h1,(oP hD).sqT h2,h3.tups (oP hD)⟩
theorem xI.updl (hD:H D=some (.lst xs)) (h:xI a K H rs es):xI a K (upd H D (.lst ys)) rs es:=Paired.mapP h fun _ _ ⟨ep,e,q⟩=>⟨ep,e,q.updl hD⟩
def IT (a:mI) (K:aB) (H:Hp) (o:Option (List gE)) (Q:VK) (E:XK):Prop:=match o with
 | some es=>∀H' q rs,aZ H H'→H q=none→H' q=some (.lst rs)→xI a K H' rs es→Q (.ref q) H'
 | none=>∀H',aZ H H'→E (.ref a.xUnreadable) none H'
theorem IT.no (h:IT a K H o Q E) (e:o=none):∀H',aZ H H'→E (.ref a.xUnreadable) none H':=by rw[e]at h;exact h
theorem IT.yes (h:IT a K H o Q E) (e:o=some es):∀H' q rs,aZ H H'→H q=none→H' q=some (.lst rs)→xI a K H' rs es→Q (.ref q) H':=by rw[e]at h;exact h
def UX (a:mI) (K:aB):Sp:=fun vs H Q E=>∃l t,vs=[.ref l]∧H l=some (.lst (cU t))∧t.length≤6000∧IT a K H (Vatwvc.editsOf t) Q E
theorem UQ (T:iJ K mg a) (B:sI P w K mg a):gV P w K mg base 22 "edits_from" ["text"] (UX a K):=by
 refine kI T.f_edits_from ["text","edits","line","byte"] fun vs H Q E h=>?_;obtain⟨l,t,rfl,hl,hn,k⟩:=h;refine⟨rfl,fun nd _ _ _ _ _ hr=>?_⟩;obtain⟨u1,hm1,ru1⟩:=T.c_LINE_END;refine⟨_,aI (cM (i:=1) nd rfl (bP rfl) (eJ aD)) (aI (cM (i:=2) nd rfl (bP rfl) (eJ aD)) (aI (pI (gH ⟨rfl,rfl,rfl⟩) rfl (OK (pv 0)) (eY (i:=3) nd rfl (bP rfl)) (aN (fA (dA qF (pv 3) (dM rfl hm1 ru1) (dJ _)) (aI (dN (nG bF bR bS gF (pv 1) (aA (bB (nP T B) hr ⟨rfl,rfl,rfl⟩ (aA (pv 2) aD)) aD))) (aN (cM (i:=2) nd rfl (bP rfl) (eJ aD)))) (aN (dN (nG bF bR bS gF (pv 2) (aA (pv 3) aD))))))) (aI (fA (dA CD (cX cV rfl T.n_len cE (aA (pv 2) aD)) cA (dJ _)) (aN (iV ⟨rfl,rfl,rfl⟩ rfl rfl T.x_Unreadable.1 T.x_Unreadable.2)) cY) (aN (bG (pv 1)))))),?_⟩;refine⟨aY _,fun De hDe=>⟨aY _,fun Dl hDl0=>?_⟩⟩;have hne:Dl≠De:=fun z=>by rw[z,aG]at hDl0;cases hDl0
 have hDl:H Dl=none:=by rw[bK hne]at hDl0;exact hDl0
 have s1:aZ H (upd (upd H De (.lst [])) Dl (.lst [])):=(aZ.upd hDe).trans (aZ.upd hDl0);refine⟨_,rfl,l,rfl,⟨_,gX.of (s1 _ _ hl)⟩,QH (xs:=cU t) (fun i σ H'=>aZ H H'∧∃Dl rs es done cur st,σ=[some (.ref l),some (.ref De),some (.ref Dl),st]∧Dl≠De∧H Dl=none∧H' De=some (.lst rs)∧xI a K H' rs es∧H' Dl=some (.lst (cU cur))∧Vatwva.allOf (done.map Vatwvc.editOf)=some es∧VM.tO [] t=(done++(VM.tO cur (t.drop i)).1,(VM.tO cur (t.drop i)).2)∧cur.length≤i∧es.length≤i) ⟨s1,Dl,[],[],[],[],none,rfl,hne,hDl,by rw[bK hne.symm];exact aG,.nil,aG,rfl,rfl,aR _,aR _⟩ (fun i σ H' _ h=>gX.of (h.1 _ _ hl)) ?_ ?_⟩
 ·rintro i z σ H' hz ⟨sm,Dl,rs,es,done,cur,st,rfl,hne,hDl,hDe',hes,hDl',hall,hlines,hcl,hel⟩;unfold cU at hz;rw[bX]at hz;obtain⟨b,eb,rfl⟩:=aO.mp hz;have hil:=(aS.mp eb).1;have hdr:t.drop i=b::t.drop (i+1):=by obtain⟨hi,rfl⟩:=aS.mp eb;exact bM hi
  have hrl:=hes.length;rw[hdr]at hlines;refine⟨_,rfl,rfl,_,rfl,nB (fun c=>?_) (fun c=>?_)⟩
  ·have c:b=10:=by have c:((b.toNat:Nat):Int)=10:=V.int.inj (of_decide_eq_true c);exact lU.mp (by show b.toNat=10;omega)
   have hl2:VM.tO cur (b::t.drop (i+1))=(cur::(VM.tO [] (t.drop (i+1))).1,(VM.tO [] (t.drop (i+1))).2):=by rw[VM.tO,if_pos c]
   rw[hl2]at hlines;refine⟨_,rfl,.inl ⟨rfl,_,gX.of hDe'⟩,_,rfl,Dl,cur,rfl,hDl',by omega,?_⟩;cases q:Vatwvc.editOf cur with
   | none=>
    intro H2 s2;refine k.no ?_ H2 (sm.trans s2);rw[VM.HH,hlines];split
    ·show Vatwva.allOf ((done++cur::_).map Vatwvc.editOf)=none;rw[aW,AK,hall,aP,q];rfl
    ·rfl
   | some ed=>
    intro H2 ep s2 hep;have hDe2:=s2 _ _ hDe';refine⟨De,_,_,rfl,rfl,hDe2,small (by omega),aY _,fun Dn hDn=>?_⟩;have hneN:Dn≠De:=fun z=>by rw[z,aG]at hDn;cases hDn
    have hDn2:H2 Dn=none:=by rw[bK hneN]at hDn;exact hDn
    have hDnH:=dW.fresh (sm.trans s2) hDn2;refine⟨dB (dB (sm.trans s2) hDe) hDnH,Dn,rs++[.ref ep],es++[ed],done++[cur],[],_,rfl,hneN,hDnH,by rw[bK hneN.symm];exact aG,?_,aG,?_,?_,aY _,by rw[aC,cR];omega⟩
    ·refine xI.same (aZ.upd hDn) ?_;exact Paired.snoc (xI.updl hDe2 (hes.same s2)) ⟨ep,rfl,hep.updl hDe2⟩
    ·rw[aW,AK,hall];show((Vatwva.allOf [Vatwvc.editOf cur]).map fun m=>es++m)=_;rw[q];rfl
    ·rw[hlines];simp
  ·have c:¬b=10:=fun z=>c (decide_eq_true (by rw[z];rfl));have hl2:VM.tO cur (b::t.drop (i+1))=VM.tO (cur++[b]) (t.drop (i+1)):=by rw[VM.tO,if_neg c]
   rw[hl2]at hlines;refine⟨_,rfl,.inl ⟨rfl,_,gX.of hDl'⟩,_,rfl,Dl,_,_,rfl,rfl,hDl',small (by rw[bV];omega),dB sm hDl,Dl,rs,es,done,cur++[b],_,rfl,hne,hDl,by rw[bK hne.symm];exact hDe',hes.updl hDl',by rw[aG,eN];rfl,hall,hlines,by rw[aC,cR];omega,by omega⟩
 ·rintro σ H' ⟨sm,Dl,rs,es,done,cur,st,rfl,hne,hDl,hDe',hes,hDl',hall,hlines,hcl,hel⟩;rw[bV,jP]at hlines;have hlines:VM.tO [] t=(done++[],cur):=hlines;rw[cK]at hlines;refine⟨_,rfl,Dl,_,rfl,.inl (gX.of hDl'),_,_,rfl,rfl,_,rfl,nB (fun c=>?_) (fun c=>?_)⟩
  ·have c:(0:Int) < ((cU cur).length:Nat):=of_decide_eq_true c;rw[bV]at c;refine k.no ?_ H' sm;rw[VM.HH,hlines,if_neg fun z=>?_];have z:cur=[]:=z;rw[z]at c;exact absurd c (by decide)
  ·have c:¬(0:Int) < ((cU cur).length:Nat):=fun z=>c (decide_eq_true z);rw[bV]at c;have hc:cur=[]:=eA (by omega);refine⟨_,rfl,k.yes (es:=es) ?_ H' De rs sm hDe hDe' hes⟩;rw[VM.HH,hlines,if_pos hc];exact hall
theorem SZ (h:Vatwvc.isStep s=true):(Vatwva.stepText s).length≤10:=by
 cases s with
 | field n=>exact rK h
 | item i=>exact VM.mM 9 i (gP (of_decide_eq_true h) (by decide))
theorem LO (p:Vatwvc.Path):Vatwva.pathText p=[47]++mF [47] (p.map Vatwva.stepText):=by
 cases p with
 | nil=>rfl
 | cons s p=>
  rw[VM.qU];have key:∀(p:Vatwvc.Path) (s:Vatwva.Step),VM.cZ (s::p)=[47]++mF [47] ((s::p).map Vatwva.stepText):=by
   intro p;induction p with
   | nil=>intro s;show(47::Vatwva.stepText s)++[]=_;rw[cK];rfl
   | cons s2 p ih=>
    intro s;have e:VM.cZ (s::s2::p)=(47::Vatwva.stepText s)++VM.cZ (s2::p):=by unfold VM.cZ;rw[dX]
    rw[e,ih s2];show _=[47]++(Vatwva.stepText s++([47]++mF [47] ((s2::p).map Vatwva.stepText)));simp
  exact key p s
def Ba:Sp:=fun vs H Q _=>∃s:Vatwva.Step,vs=[SY s]∧Vatwvc.isStep s=true∧dW H (Vatwva.stepText s) Q
theorem ZS (T:iJ K mg a):gV P w K mg base 2 "step_text" ["step"] Ba:=by
 refine kI T.f_step_text ["step"] fun vs H Q E h=>?_;obtain⟨s,rfl,hs,k⟩:=h;refine⟨rfl,fun nd _ _ _ _ _ hr=>?_⟩;refine⟨_,aI (fA (mS (Eh (pv 0) rfl T.n_isinstance rfl T.n_str)) (aN (bG (bB (fK T) hr ⟨rfl,rfl,rfl⟩ (aA (pv 0) aD)))) cY) (aN (bG (bB (fK T) hr ⟨rfl,rfl,rfl⟩ (aA (lK sW rfl T.n_str TV (aA (pv 0) aD)) aD)))),?_⟩;have hl:=SZ hs;cases s with
 | field n=>exact⟨_,rfl,.inl ⟨_,rfl,_,rfl,sY ⟨_,rfl,n,rfl,(by have:n.length≤10:=hl;omega),k⟩⟩⟩
 | item i=>refine⟨_,rfl,.inr ⟨_,rfl,_,rfl,xK ⟨_,rfl,_,rfl,EY (of_decide_eq_true hs),Vatwva.decimal i,by rw[yE];rfl,?_,k⟩⟩⟩;have:(Vatwva.decimal i).length≤10:=hl;omega
def Au (K:aB):Sp:=fun vs H Q _=>∃(pp:aQ) (p:Vatwvc.Path),vs=[.ref pp]∧fE K H pp (qG p)∧p.all Vatwvc.isStep=true∧p.length≤6000∧dW H (Vatwva.pathText p) Q
theorem ZM (T:iJ K mg a):gV P w K mg base 3 "path_text" ["path"] (Au K):=by
 refine kI T.f_path_text ["path","step"] fun vs H Q E h=>?_;obtain⟨pp,p,rfl,hp,hs,hn,k⟩:=h;refine⟨rfl,fun nd _ _ _ _ _ hr=>?_⟩;refine⟨_,aN (bG (jZ uE (bB (fK T) hr.m ⟨rfl,rfl,rfl⟩ (aA dZ aD)) (bB (FA T) hr ⟨rfl,rfl,rfl⟩ (aA (XC rfl nd (BG (pv 0)) (uU (own:=[("step",1)]) (by rfl)) (fun _ _ _ _ _=>eY (i:=1) nd rfl (bP rfl)) (fun _ _ _ _ _=>xZ) (fun _ _ _ _ _=>LP (ZS T) hr (aA (pv 1) aD))) (aA dZ aD))))),?_⟩;refine⟨[47],by rw[ZG];rfl,by decide,fun A1 H1 s1 hA1 g1=>?_⟩;refine⟨_,rfl,pp,rfl,⟨_,s1.sqT hp⟩,fun D hD=>?_⟩;rw[cD]at hs;refine Hy (xs:=qG p) (fun j H'=>aZ H1 H'∧∃rs,H' D=some (.lst rs)∧UJ H' D rs ((p.take j).map Vatwva.stepText)) ⟨aZ.upd hD,[],aG,.nil⟩ (fun j H' _ h=>(s1.trans h.1).sqT hp) (fun j y H' hy h=>?_) (fun H' h=>?_)
 ·obtain⟨sm,rs,hD',hts⟩:=h;unfold qG at hy;rw[bX]at hy;obtain⟨st,est,rfl⟩:=aO.mp hy;refine⟨rfl,sY (B:=aZ H1 H'∧∃rs,H' D=some (.lst rs)∧UJ H' D rs ((p.take (j+1)).map Vatwva.stepText)) ?_⟩;refine⟨_,rfl,st,rfl,hs st (bA est),fun B H4 s4 hB0 hB=>?_⟩;have hBD:B≠D:=fun z=>by rw[z,hD']at hB0;cases hB0
  refine⟨rs,s4 _ _ hD',KW ?_,dB (sm.trans s4) hD,rs++[.ref B],aG,?_⟩
  ·rw[hts.length,aJ,bJ];omega
  ·rw[iY est,aW];exact Paired.snoc (UJ.upd (hts.same s4)) ⟨B,rfl,hBD,by rw[bK hBD];exact hB⟩
 ·obtain⟨sm,rs,hD',hts⟩:=h;have e0:(qG p).length=p.length:=aJ _;rw[e0,cN]at hts;have htot:kE [47] (p.map Vatwva.stepText)≤11 * (p.map fun _=>1).sum:=wZ fun x hx'=>by have:=SZ (hs x hx');show _+1≤_;omega
  have hone:(p.map fun _=>1).sum=p.length:=by
   clear hs htot hts hn hp e0 k;induction p with
   | nil=>rfl
   | cons x p ih=>rw[aP,dU,ih,aK];omega
  have hjl:=pF [47] (p.map Vatwva.stepText) p.length;rw[←aJ (as:=p) (f:=Vatwva.stepText),cN]at hjl;refine⟨D,rs,_,[47],by rw[ZG];rfl,hD',hts.ts,by omega,by decide,fun A2 H2 s2 hA2 g2=>?_⟩;refine⟨A1,A2,_,_,rfl,rfl,s2 _ _ (sm _ _ g1),g2,big (by rw[bV,bV];show 1+_≤_;omega),fun A3 hA3=>?_⟩;have sF:=(s1.trans sm).trans s2;refine k A3 _ (sF.trans (aZ.upd hA3)) (dW.fresh sF hA3) ?_;rw[aG,←eN,LO]
def SR (K:aB):Sp:=fun vs H Q _=>∃(d:rF) (y:V),vs=[xS d.form,y]∧UI K H y d∧d.ok=true∧dW H d.text Q
theorem Zh:¬V.str "name"=V.str "place":=by decide
theorem Zj:¬V.str "value"=V.str "place":=by decide
theorem Zi:¬V.str "value"=V.str "name":=by decide
theorem YU {d:rF} (h:d.ok=true):d.text.length≤6000:=by
 cases d with
 | place n=>exact bI (VM.mM 9 n (gP (of_decide_eq_true h) (by decide))) (by decide)
 | name n=>exact bI (rK h) (by decide)
 | value v=>obtain⟨g,c,_⟩:=VM.dR.mp h;have:=wH g;have c:Vatwva.count v≤60:=c;show(Vatwva.valueText v).length≤_;omega
theorem RX (T:iJ K mg a):gV P w K mg base 16 "detail_text" ["form","detail"] (SR K):=by
 refine kI T.f_detail_text ["form","detail"] fun vs H Q E h=>?_;obtain⟨d,y,rfl,hy,hd,k⟩:=h;refine⟨rfl,fun nd _ _ _ _ _ hr=>?_⟩;obtain⟨u1,hm1,ru1⟩:=T.c_PLACE;obtain⟨u2,hm2,ru2⟩:=T.c_NAME;refine⟨_,aI (fA (dA qF (pv 0) (dM rfl hm1 ru1) (dJ _)) (aN (bG (bB (fK T) hr.m ⟨rfl,rfl,rfl⟩ (aA (lK sW rfl T.n_str TV (aA (pv 1) aD)) aD)))) cY) (aI (fA (dA qF (pv 0) (dM rfl hm2 ru2) (dJ _)) (aN (bG (bB (fK T) hr.m ⟨rfl,rfl,rfl⟩ (aA (pv 1) aD)))) cY) (aN (bG (bB (uQ T 6) hr ⟨rfl,rfl,rfl⟩ (aA (pv 1) aD))))),?_⟩;have hlen:=YU hd;cases d with
 | place n=>cases(show y=.int (n:Nat)from hy);refine⟨_,rfl,rfl,_,rfl,pE (decide_eq_true rfl) ⟨_,rfl,_,rfl,EY (of_decide_eq_true hd),Vatwva.decimal n,by rw[yE];rfl,?_,k⟩⟩;have:(Vatwva.decimal n).length≤6000:=hlen;omega
 | name n=>cases(show y=.str (bT n)from hy);refine⟨_,rfl,rfl,_,rfl,mP (decide_eq_false Zh) ⟨_,rfl,rfl,_,rfl,pE (decide_eq_true rfl) ⟨_,rfl,n,rfl,?_,k⟩⟩⟩;have:n.length≤6000:=hlen;omega
 | value v=>obtain⟨g,c,d⟩:=VM.dR.mp hd;have c:Vatwva.count v≤60:=c;exact⟨_,rfl,rfl,_,rfl,mP (decide_eq_false Zj) ⟨_,rfl,rfl,_,rfl,mP (decide_eq_false Zi) ⟨_,rfl,y,v,rfl,hy,g.mono (by decide),d,by omega,k⟩⟩⟩
theorem Kf (h:Tc K H d e):∃ys,fE K H d ys∧gY (UI K H) ys (VM.eW e):=by
 cases e with
 | set p v=>obtain⟨x,h1,h2⟩:=h;exact⟨_,h1,.cons h2 .nil⟩
 | put p i v=>obtain⟨x,h1,h2⟩:=h;exact⟨_,h1,.cons rfl (.cons h2 .nil)⟩
 | take p i=>exact⟨_,h,.cons rfl .nil⟩
 | move p i j=>exact⟨_,h,.cons rfl (.cons rfl .nil)⟩
 | add p i n v=>obtain⟨x,h1,h2⟩:=h;exact⟨_,h1,.cons rfl (.cons rfl (.cons h2 .nil))⟩
 | drop p n=>exact⟨_,h,.cons rfl .nil⟩
 | rename p n m=>exact⟨_,h,.cons rfl (.cons rfl .nil)⟩
theorem IB (e:gE):Vatwvc.wordsOfEdit e=mF [32] (VM.iH e::Vatwva.pathText (Vatwvc.pathIn e)::(VM.eW e).map rF.text):=by rw[VM.IA];cases e<;>simp[VM.eW,VM.jU,mF,rF.text]
theorem Fv (e:gE):(VM.iH e).length≤10:=by
 cases e
 ·show(Vatwva.ascii "set").length≤10;decide
 ·show(Vatwva.ascii "put").length≤10;decide
 ·show(Vatwva.ascii "take").length≤10;decide
 ·show(Vatwva.ascii "move").length≤10;decide
 ·show(Vatwva.ascii "add").length≤10;decide
 ·show(Vatwva.ascii "drop").length≤10;decide
 ·show(Vatwva.ascii "rename").length≤10;decide
def Ao (a:mI) (K:aB):Sp:=fun vs H Q _=>∃(ep:aQ) (e:gE),vs=[.ref ep]∧Ca a K H ep e∧Vatwvc.isEdit e=true∧(Vatwvc.pathIn e).length≤6000∧dW H (Vatwvc.wordsOfEdit e) Q
theorem Qi (e:gE):(VM.eW e).length≤3:=by cases e<;>simp[VM.eW]
theorem WG (e:gE):((VM.eW e).map fun _=>1).sum≤3:=by cases e<;>simp[VM.eW]
theorem Ee (h:p.all Vatwvc.isStep=true) (hn:p.length≤6000):(Vatwva.pathText p).length≤70000:=by
 rw[LO];rw[cD]at h;have htot:kE [47] (p.map Vatwva.stepText)≤11 * (p.map fun _=>1).sum:=wZ fun x hx'=>by have:=SZ (h x hx');show _+1≤_;omega
 have hone:(p.map fun _=>1).sum=p.length:=by
  clear h htot hn;induction p with
  | nil=>rfl
  | cons x p ih=>rw[aP,dU,ih,aK];omega
 have hjl:=pF [47] (p.map Vatwva.stepText) p.length;rw[←aJ (as:=p) (f:=Vatwva.stepText),cN]at hjl;rw[aC];show 1+_≤_;omega
theorem Paired.get2 {α β:Type} {R:α→β→Prop} {xs:List α} {ys:List β} (h:gY R xs ys):∀{j:Nat} {x:α} {y:β},xs[j]?=some x→ys[j]?=some y→R x y:=by intro j x y h1 h2;obtain⟨y',e,r⟩:=Paired.at h h1;rw[h2]at e;cases e;exact r
theorem JU (T:iJ K mg a) (B:sI P w K mg a):gV P w K mg base 17 "edit_text" ["edit"] (Ao a K):=by
 refine kI T.f_edit_text ["edit","words","form","detail"] fun vs H Q E h=>?_;obtain⟨ep,e,rfl,he,hok,hn,k⟩:=h;refine⟨rfl,fun nd _ _ _ _ _ hr=>?_⟩;refine⟨_,aI (cM (i:=1) nd rfl (bP rfl) (eJ (aA (bB (fK T) hr.m ⟨rfl,rfl,rfl⟩ (aA (cJ (pv 0) rfl) aD)) (aA (bB (ZM T) hr.m ⟨rfl,rfl,rfl⟩ (aA (cJ (pv 0) rfl) aD)) aD)))) (aI (pI (gH ⟨rfl,rfl,rfl⟩) rfl (Ac (by rfl) T.n_zip (aA (BE (dM (v:=.ref a.dFORMS) (by rfl) T.d_FORMS rfl) (cJ (pv 0) rfl) (fun _ _=>rfl)) (aA (cJ (pv 0) rfl) aD))) (HS (n:=2) (by rfl) (lC (eY (i:=2) nd rfl (bP rfl)) (lC (eY (i:=3) nd rfl (bP rfl)) BF))) (aN (dN (nG bF bR bS gF (pv 1) (aA (bB (RX T) hr ⟨rfl,rfl,rfl⟩ (aA (pv 2) (aA (pv 3) aD))) aD))))) (aN (bG (bB (FA T) hr.m ⟨rfl,rfl,rfl⟩ (aA (pv 1) (aA dZ aD)))))),?_⟩;rw[VM.zM,aE]at hok;obtain⟨dx,pp,d,e1,e2,e3⟩:=he;obtain⟨ys,e4,e5⟩:=Kf e3;obtain⟨kvs,kd,tab⟩:=LG B;obtain⟨q,hval,hq⟩:=(tab (VM.iH e)).1 _ (VM.JI e);have hwl:=Fv e;have hpl:=Ee hok.1 hn;have hdl:=Qi e;refine⟨_,rfl,ep,_,dx,_,_,rfl,e1,T.q_Edit,T.na_Edit_word,rfl,VM.iH e,by rw[KL];rfl,by omega,fun A1 H1 s1 hA1 g1=>?_⟩;refine⟨_,rfl,ep,_,dx,_,_,rfl,s1 _ _ e1,T.q_Edit,T.na_Edit_path,rfl,pp,_,rfl,s1.sqT e2,hok.1,hn,fun A2 H2 s2 hA2 g2=>?_⟩;refine⟨(by show 2≤aU;decide),fun D hD=>?_⟩;have s12:=s1.trans s2;have sD:aZ H2 (upd H2 D (.lst [.ref A1,.ref A2])):=aZ.upd hD;have hDH:=dW.fresh s12 hD;have n1:A1≠D:=fun z=>by rw[z]at g1;rw[s2 _ _ g1]at hD;cases hD
 have n2:A2≠D:=fun z=>by rw[z]at g2;rw[g2]at hD;cases hD
 have sF:=s12.trans sD;have hyl:=e5.length;refine⟨_,rfl,ep,_,dx,_,_,rfl,sF _ _ e1,T.q_Edit,T.na_Edit_word,rfl,_,kvs,.inr (bT (VM.iH e)),.ref q,rfl,kd,by rw[KL];rfl,hval,_,rfl,ep,_,dx,_,_,rfl,sF _ _ e1,T.q_Edit,T.na_Edit_details,rfl,q,d,_,_,rfl,hq _,sF.sqT e4,Ct (xs:=((VM.eW e).map rF.form).map xS) (ys:=ys) (by rw[aJ,aJ];exact hyl.symm) (fun i σ H'=>aZ H H'∧∃rs s2 s3,σ=[some (.ref ep),some (.ref D),s2,s3]∧H' D=some (.lst rs)∧rs.length=i+2∧UJ H' D rs (VM.iH e::Vatwva.pathText (Vatwvc.pathIn e)::((VM.eW e).take i).map rF.text)) ⟨sF,[.ref A1,.ref A2],none,none,rfl,aG,rfl,.cons ⟨A1,rfl,n1,by rw[bK n1];exact s2 _ _ g1⟩ (.cons ⟨A2,rfl,n2,by rw[bK n2];exact g2⟩ .nil)⟩ (fun i σ H' _ h=>⟨hq _,h.1.sqT e4⟩) ?_ ?_⟩
 ·rintro i z y t' σ H' hz hy ht' ⟨sm,rs,s2',s3',rfl,hD',hrl,hts⟩;rw[bX,bX]at hz;obtain⟨fm,efm,rfl⟩:=aO.mp hz;obtain⟨dt,edt,rfl⟩:=aO.mp efm;have hil:=(aS.mp edt).1;have hdt:=Paired.get2 e5 hy edt;have sT:aZ H' (upd H' t' (.tup [xS dt.form,y])):=aZ.upd ht';refine⟨t',_,rfl,.of' aG,rfl,_,_,rfl,_,_,rfl,rfl,?_⟩;refine⟨_,rfl,.inl ⟨rfl,_,gX.of (sT _ _ hD')⟩,_,rfl,_,rfl,dt,y,rfl,UI.tups (sm.trans sT).tups hdt,cD.mp hok.2 dt (bA edt),fun B H4 s4 hB0 hB=>?_⟩;have hBD:B≠D:=fun z=>by rw[z,sT _ _ hD']at hB0;cases hB0
  refine⟨D,_,_,rfl,rfl,s4 _ _ (sT _ _ hD'),small (by omega),dB (sm.trans (sT.trans s4)) hDH,rs++[.ref B],_,_,rfl,aG,by rw[aC,hrl];rfl,?_⟩;rw[iY edt,aW];exact Paired.snoc (UJ.upd (hts.same (sT.trans s4))) ⟨B,rfl,hBD,by rw[bK hBD];exact hB⟩
 ·rintro σ H' ⟨sm,rs,s2',s3',rfl,hD',hrl,hts⟩;have e0:(((VM.eW e).map rF.form).map xS).length=(VM.eW e).length:=by rw[aJ,aJ]
  rw[e0,cN]at hts;refine⟨_,rfl,D,rs,_,[32],by rw[LJ];rfl,hD',hts.ts,?_,by decide,?_⟩
  ·have hd3:kE [32] ((VM.eW e).map rF.text)≤6001 * ((VM.eW e).map fun _=>1).sum:=wZ fun x hx'=>by have:=YU (cD.mp hok.2 x hx');show _+1≤_;omega
   have hone:=WG e;have e6:kE [32] (VM.iH e::Vatwva.pathText (Vatwvc.pathIn e)::(VM.eW e).map rF.text)=(VM.iH e).length+1+((Vatwva.pathText (Vatwvc.pathIn e)).length+1+kE [32] ((VM.eW e).map rF.text)):=by unfold kE;rw[aP,dU,aP,dU];rfl
   rw[e6];omega
  ·rw[←IB];exact dW.on k sm
def YJ (a:mI) (K:aB) (H:Hp) (b:gE) (Q:VK):Prop:=∀H' ep,aZ H H'→Ca a K H' ep b→Q (.ref ep) H'
def yC (is:gE→Bool) (a:mI) (K:aB):Sp:=fun vs H Q E=>∃(ep:aQ) (y:V) (e b:gE) (u:fT),vs=[.ref ep,y]∧is e=true∧Ca a K H ep e∧oB K H y u∧Vatwva.count u≤5000∧(∃z,Vatwvc.doneAt e u=some z)∧VM.YN e u=some b∧YJ a K H b Q
theorem AY (k:YJ a K H b Q) (s:aZ H H1) (hx:H1 x=none) (hdx:H1 dx=none) (hw:wd=GQ b) (hp:fE K H1 pp (qG (Vatwvc.pathIn b))) (hd:Tc K H1 td b):
  Q (.ref x) (upd (upd (upd (upd (upd H1 dx (.own x)) x (.ins a.cEdit dx [])) x (.ins a.cEdit dx [("word",.str wd)])) x (.ins a.cEdit dx [("word",.str wd),("path",.ref pp)])) x (.ins a.cEdit dx [("word",.str wd),("path",.ref pp),("details",.ref td)])):=by
 have s7:=vB (a:=a) (y1:=.str wd) (y2:=.ref pp) (y3:=.ref td) hx hdx;exact k _ x (s.trans s7) ⟨dx,pp,td,by rw[aG,hw],s7.sqT hp,hd.tups s7.tups⟩
theorem RV (T:iJ K mg a):gV P w K mg base 3 "back_of_set" ["edit","here"] (yC Rb a K):=by
 refine kI T.f_back_of_set ["edit","here"] fun vs H Q E h=>?_;obtain⟨ep,y,e,b,u,rfl,hw,he,hy,hc,⟨zd,hz⟩,hb,k⟩:=h;refine⟨rfl,fun nd _ _ _ _ _ hr=>?_⟩;obtain⟨dx,pp,d,e1,e2,e3⟩:=he;refine⟨_,aN (bG (nR (qX T) T.k_Edit hr.m ⟨rfl,rfl,rfl⟩ (aA dZ (aA (cJ (pv 0) rfl) (aA (iP (aA (pv 1) aD)) aD))))),?_⟩;cases e with
 | set p v=>cases hb;refine⟨_,rfl,ep,_,dx,_,_,rfl,e1,T.q_Edit,T.na_Edit_path,rfl,_,rfl,(by show 1≤aU;decide),fun td htd=>fun x2 dx2 hx2 hdx2 ne2=>⟨x2,dx2,_,_,_,rfl,aG,rfl,?_⟩⟩;have s1:=aZ.upd (o:=.tup [y]) htd;exact AY k s1 hx2 hdx2 rfl (s1.sqT e2) ⟨y,.of' aG,hy.tups s1.tups⟩
 | _=>cases hw
theorem RU (T:iJ K mg a):gV P w K mg base 3 "back_of_put" ["edit","here"] (yC Ra a K):=by
 refine kI T.f_back_of_put ["edit","here"] fun vs H Q E h=>?_;obtain⟨ep,y,e,b,u,rfl,hw,he,hy,hc,⟨zd,hz⟩,hb,k⟩:=h;refine⟨rfl,fun nd _ _ _ _ _ hr=>?_⟩;obtain⟨dx,pp,d,e1,e2,e3⟩:=he;refine⟨_,aN (bG (nR (qX T) T.k_Edit hr.m ⟨rfl,rfl,rfl⟩ (aA dZ (aA (cJ (pv 0) rfl) (aA (iP (aA (fL fQ (cJ (pv 0) rfl) cA (fun _ _=>rfl)) aD)) aD))))),?_⟩;cases e with
 | put p i v=>cases hb;obtain⟨z,g1,g2⟩:=e3;refine⟨_,rfl,ep,_,dx,_,_,rfl,e1,T.q_Edit,T.na_Edit_path,rfl,_,rfl,ep,_,dx,_,_,rfl,e1,T.q_Edit,T.na_Edit_details,rfl,d,_,_,_,rfl,rfl,g1,rfl,(by show 1≤aU;decide),fun td htd=>fun x2 dx2 hx2 hdx2 ne2=>⟨x2,dx2,_,_,_,rfl,aG,rfl,?_⟩⟩;have s1:=aZ.upd (o:=.tup [.int (i:Nat)]) htd;exact AY k s1 hx2 hdx2 rfl (s1.sqT e2) (show fE K _ td [.int (i:Nat)]from .of' aG)
 | _=>cases hw
theorem NS (T:iJ K mg a):gV P w K mg base 3 "back_of_move" ["edit","here"] (yC Ht a K):=by
 refine kI T.f_back_of_move ["edit","here"] fun vs H Q E h=>?_;obtain⟨ep,y,e,b,u,rfl,hw,he,hy,hc,⟨zd,hz⟩,hb,k⟩:=h;refine⟨rfl,fun nd _ _ _ _ _ hr=>?_⟩;obtain⟨dx,pp,d,e1,e2,e3⟩:=he;refine⟨_,aN (bG (nR (qX T) T.k_Edit hr.m ⟨rfl,rfl,rfl⟩ (aA dZ (aA (cJ (pv 0) rfl) (aA (iP (aA (fL fQ (cJ (pv 0) rfl) cA (fun _ _=>rfl)) (aA (fL fQ (cJ (pv 0) rfl) cA (fun _ _=>rfl)) aD))) aD))))),?_⟩;cases e with
 | move p i j=>cases hb;have e3:fE K H d [.int (i:Nat),.int (j:Nat)]:=e3;refine⟨_,rfl,ep,_,dx,_,_,rfl,e1,T.q_Edit,T.na_Edit_path,rfl,_,rfl,ep,_,dx,_,_,rfl,e1,T.q_Edit,T.na_Edit_details,rfl,d,_,_,_,rfl,rfl,e3,rfl,_,rfl,ep,_,dx,_,_,rfl,e1,T.q_Edit,T.na_Edit_details,rfl,d,_,_,_,rfl,rfl,e3,rfl,(by show 2≤aU;decide),fun td htd=>fun x2 dx2 hx2 hdx2 ne2=>⟨x2,dx2,_,_,_,rfl,aG,rfl,?_⟩⟩;have s1:=aZ.upd (o:=.tup [.int (j:Nat),.int (i:Nat)]) htd;exact AY k s1 hx2 hdx2 rfl (s1.sqT e2) (show fE K _ td [.int (j:Nat),.int (i:Nat)]from .of' aG)
 | _=>cases hw
theorem JS (T:iJ K mg a):gV P w K mg base 3 "back_of_rename" ["edit","here"] (yC QO a K):=by
 refine kI T.f_back_of_rename ["edit","here"] fun vs H Q E h=>?_;obtain⟨ep,y,e,b,u,rfl,hw,he,hy,hc,⟨zd,hz⟩,hb,k⟩:=h;refine⟨rfl,fun nd _ _ _ _ _ hr=>?_⟩;obtain⟨dx,pp,d,e1,e2,e3⟩:=he;refine⟨_,aN (bG (nR (qX T) T.k_Edit hr.m ⟨rfl,rfl,rfl⟩ (aA dZ (aA (cJ (pv 0) rfl) (aA (iP (aA (fL fQ (cJ (pv 0) rfl) cA (fun _ _=>rfl)) (aA (fL fQ (cJ (pv 0) rfl) cA (fun _ _=>rfl)) aD))) aD))))),?_⟩;cases e with
 | rename p n m=>cases hb;have e3:fE K H d [.str (bT n),.str (bT m)]:=e3;refine⟨_,rfl,ep,_,dx,_,_,rfl,e1,T.q_Edit,T.na_Edit_path,rfl,_,rfl,ep,_,dx,_,_,rfl,e1,T.q_Edit,T.na_Edit_details,rfl,d,_,_,_,rfl,rfl,e3,rfl,_,rfl,ep,_,dx,_,_,rfl,e1,T.q_Edit,T.na_Edit_details,rfl,d,_,_,_,rfl,rfl,e3,rfl,(by show 2≤aU;decide),fun td htd=>fun x2 dx2 hx2 hdx2 ne2=>⟨x2,dx2,_,_,_,rfl,aG,rfl,?_⟩⟩;have s1:=aZ.upd (o:=.tup [.str (bT m),.str (bT n)]) htd;exact AY k s1 hx2 hdx2 rfl (s1.sqT e2) (show fE K _ td [.str (bT m),.str (bT n)]from .of' aG)
 | _=>cases hw
theorem RT (T:iJ K mg a):gV P w K mg base 3 "back_of_add" ["edit","here"] (yC Qz a K):=by
 refine kI T.f_back_of_add ["edit","here"] fun vs H Q E h=>?_;obtain⟨ep,y,e,b,u,rfl,hw,he,hy,hc,⟨zd,hz⟩,hb,k⟩:=h;refine⟨rfl,fun nd _ _ _ _ _ hr=>?_⟩;obtain⟨dx,pp,d,e1,e2,e3⟩:=he;refine⟨_,aN (bG (nR (qX T) T.k_Edit hr.m ⟨rfl,rfl,rfl⟩ (aA dZ (aA (cJ (pv 0) rfl) (aA (iP (aA (fL fQ (cJ (pv 0) rfl) cA (fun _ _=>rfl)) aD)) aD))))),?_⟩;cases e with
 | add p i n v=>cases hb;obtain⟨z,g1,g2⟩:=e3;refine⟨_,rfl,ep,_,dx,_,_,rfl,e1,T.q_Edit,T.na_Edit_path,rfl,_,rfl,ep,_,dx,_,_,rfl,e1,T.q_Edit,T.na_Edit_details,rfl,d,_,_,_,rfl,rfl,g1,rfl,(by show 1≤aU;decide),fun td htd=>fun x2 dx2 hx2 hdx2 ne2=>⟨x2,dx2,_,_,_,rfl,aG,rfl,?_⟩⟩;have s1:=aZ.upd (o:=.tup [.str (bT n)]) htd;exact AY k s1 hx2 hdx2 rfl (s1.sqT e2) (show fE K _ td [.str (bT n)]from .of' aG)
 | _=>cases hw
theorem NT (T:iJ K mg a):gV P w K mg base 3 "back_of_take" ["edit","here"] (yC Hu a K):=by
 refine kI T.f_back_of_take ["edit","here","place"] fun vs H Q E h=>?_;obtain⟨ep,y,e,b,u,rfl,hw,he,hy,hc,⟨zd,hz⟩,hb,k⟩:=h;refine⟨rfl,fun nd _ _ _ _ _ hr=>?_⟩;obtain⟨dx,pp,d,e1,e2,e3⟩:=he;refine⟨_,aI (cM (i:=2) nd rfl (bP rfl) (fL fQ (cJ (pv 0) rfl) cA (fun _ _=>rfl))) (aN (bG (nR (qX T) T.k_Edit hr.m ⟨rfl,rfl,rfl⟩ (aA dZ (aA (cJ (pv 0) rfl) (aA (iP (aA (pv 2) (aA (fL fQ (bB (eR T) hr.m ⟨rfl,rfl,rfl⟩ (aA (pv 1) aD)) (pv 2) (fun _ _=>rfl)) aD))) aD)))))),?_⟩;cases e with
 | take p i=>have e3:fE K H d [.int (i:Nat)]:=e3;have hb:((Vatwva.itemsOf u)[i]?).map (fun w=>Edit.put p i w)=some b:=hb;obtain⟨v1,hv1,rfl⟩:=aO.mp hb;obtain⟨p',o,c,zs,rfl,f1,f2,f3⟩:=hy.parts;obtain⟨y1,hy1,hv2⟩:=fW.getR f3 hv1;refine⟨_,rfl,ep,_,dx,_,_,rfl,e1,T.q_Edit,T.na_Edit_details,rfl,d,_,_,_,rfl,rfl,e3,rfl,_,rfl,ep,_,dx,_,_,rfl,e1,T.q_Edit,T.na_Edit_path,rfl,_,rfl,_,rfl,p',_,_,rfl,f1,rfl,_,rfl,c,zs,_,y1,rfl,rfl,f2,fZ hy1,(by show 2≤aU;decide),fun td htd=>fun x2 dx2 hx2 hdx2 ne2=>⟨x2,dx2,_,_,_,rfl,aG,rfl,?_⟩⟩;have s1:=aZ.upd (o:=.tup [.int (i:Nat),y1]) htd;exact AY k s1 hx2 hdx2 rfl (s1.sqT e2) ⟨y1,.of' aG,hv2.tups s1.tups⟩
 | _=>cases hw
theorem NR (T:iJ K mg a):gV P w K mg base 4 "back_of_drop" ["edit","here"] (yC Hr a K):=by
 refine kI T.f_back_of_drop ["edit","here","name","place"] fun vs H Q E h=>?_;obtain⟨ep,y,e,b,u,rfl,hw,he,hy,hc,⟨zd,hz⟩,hb,k⟩:=h;refine⟨rfl,fun nd _ _ _ _ _ hr=>?_⟩;obtain⟨dx,pp,d,e1,e2,e3⟩:=he;refine⟨_,aI (cM (i:=2) nd rfl (bP rfl) (fL fQ (cJ (pv 0) rfl) cA (fun _ _=>rfl))) (aI (cM (i:=3) nd rfl (bP rfl) (bB (sZ T) hr ⟨rfl,rfl,rfl⟩ (aA (pv 1) (aA (pv 2) aD)))) (aN (bG (nR (qX T) T.k_Edit hr.m ⟨rfl,rfl,rfl⟩ (aA dZ (aA (cJ (pv 0) rfl) (aA (iP (aA (pv 3) (aA (pv 2) (aA (fL fQ (bB (eR T) hr.m ⟨rfl,rfl,rfl⟩ (aA (pv 1) aD)) (pv 3) (fun _ _=>rfl)) aD)))) aD))))))),?_⟩;cases e with
 | drop p n=>
  have e3:fE K H d [.str (bT n)]:=e3;have hb:(Vatwva.valueAt n (Vatwva.kidsOf u)).map (fun w=>Edit.add p (Vatwvc.placeOf (Vatwva.kidsOf u) n) n w)=some b:=hb;obtain⟨v1,hv1,rfl⟩:=aO.mp hb;have hmem:=VM.BQ hv1;have hf:Vatwvc.hasField (Vatwva.kidsOf u) n=true:=VM.jN.mpr ⟨_,hmem,rfl⟩;obtain⟨A1,x1,B1,q1,q2,q3,q4,q5⟩:=JF hf;have hx1:x1.2=v1:=by have:((Vatwva.kidsOf u).find? fun x=>x.1 == n).map (fun x=>x.2)=some v1:=hv1;rw[q5]at this;exact cO this
  obtain⟨p',o,c,zs,rfl,f1,f2,f3⟩:=hy.parts;have hv3:(bD u)[Vatwvc.placeOf (Vatwva.kidsOf u) n]?=some v1:=by unfold bD;rw[bX,q3,q1,gM (aR _),mG,←hx1];rfl
  obtain⟨y1,hy1,hv2⟩:=fW.getR f3 hv3;refine⟨_,rfl,ep,_,dx,_,_,rfl,e1,T.q_Edit,T.na_Edit_details,rfl,d,_,_,_,rfl,rfl,e3,rfl,_,rfl,_,rfl,.ref p',u,n,rfl,hy,fun _ _=>?_,fun cn=>?_⟩
  ·refine⟨_,rfl,ep,_,dx,_,_,rfl,e1,T.q_Edit,T.na_Edit_path,rfl,_,rfl,_,rfl,_,rfl,p',_,_,rfl,f1,rfl,_,rfl,c,zs,_,y1,rfl,rfl,f2,fZ hy1,(by show 3≤aU;decide),fun td htd=>fun x2 dx2 hx2 hdx2 ne2=>⟨x2,dx2,_,_,_,rfl,aG,rfl,?_⟩⟩;have s1:=aZ.upd (o:=.tup [.int (Vatwvc.placeOf (Vatwva.kidsOf u) n:Nat),.str (bT n),y1]) htd;exact AY k s1 hx2 hdx2 rfl (s1.sqT e2) ⟨y1,.of' aG,hv2.tups s1.tups⟩
  ·obtain⟨hl,_⟩:=VM.dS.mp (VM.EQ hz);exact absurd ⟨hl,hf⟩ cn
 | _=>cases hw
theorem Mi (T:iJ K mg a) (B:sI P w K mg a) (e:gE):∃kvs f,xO P w K a.dBACKS kvs∧qJ kvs (.inr (GQ e))=some (.ref f)∧Te P w K mg base 4 (.ref f) (yC (Hs e) a K):=by
 obtain⟨f1,f2,f3,f4,f5,f6,f7,⟨h1,h2,h3,h4,h5,h6,h7⟩,kd⟩:=B.backs;cases e with
 | set p v=>exact⟨_,f1,kd,rfl,gV.fnv ((RV T).mono (by decide)) h1⟩
 | put p i v=>exact⟨_,f2,kd,rfl,gV.fnv ((RU T).mono (by decide)) h2⟩
 | take p i=>exact⟨_,f3,kd,rfl,gV.fnv ((NT T).mono (by decide)) h3⟩
 | move p i j=>exact⟨_,f4,kd,rfl,gV.fnv ((NS T).mono (by decide)) h4⟩
 | add p i n v=>exact⟨_,f5,kd,rfl,gV.fnv ((RT T).mono (by decide)) h5⟩
 | drop p n=>exact⟨_,f6,kd,rfl,gV.fnv ((NR T).mono (by decide)) h6⟩
 | rename p n m=>exact⟨_,f7,kd,rfl,gV.fnv ((JS T).mono (by decide)) h7⟩
theorem PR:∀(p:Vatwvc.Path) {v u:fT},VM.mJ v→Vatwva.atPath p v=some u→Vatwva.count u≤Vatwva.count v
 | [],v,u,_,h=>by cases h;exact aR _
 | s::p,v,u,o,h=>by
  rw[DD]at h;obtain⟨j,hj,h⟩:=bE.mp h;obtain⟨x,hx,h⟩:=bE.mp h;have hm:=bA hx;have o1:VM.mJ x:=by obtain⟨y,_,rfl⟩:=aX.mp hm;exact VM.mQ y (by assumption)
  have:=PR p o1 h;have:=wP o hm;omega
def SX (a:mI) (K:aB):Sp:=fun vs H Q E=>∃(ep:aQ) (y:V) (e b:gE) (v:fT),vs=[.ref ep,y]∧Ca a K H ep e∧oB K H y v∧Vatwva.count v≤5000∧Vatwvc.turned e v=some b∧YJ a K H b Q
theorem SD (T:iJ K mg a) (B:sI P w K mg a):gV P w K mg base 6 "turned_back" ["edit","value"] (SX a K):=by
 refine kI T.f_turned_back ["edit","value"] fun vs H Q E h=>?_;obtain⟨ep,y,e,b,v,rfl,he,hy,hc,hb,k⟩:=h;refine⟨rfl,fun nd _ _ _ _ _ hr=>?_⟩;refine⟨_,aN (bG (Ef (k:=4) ⟨rfl,rfl,rfl⟩ hr.m (BE (dM (v:=.ref a.dBACKS) (by rfl) T.d_BACKS rfl) (cJ (pv 0) rfl) (fun _ _=>rfl)) (aA (pv 0) (aA (bB (Dz T) hr ⟨rfl,rfl,rfl⟩ (aA (pv 1) (aA (cJ (pv 0) rfl) aD))) aD)))),?_⟩;obtain⟨kvs,fb,kd,hval,hfn⟩:=Mi (base:=base) T B e;obtain⟨dx,pp,d,e1,e2,e3⟩:=id he;rw[VM.LX]at hb;obtain⟨w1,ha,hb⟩:=bE.mp hb;obtain⟨u,hu,hb⟩:=bE.mp hb;obtain⟨x0,z,hx0,hz⟩:=VM.xQ _ (VM.nN.mp ha).1;rw[hu]at hx0;cases hx0;have hcu:=PR _ hy.1 hu;refine⟨_,rfl,ep,_,dx,_,_,rfl,e1,T.q_Edit,T.na_Edit_word,rfl,_,kvs,.inr (GQ e),.ref fb,rfl,kd,rfl,hval,_,⟨hfn⟩,_,rfl,_,rfl,_,rfl,ep,_,dx,_,_,rfl,e1,T.q_Edit,T.na_Edit_path,rfl,y,v,pp,_,rfl,hy,e2,fun u' y' hu' hy'=>?_,fun hn=>?_⟩
 ·rw[hu]at hu';cases hu';exact⟨ep,y',e,b,u,rfl,MJ e,he,hy',by omega,⟨z,hz⟩,hb,k⟩
 ·rw[hu]at hn;cases hn
def Gs (H:Hp) (ns:List Int) (Q:VK):Prop:=∀D H',aZ H H'→H D=none→H' D=some (.lst (ns.map V.int))→Q (.ref D) H'
def GD (l:List Nat):List Int:=l.map fun(n:Nat)=>(n:Int)
def Fd (K:aB):Sp:=fun vs H Q _=>∃(x:V) (v:fT),vs=[x]∧oB K H x v∧Vatwva.deep v≤6∧Vatwva.count v≤10000∧Gs H (GD [Vatwva.count v,Vatwva.deep v]) Q
theorem DS (T:iJ K mg a):gV P w K mg base 9 "measures" ["value"] (Fd K):=by refine kI T.f_measures ["value"] fun vs H Q E h=>?_;obtain⟨x,v,rfl,hx,hd,hc,k⟩:=h;refine⟨rfl,fun nd _ _ _ _ _ hr=>?_⟩;refine⟨_,aN (bG (eJ (aA (bB (kW T 6) hr ⟨rfl,rfl,rfl⟩ (aA (pv 0) aD)) (aA (bB (DO T 6) hr ⟨rfl,rfl,rfl⟩ (aA (pv 0) aD)) aD)))),?_⟩;refine⟨_,rfl,x,v,rfl,hx,hd,hc,fun H1 s1=>⟨_,rfl,x,v,rfl,hx.tups s1.tups,hd,hc,fun H2 s2=>⟨(by show 2≤aU;decide),fun D hD=>?_⟩⟩⟩;exact k D _ ((s1.trans s2).trans (aZ.upd hD)) (dW.fresh (s1.trans s2) hD) aG
def Fm (t:bW):List Int:=GD (eQ t)
def Iv:Sp:=fun vs H Q _=>∃(l:aQ) (t:bW),vs=[.ref l]∧H l=some (.lst (cU t))∧t.length≤1000000∧Gs H (Fm t) Q
theorem BB (T:iJ K mg a):gV P w K mg base 1 "counted" ["text"] Iv:=by refine kI T.f_counted ["text"] fun vs H Q E h=>?_;obtain⟨l,t,rfl,hl,hn,k⟩:=h;refine⟨rfl,fun nd _ _ _ _ _ hr=>?_⟩;refine⟨_,aN (bG (jZ uE (eJ (aA (cX cV rfl T.n_len cE (aA (pv 0) aD)) aD)) (pv 0))),?_⟩;refine⟨_,rfl,l,_,rfl,.inl (gX.of hl),(by show 1≤aU;decide),fun A1 hA1=>?_⟩;have s1:=aZ.upd (o:=.lst [.int ((cU t).length:Nat)]) hA1;refine⟨_,rfl,A1,l,_,_,rfl,rfl,aG,s1 _ _ hl,big (by rw[bV];show 1+_≤_;omega),fun A2 hA2=>?_⟩;refine k A2 _ (s1.trans (aZ.upd hA2)) (dW.fresh s1 hA2) ?_;rw[aG,bV];unfold Fm GD eQ cU;rw[aP,aP,cP,cP];rfl
def zQ (t:bW):List yK:=t.map fun b=>PyData.int (b.toNat:Int)
def kM (l:List (Name×fT)):List yK:=l.map fun x=>PyData.str (bT x.1)
def kS (l:Bool):Str:=if l then ("list":Str)else ("record":Str)
def eU:NN→List yK
 | .nil=>[]
 | .text _ t r=>.tuple [.str "text",.tuple (zQ t),.tuple []]::eU r
 | .num _ z r=>.tuple [.str "number",.int z,.tuple []]::eU r
 | .sub _ l k r=>.tuple [.str (kS l),.tuple (if l then []else kM (Vatwva.entries k)),.tuple (eU k)]::eU r
section
variable {K:aB} {H:Hp}
theorem Kh:∀t:bW,IR K H (cU t) (zQ t)
 | []=>.nil
 | b::t=>.cons (.int _) (Kh t)
theorem JC:∀l:List (Name×fT),IR K H (dQ l) (kM l)
 | []=>.nil
 | x::l=>.cons (.str _) (JC l)
theorem QA:∀{r:NN} {xs:List V},Cb K H r xs→IR K H xs (eU r)
 | .nil,xs,h=>by have h:xs=[]:=h;subst h;exact .nil
 | .text _ t r,xs,⟨a,b,c,ys,h1,h2,h3,h4,h5⟩=>by subst h1;exact .cons (.tup h2 (.cons (.str _) (.cons (.tup h3 (Kh t)) (.cons (.tup h4 .nil) .nil)))) (QA h5)
 | .num _ z r,xs,⟨a,c,ys,h1,h2,h3,h4⟩=>by subst h1;exact .cons (.tup h2 (.cons (.str _) (.cons (.int _) (.cons (.tup h3 .nil) .nil)))) (QA h4)
 | .sub _ l k r,xs,⟨a,b,c,ys,zs,h1,h2,h3,h4,h5,h6⟩=>by
  subst h1;refine .cons (.tup h2 (.cons (.str _) (.cons (.tup h3 ?_) (.cons (.tup h4 (QA h5)) .nil)))) (QA h6);cases l
  ·exact JC _
  ·exact .nil
end
theorem Cp:∀t u:bW,dD (zQ t) (zQ u)=true↔t=u
 | [],[]=>by simp[zQ,dD]
 | [],b::u=>by simp[zQ,dD]
 | b::t,[]=>by simp[zQ,dD]
 | b::t,c::u=>by have ih:=Cp t u;show(kG (.int _) (.int _) && dD (zQ t) (zQ u))=true↔_;rw[aE,ih,dE,kG,beq_iff_eq];refine and_congr ⟨fun h=>lU.mp (by omega),fun h=>by rw[h]⟩ NB
theorem ER:∀l m:List (Name×fT),dD (kM l) (kM m)=true↔l.map (fun x=>x.1)=m.map (fun x=>x.1)
 | [],[]=>by simp[kM,dD]
 | [],b::u=>by simp[kM,dD]
 | b::t,[]=>by simp[kM,dD]
 | b::t,c::u=>by have ih:=ER t u;show(kG (.str _) (.str _) && dD (kM t) (kM u))=true↔_;rw[aE,ih,aP,aP,dE,kG,beq_iff_eq];exact and_congr ⟨fun h=>uJ h,fun h=>by rw[h]⟩ NB
theorem Ed:∀{l m:List (Name×fT)},l.map (fun x=>x.1)=m.map (fun x=>x.1)→l.map (fun x=>x.2)=m.map (fun x=>x.2)→l=m
 | [],[],_,_=>rfl
 | [],_::_,h,_=>by cases h
 | _::_,[],h,_=>by cases h
 | x::l,y::m,h,g=>by rw[aP,aP,dE]at h g;rw[Ed h.2 g.2,show x=y from Prod.ext h.1 g.1]
theorem Xa (h:Vatwva.entries r=Vatwva.entries q):r=q:=by rw[←VM.gI r,←VM.gI q,h]
theorem Rm (h:VM.ok W false r=true):(Vatwva.entries r).map (fun x=>x.1)=(Vatwva.entries r).map fun _=>[]:=eO fun x hx=>by have:=((VM.HR r false).mp h x hx).1;simpa using this
theorem Vi (hk:VM.ok W (!l) k=true) (hk':VM.ok W (!l) k'=true)
  (ih:dD (eU k) (eU k')=true↔(Vatwva.entries k).map (fun x=>x.2)=(Vatwva.entries k').map fun x=>x.2):
  (dD (if l then []else kM (Vatwva.entries k)) (if l then []else kM (Vatwva.entries k'))=true∧dD (eU k) (eU k')=true)↔k=k':=by
 rw[ih];constructor
 ·rintro⟨h1,h2⟩;refine Xa (Ed ?_ h2);cases l
  ·exact(ER _ _).mp h1
  ·rw[Rm hk,Rm hk'];have:=congrArg sK h2;rw[aJ,aJ]at this;rw[List.map_const',List.map_const',this]
 ·rintro rfl;refine⟨?_,rfl⟩;cases l
  ·exact(ER _ _).mpr rfl
  ·rfl
theorem vZ (s s':Str) (d d' e e':yK) (r r':List yK):(dD (.tuple [.str s,d,e]::r) (.tuple [.str s',d',e']::r')=true)↔(s=s'∧kG d d'=true∧kG e e'=true)∧dD r r'=true:=by simp only[dD,kG,aE,beq_iff_eq,lA]
theorem QC (xs ys:List yK):(kG (.tuple xs) (.tuple ys)=true)↔dD xs ys=true:=by rw[kG]
theorem Qp:∀(r q:NN) (n m:Bool),VM.ok W n r=true→VM.ok W m q=true→(dD (eU r) (eU q)=true↔(Vatwva.entries r).map (fun x=>x.2)=(Vatwva.entries q).map fun x=>x.2):=by
 have k1:("text":Str)≠"number":=by decide
 have k2:∀l:Bool,("text":Str)≠kS l:=by decide
 have k3:∀l:Bool,("number":Str)≠kS l:=by decide
 have k4:∀l l':Bool,kS l=kS l'↔l=l':=by decide
 intro r;induction r with
 | nil=>intro q n m _ _;cases q<;>simp[eU,dD,Vatwva.entries]
 | text nm t r ih=>
  intro q n m h1 h2;simp only[VM.ok,aE]at h1;cases q with
  | nil=>simp[eU,dD,Vatwva.entries]
  | text nm' t' r'=>simp only[VM.ok,aE]at h2;simp only[eU,Vatwva.entries,aP,dE];rw[vZ,ih r' n m h1.2.2 h2.2.2,QC,QC,Cp];simp[dD,Vatwva.vText]
  | num nm' z' r'=>simp only[eU,Vatwva.entries,aP,dE];rw[vZ];simp[k1,Vatwva.vText,Vatwva.vNum]
  | sub nm' l' k' r'=>simp only[eU,Vatwva.entries,aP,dE];rw[vZ];have:=k2 l';simp[this,Vatwva.vText]
 | num nm z r ih=>
  intro q n m h1 h2;simp only[VM.ok,aE]at h1;cases q with
  | nil=>simp[eU,dD,Vatwva.entries]
  | text nm' t' r'=>simp only[eU,Vatwva.entries,aP,dE];rw[vZ];simp[k1.symm,Vatwva.vText,Vatwva.vNum]
  | num nm' z' r'=>simp only[VM.ok,aE]at h2;simp only[eU,Vatwva.entries,aP,dE];rw[vZ,ih r' n m h1.2.2 h2.2.2,QC];simp[dD,kG,Vatwva.vNum]
  | sub nm' l' k' r'=>simp only[eU,Vatwva.entries,aP,dE];rw[vZ];have:=k3 l';simp[this,Vatwva.vNum]
 | sub nm l k r ihk ih=>
  intro q n m h1 h2;simp only[VM.ok,aE]at h1;cases q with
  | nil=>simp[eU,dD,Vatwva.entries]
  | text nm' t' r'=>simp only[eU,Vatwva.entries,aP,dE];rw[vZ];have:=(k2 l).symm;simp[this,Vatwva.vText]
  | num nm' z' r'=>simp only[eU,Vatwva.entries,aP,dE];rw[vZ];have:=(k3 l).symm;simp[this,Vatwva.vNum]
  | sub nm' l' k' r'=>
   simp only[VM.ok,aE]at h2;simp only[eU,Vatwva.entries,aP,dE];rw[vZ,ih r' n m h1.2.2.2.2 h2.2.2.2.2,QC,QC,k4];refine and_congr ?_ NB;by_cases e:l=l'
   ·subst e;have:=Vi h1.2.2.2.1 h2.2.2.2.1 (ihk k' _ _ h1.2.2.2.1 h2.2.2.2.1);simp only[true_and,this,Vatwva.Row.sub.injEq,and_true]
   ·simp[e]
theorem Db:∀t:bW,fD (zQ t)=true
 | []=>rfl
 | b::t=>by show(tK (.int _) && fD (zQ t))=true;rw[Db t];rfl
theorem Sq (n:bW):PyData.strOk (bT n)=true:=by
 unfold PyData.strOk bT;rw[Array.all_eq_true];intro i hi;have hi':i < n.length:=by simpa using hi
 have:n[i].toNat < 256:=n[i].toNat_lt;simp;omega
theorem EX:∀l:List (Name×fT),fD (kM l)=true
 | []=>rfl
 | x::l=>by show(tK (.str _) && fD (kM l))=true;rw[EX l];exact(lA _).trans (Sq _)
theorem xT:∀r:NN,fD (eU r)=true
 | .nil=>rfl
 | .text _ t r=>by simp only[eU,fD,tK,Db,xT r];decide+kernel
 | .num _ z r=>by simp only[eU,fD,tK,xT r];decide+kernel
 | .sub _ l k r=>by
  cases l
  ·simp only[eU,fD,tK,xT r,xT k,gL,if_false,EX];decide+kernel
  ·simp only[eU,fD,tK,xT r,xT k,if_true];decide+kernel
theorem WF:∀t:bW,gJ (zQ t)=0
 | []=>rfl
 | b::t=>by show max (BW (.int _)) (gJ (zQ t))=0;rw[WF t];rfl
theorem AS:∀l:List (Name×fT),gJ (kM l)=0
 | []=>rfl
 | b::t=>by show max (BW (.str _)) (gJ (kM t))=0;rw[AS t];rfl
theorem zL:∀r:NN,gJ (eU r)≤2 * Vatwva.deep r
 | .nil=>aR _
 | .text _ t r=>by have:=zL r;simp only[eU,gJ,BW,WF,Vatwva.deep];omega
 | .num _ z r=>by have:=zL r;simp only[eU,gJ,BW,Vatwva.deep];omega
 | .sub _ l k r=>by
  have:=zL r;have:=zL k;have e:gJ (if l then []else kM (Vatwva.entries k))=0:=by cases l;exact AS _;rfl
  simp only[eU,gJ,BW,e,Vatwva.deep];omega
theorem Ea (h:oB K H x v):∃d,eU v=[d]∧Dp K H x d:=by
 have:=QA h.2;cases q:eU v with
 | nil=>rw[q]at this;cases this
 | cons d r=>
  rw[q]at this;cases this with
  | cons a b=>cases b;exact⟨d,rfl,a⟩
theorem Eb (h:VM.mJ v):(Vatwva.entries v).map (fun x=>x.2)=[v]:=by rw[show Vatwva.entries v=[([],v)]from h];rfl
theorem YZ {W:Nat} {K:aB} {H:Hp} {x y:V} {v w:fT} {Q:VK} (hx:oB K H x v) (hy:oB K H y w) (gv:VM.eB W v) (gw:VM.eB W w) (dv:Vatwva.deep v≤30) (dw:Vatwva.deep w≤30) (q:Q (.bl (decide (v=w))) H):Wz K x y H Q:=by
 obtain⟨d,e1,h1⟩:=Ea hx;obtain⟨e,e2,h2⟩:=Ea hy;have l1:=xT v;have l2:=xT w;have d1:=zL v;have d2:=zL w;have hq:=Qp v w false false gv.2 gw.2;rw[Eb gv.1,Eb gw.1]at hq;rw[e1]at l1 d1 hq;rw[e2]at l2 d2 hq;simp only[fD,lA]at l1 l2;simp only[gJ]at d1 d2;simp only[dD,lA,dE,and_true]at hq;refine⟨d,e,h1,h2,?_,?_,?_⟩
 ·show(d.canLay0 && decide (d.depth≤64))=true;rw[l1,decide_eq_true (by omega)];rfl
 ·show(e.canLay0 && decide (e.depth≤64))=true;rw[l2,decide_eq_true (by omega)];rfl
 ·have:kG d e=decide (v=w):=by
   by_cases c:v=w
   ·rw[decide_eq_true c];exact hq.mpr c
   ·rw[decide_eq_false c];exact hZ.mpr fun z=>c (hq.mp z)
  rw[this];exact q
theorem Wn {K:aB} {H:Hp} {a b:aQ} {l m:List (Name×fT)} {Q:VK} (ha:fE K H a (dQ l)) (hb:fE K H b (dQ m)) (q:Q (.bl (decide (l.map (fun x=>x.1)=m.map (fun x=>x.1)))) H):Wz K (.ref a) (.ref b) H Q:=by
 have hq:=ER l m;refine⟨.tuple (kM l),.tuple (kM m),.tup ha (JC l),.tup hb (JC m),?_,?_,?_⟩
 ·show(fD (kM l) && decide (gJ (kM l)+1≤64))=true;rw[EX,AS];rfl
 ·show(fD (kM m) && decide (gJ (kM m)+1≤64))=true;rw[EX,AS];rfl
 ·have:kG (.tuple (kM l)) (.tuple (kM m))=decide (l.map (fun x=>x.1)=m.map (fun x=>x.1)):=by
   rw[kG];by_cases c:l.map (fun x=>x.1)=m.map (fun x=>x.1)
   ·rw[decide_eq_true c];exact hq.mpr c
   ·rw[decide_eq_false c];exact hZ.mpr fun z=>c (hq.mp z)
  rw[this];exact q
def Cc (a:mI) (K:aB) (H:Hp) (p:aQ) (r:iN):Prop:=∃dx l rs,H p=some (.ins a.cRow dx [("edits",.ref l),("cost",.int (r.cost:Nat))])∧H l=some (.lst rs)∧xI a K H rs r.edits
def vO (a:mI) (K:aB) (H0 H:Hp) (p:aQ) (r:iN):Prop:=∃dx l rs,H p=some (.ins a.cRow dx [("edits",.ref l),("cost",.int (r.cost:Nat))])∧H l=some (.lst rs)∧xI a K H rs r.edits∧H0 l=none
theorem vO.at (h:vO a K H0 H p r):Cc a K H p r:=let ⟨dx,l,rs,h1,h2,h3,_⟩:=h;⟨dx,l,rs,h1,h2,h3⟩
def HD (a:mI) (K:aB) (H:Hp) (r:iN) (Q:VK):Prop:=∀H' p,aZ H H'→vO a K H H' p r→Q (.ref p) H'
def Ev (a:mI):Sp:=fun vs H Q _=>∃x dx y1 y2,vs=[.ref x,y1,y2]∧H x=some (.ins a.cRow dx [])∧Q .non (upd (upd H x (.ins a.cRow dx [("edits",y1)])) x (.ins a.cRow dx [("edits",y1),("cost",y2)]))
theorem LM (T:iJ K mg a):Vr P w K mg base 1 a.cRow ["self","edits","cost"] (Ev a):=by refine B7 T.mk_Row ["self","edits","cost"] fun vs H Q E h=>?_;obtain⟨x,dx,y1,y2,rfl,hx,k⟩:=h;refine⟨rfl,fun nd _ _ _ _ _ hr=>?_⟩;refine⟨_,aI (nT (pv 0) (pv 1) rfl) (aN (nT (pv 0) (pv 2) rfl)),?_⟩;exact⟨_,rfl,_,rfl,x,_,dx,_,rfl,hx,T.q_Row,T.na_Row_edits,(by show 0 < 1000;decide),_,rfl,_,rfl,x,_,dx,_,rfl,aG,T.q_Row,T.na_Row_cost,(by show 1 < 1000;decide),k⟩
theorem Ib {H H1:Hp} {r:iN} {Q:VK} {x dx l:aQ} {rs:List V} {c:Int} (k:HD a K H r Q) (s:aZ H H1) (hx:H1 x=none) (hdx:H1 dx=none) (hl:H1 l=some (.lst rs)) (hes:xI a K H1 rs r.edits) (hc:c=(r.cost:Nat)) (h0:H l=none):
  Q (.ref x) (upd (upd (upd (upd H1 dx (.own x)) x (.ins a.cRow dx [])) x (.ins a.cRow dx [("edits",.ref l)])) x (.ins a.cRow dx [("edits",.ref l),("cost",.int c)])):=by
 have s7:aZ H1 (upd (upd (upd (upd H1 dx (.own x)) x (.ins a.cRow dx [])) x (.ins a.cRow dx [("edits",.ref l)])) x (.ins a.cRow dx [("edits",.ref l),("cost",.int c)])):=dB (dB (dB (aZ.upd hdx) hx) hx) hx;subst hc;exact k _ x (s.trans s7) ⟨dx,l,rs,aG,s7 _ _ hl,hes.same s7,h0⟩
def EO:rF→Nat
 | .value v=>Vatwva.count v
 | _=>0
theorem Mq (e:gE):EJ e=1+((VM.eW e).map EO).sum:=by cases e<;>simp[EJ,VM.eW,EO]
def Am (a:mI) (K:aB):Sp:=fun vs H Q _=>∃(ep:aQ) (e:gE),vs=[.ref ep]∧Ca a K H ep e∧Vatwvc.isEdit e=true∧Pu H (EJ e:Nat) Q
theorem JT (T:iJ K mg a) (B:sI P w K mg a):gV P w K mg base 9 "edit_cost" ["edit"] (Am a K):=by
 refine kI T.f_edit_cost ["edit","cost","form","detail"] fun vs H Q E h=>?_;obtain⟨ep,e,rfl,he,hok,k⟩:=h;refine⟨rfl,fun nd _ _ _ _ _ hr=>?_⟩;obtain⟨u1,hm1,ru1⟩:=T.c_VALUE;refine⟨_,aI (cM (i:=1) nd rfl (bP rfl) cA) (aI (pI (gH ⟨rfl,rfl,rfl⟩) rfl (Ac (by rfl) T.n_zip (aA (BE (dM (v:=.ref a.dFORMS) (by rfl) T.d_FORMS rfl) (cJ (pv 0) rfl) (fun _ _=>rfl)) (aA (cJ (pv 0) rfl) aD))) (HS (n:=2) (by rfl) (lC (eY (i:=2) nd rfl (bP rfl)) (lC (eY (i:=3) nd rfl (bP rfl)) BF))) (aN (fA (dA qF (pv 2) (dM rfl hm1 ru1) (dJ _)) (aN (Sa (i:=1) nd rfl (bP rfl) (bB (kW T 6) hr.m ⟨rfl,rfl,rfl⟩ (aA (pv 3) aD)) Qy)) cY))) (aN (bG (pv 1)))),?_⟩;rw[VM.zM,aE]at hok;obtain⟨dx,pp,d,e1,e2,e3⟩:=he;obtain⟨ys,e4,e5⟩:=Kf e3;obtain⟨kvs,kd,tab⟩:=LG B;obtain⟨q,hval,hq⟩:=(tab (VM.iH e)).1 _ (VM.JI e);have hyl:=e5.length;have hfp:¬Qt NL.place=("value":Str):=by decide
 have hfn:¬Qt NL.name=("value":Str):=by decide
 refine⟨_,rfl,ep,_,dx,_,_,rfl,e1,T.q_Edit,T.na_Edit_word,rfl,_,kvs,.inr (bT (VM.iH e)),.ref q,rfl,kd,by rw[KL];rfl,hval,_,rfl,ep,_,dx,_,_,rfl,e1,T.q_Edit,T.na_Edit_details,rfl,q,d,_,_,rfl,hq _,e4,Ct (xs:=((VM.eW e).map rF.form).map xS) (ys:=ys) (by rw[aJ,aJ];exact hyl.symm) (fun i σ H'=>aZ H H'∧∃s2 s3,σ=[some (.ref ep),some (.int ((1+(((VM.eW e).take i).map EO).sum:Nat):Int)),s2,s3]) ⟨aZ.refl H,none,none,rfl⟩ (fun i σ H' _ h=>⟨hq _,h.1.sqT e4⟩) ?_ ?_⟩
 ·rintro i z y t' σ H' hz hy ht' ⟨sm,s2',s3',rfl⟩;rw[bX,bX]at hz;obtain⟨fm,efm,rfl⟩:=aO.mp hz;obtain⟨dt,edt,rfl⟩:=aO.mp efm;have hdt:=Paired.get2 e5 hy edt;have sT:aZ H' (upd H' t' (.tup [xS dt.form,y])):=aZ.upd ht';have esum:(1+(((VM.eW e).take (i+1)).map EO).sum)=(1+(((VM.eW e).take i).map EO).sum)+EO dt:=by rw[iY edt,aW,List.sum_append];simp;omega
  refine⟨t',_,rfl,.of' aG,rfl,_,_,rfl,_,_,rfl,rfl,?_⟩;cases dt with
  | place n=>refine⟨_,rfl,rfl,_,rfl,mP (decide_eq_false (by intro c;exact absurd (V.str.inj c) hfp)) ⟨sm.trans sT,some (xS (rF.place n).form),some y,by rw[esum];rfl⟩⟩
  | name n=>refine⟨_,rfl,rfl,_,rfl,mP (decide_eq_false (by intro c;exact absurd (V.str.inj c) hfn)) ⟨sm.trans sT,some (xS (rF.name n).form),some y,by rw[esum];rfl⟩⟩
  | value v=>have hv:Vatwva.isValue v=true:=cD.mp hok.2 (.value v) (bA edt);obtain⟨g,c,d⟩:=VM.dR.mp hv;have c:Vatwva.count v≤60:=c;have d:Vatwva.deep v≤6:=d;refine⟨_,rfl,rfl,_,rfl,pE (decide_eq_true rfl) ⟨_,rfl,_,rfl,y,v,rfl,oB.tups (sm.trans sT).tups hdt,d,by omega,fun H2 s2=>⟨_,_,rfl,rfl,(sm.trans sT).trans s2,some (xS (rF.value v).form),some y,by rw[esum,TU];rfl⟩⟩⟩
 ·rintro σ H' ⟨sm,s2',s3',rfl⟩;have e0:(((VM.eW e).map rF.form).map xS).length=(VM.eW e).length:=by rw[aJ,aJ]
  rw[e0,cN,←Mq];exact⟨_,rfl,k H' sm⟩
def SO (a:mI) (K:aB):Sp:=fun vs H Q _=>∃(p:aQ) (r:iN),vs=[.ref p]∧Cc a K H p r∧Q (.int (r.cost:Nat)) H
theorem RW (T:iJ K mg a):gV P w K mg base 1 "cost_of" ["row"] (SO a K):=by refine kI T.f_cost_of ["row"] fun vs H Q E h=>?_;obtain⟨p,r,rfl,⟨dx,l,rs,h1,h2,h3⟩,k⟩:=h;refine⟨rfl,fun nd _ _ _ _ _ hr=>?_⟩;exact⟨_,aN (bG (cJ (pv 0) rfl)),_,rfl,p,_,dx,_,_,rfl,h1,T.q_Row,T.na_Row_cost,rfl,k⟩
def Si (e:gE):iN:=⟨EJ e,[e]⟩
def Oi (a:mI) (K:aB):Sp:=fun vs H Q _=>∃(ep:aQ) (e:gE),vs=[.ref ep]∧Ca a K H ep e∧Vatwvc.isEdit e=true∧HD a K H (Si e) Q
theorem LN (T:iJ K mg a) (B:sI P w K mg a):gV P w K mg base 10 "row_of" ["edit"] (Oi a K):=by refine kI T.f_row_of ["edit"] fun vs H Q E h=>?_;obtain⟨ep,e,rfl,he,hok,k⟩:=h;refine⟨rfl,fun nd _ _ _ _ _ hr=>?_⟩;refine⟨_,aN (bG (nR (LM T) T.k_Row hr.m ⟨rfl,rfl,rfl⟩ (aA (eJ (aA (pv 0) aD)) (aA (bB (JT T B) hr ⟨rfl,rfl,rfl⟩ (aA (pv 0) aD)) aD)))),?_⟩;refine⟨_,rfl,(by show 1≤aU;decide),fun l hl=>?_⟩;have s1:=aZ.upd (o:=.lst [.ref ep]) hl;refine⟨_,rfl,ep,e,rfl,he.same s1,hok,fun H2 s2=>fun x dx hx hdx ne=>⟨x,dx,_,_,rfl,aG,rfl,?_⟩⟩;exact Ib k (s1.trans s2) hx hdx (s2 _ _ aG) (.cons ⟨ep,rfl,(he.same s1).same s2⟩ .nil) rfl hl
def Ff (a:mI) (K:aB):Sp:=fun vs H Q _=>∃(p q:aQ) (r t:iN),vs=[.ref p,.ref q]∧Cc a K H p r∧Cc a K H q t∧r.edits.length+t.edits.length≤100000∧HD a K H (Vatwvc.andThen r t) Q
theorem xX (T:iJ K mg a):gV P w K mg base 3 "row_then" ["row","later"] (Ff a K):=by refine kI T.f_row_then ["row","later"] fun vs H Q E h=>?_;obtain⟨p,q,r,t,rfl,⟨dx,l,rs,h1,h2,h3⟩,⟨dx',l',rs',g1,g2,g3⟩,hn,k⟩:=h;refine⟨rfl,fun nd _ _ _ _ _ hr=>?_⟩;refine⟨_,aN (bG (nR (LM T) T.k_Row hr.m ⟨rfl,rfl,rfl⟩ (aA (jZ uE (cJ (pv 0) rfl) (cJ (pv 1) rfl)) (aA (jZ uD (cJ (pv 0) rfl) (cJ (pv 1) rfl)) aD)))),?_⟩;refine⟨_,rfl,p,_,dx,_,_,rfl,h1,T.q_Row,T.na_Row_edits,rfl,_,rfl,q,_,dx',_,_,rfl,g1,T.q_Row,T.na_Row_edits,rfl,l,l',rs,rs',rfl,rfl,h2,g2,big (by rw[h3.length,g3.length];omega),fun L hL=>?_⟩;have s1:=aZ.upd (o:=.lst (rs++rs')) hL;refine⟨_,rfl,p,_,dx,_,_,rfl,s1 _ _ h1,T.q_Row,T.na_Row_cost,rfl,_,rfl,q,_,dx',_,_,rfl,s1 _ _ g1,T.q_Row,T.na_Row_cost,rfl,_,_,rfl,rfl,fun x dx hx hdx ne=>⟨x,dx,_,_,rfl,aG,rfl,?_⟩⟩;exact Ib k s1 hx hdx aG (Paired.appendP (h3.same s1) (g3.same s1)) (TU r.cost t.cost).symm hL
theorem Fu (s:Vatwva.Step) (e:gE):GQ (gU s e)=GQ e:=by cases e<;>rfl
theorem Mu (h:Tc K H d e):Tc K H d (gU s e):=by cases e<;>exact h
theorem ZY (p:Vatwvc.Path):(qG p).length=p.length:=aJ _
def Oh (a:mI) (K:aB):Sp:=fun vs H Q _=>∃(st:Vatwva.Step) (p:aQ) (r:iN),vs=[SY st,.ref p]∧Cc a K H p r∧r.edits.length≤100000∧(∀e∈r.edits,(Vatwvc.pathIn e).length≤10000)∧HD a K H (VM.CB st r) Q
theorem WX (T:iJ K mg a):gV P w K mg base 4 "led_by" ["step","row"] (Oh a K):=by
 refine kI T.f_led_by ["step","row","edits","edit"] fun vs H Q E h=>?_;obtain⟨st,p,r,rfl,⟨dx,l,rs,h1,h2,h3⟩,hn,hp,k⟩:=h;refine⟨rfl,fun nd _ _ _ _ _ hr=>?_⟩;refine⟨_,aI (Em (i:=2) rfl nd rfl rfl (Li rfl rfl rfl (by rfl)) (OK (cJ (pv 1) rfl)) (uU (own:=[("edit",3)]) (by rfl)) (fun _ _ _ _ _=>eY (i:=3) nd rfl (bP rfl)) (fun _ _ _ _ _=>xZ) (te:=XQ a.cEdit (KE a) [] E0 (XO (Vj K (Jb 3) "word") (XO (Zz (Vu K) (A7 (XO (Jb 0) Fj)) (Vj K (Jb 3) "path")) (XO (Vj K (Jb 3) "details") Fj)))) (fun _ _ _ _ _=>Uv (qX T) T.k_Edit hr.m (aA (cJ (pv 3) (by rfl)) (aA (jZ FB (iP (aA (pv 0) aD)) (cJ (pv 3) (by rfl))) (aA (cJ (pv 3) (by rfl)) aD))))) (aN (bG (nR (LM T) T.k_Row hr.m ⟨rfl,rfl,rfl⟩ (aA (pv 2) (aA (cJ (pv 1) rfl) aD))))),?_⟩;refine⟨_,rfl,p,_,dx,_,_,rfl,h1,T.q_Row,T.na_Row_edits,rfl,l,rfl,⟨_,gX.of h2⟩,fun D hD=>?_⟩;refine Ub (xs:=rs) (fun j H'=>aZ H H'∧∃qs,H' D=some (.lst qs)∧xI a K H' qs ((r.edits.take j).map (gU st))) ⟨aZ.upd hD,[],aG,.nil⟩ (fun j H' _ h=>gX.of (h.1 _ _ h2)) (fun j y H' hy h=>?_) (fun H' h=>?_)
 ·obtain⟨sm,qs,hD',hes⟩:=h;obtain⟨e,ee,ep,rfl,he⟩:=Paired.at h3 hy;have hm:=bA ee;obtain⟨dx',pp,d,e1,e2,e3⟩:=he.same sm;have hpl:=hp e hm;refine⟨rfl,sY (B:=aZ H H'∧∃qs,H' D=some (.lst qs)∧xI a K H' qs ((r.edits.take (j+1)).map (gU st))) ?_⟩;refine⟨_,rfl,ep,_,dx',_,_,rfl,e1,T.q_Edit,T.na_Edit_word,rfl,_,rfl,(by show 1≤aU;decide),fun t ht=>?_⟩;have sT:aZ H' (upd H' t (.tup [SY st])):=aZ.upd ht;refine⟨_,rfl,ep,_,dx',_,_,rfl,sT _ _ e1,T.q_Edit,T.na_Edit_path,rfl,t,pp,_,_,rfl,rfl,.of' aG,sT.sqT e2,big (by rw[ZY];show 1+_≤_;omega),fun q H2 s2 hq=>?_⟩;have sU:=sT.trans s2;refine⟨_,rfl,ep,_,dx',_,_,rfl,sU _ _ e1,T.q_Edit,T.na_Edit_details,rfl,fun x dx2 hx hdx2 ne=>⟨x,dx2,_,_,_,rfl,aG,rfl,?_⟩⟩;have s7:=vB (a:=a) (y1:=.str (GQ e)) (y2:=.ref q) (y3:=.ref d) hx hdx2;have sV:=sU.trans s7;refine⟨qs,sV _ _ hD',KW (by rw[hes.length,aJ,bJ];omega),dB (sm.trans sV) hD,qs++[.ref x],aG,?_⟩;rw[iY ee,aW];refine xI.updl (xs:=qs) (sV _ _ hD') (Paired.snoc (hes.same sV) ⟨x,rfl,dx2,q,d,?_,?_,?_⟩)
  ·rw[aG,Fu]
  ·rw[VM.tF];exact s7.sqT hq
  ·exact Mu ((e3.tups sU.tups).tups s7.tups)
 ·obtain⟨sm,qs,hD',hes⟩:=h;have e0:rs.length=r.edits.length:=h3.length;rw[e0,cN]at hes;refine⟨_,rfl,_,rfl,p,_,dx,_,_,rfl,sm _ _ h1,T.q_Row,T.na_Row_cost,rfl,fun x dx2 hx hdx2 ne=>⟨x,dx2,_,_,rfl,aG,rfl,?_⟩⟩;exact Ib k sm hx hdx2 hD' hes rfl hD
def HE:List iN→iN
 | []=>⟨0,[]⟩
 | f::fs=>fs.foldl cheaper f
def AO (fs:List iN):List Int:=fs.map fun r=>((r.cost:Nat):Int)
theorem Mj (h:l≠[]) (x:iN):HE (l++[x])=cheaper (HE l) x:=by
 cases l with
 | nil=>exact absurd rfl h
 | cons f l=>show(l++[x]).foldl cheaper f=cheaper (l.foldl cheaper f) x;rw[LZ];rfl
theorem LA (h:fs[i]?=some r):(AO fs).getD i 0=(r.cost:Nat):=by unfold AO;rw[List.getD_eq_getElem?_getD,bX,h];rfl
theorem Jz (fs:List iN):∀j,j < fs.length→fs[gS (AO fs) j]?=some (HE (fs.take (j+1)))
 | 0,h=>by
  cases fs with
  | nil=>cases h
  | cons f fs=>rfl
 | j+1,h=>by
  have ih:=Jz fs j (by omega);have hx:fs[j+1]?=some fs[j+1]:=bC h;have e:fs.take (j+1+1)=fs.take (j+1)++[fs[j+1]]:=by rw[VR,hx];rfl
  have hne:fs.take (j+1)≠[]:=fun z=>by have:=congrArg sK z;rw[bJ,gO]at this;omega
  rw[e,Mj hne,gS,LA hx,LA ih];unfold cheaper;by_cases c:(fs[j+1]).cost < (HE (fs.take (j+1))).cost
  ·rw[if_pos (by omega),if_pos c];exact hx
  ·rw[if_neg (by omega),if_neg c];exact ih
theorem Qb (h:0 < fs.length):fs[gS (AO fs) (fs.length - 1)]?=some (HE fs):=by
 have:=Jz fs (fs.length - 1) (by omega)
 rwa [show fs.length - 1+1=fs.length by omega,cN]at this
def PD (a:mI) (K:aB) (H0 H:Hp):List V→List iN→Prop:=gY fun v r=>∃p,v=.ref p∧vO a K H0 H p r
theorem vO.same (s:aZ H H') (h:vO a K H0 H p r):vO a K H0 H' p r:=let ⟨dx,l,rs,h1,h2,h3,h4⟩:=h;⟨dx,l,rs,s _ _ h1,s _ _ h2,h3.same s,h4⟩
theorem vO.less (s:aZ H0 H1) (h:vO a K H1 H p r):vO a K H0 H p r:=let ⟨dx,l,rs,h1,h2,h3,h4⟩:=h;⟨dx,l,rs,h1,h2,h3,dW.fresh s h4⟩
theorem PD.same (s:aZ H H') (h:PD a K H0 H vs fs):PD a K H0 H' vs fs:=Paired.mapP h fun _ _ ⟨p,e,q⟩=>⟨p,e,q.same s⟩
theorem vO.updl (hD:H D=some (.lst xs)) (h0:H0 D≠none) (h:vO a K H0 H p r):vO a K H0 (upd H D (.lst ys)) p r:=by obtain⟨dx,l,rs,h1,h2,h3,h4⟩:=h;exact⟨dx,l,rs,by rw[bK (kH h1 hD (by intro z;cases z))];exact h1,by rw[bK (fun z=>h0 (by rw[←z];exact h4))];exact h2,h3.updl hD,h4⟩
theorem PD.updl (hD:H D=some (.lst xs)) (h0:H0 D≠none) (h:PD a K H0 H vs fs):PD a K H0 (upd H D (.lst ys)) vs fs:=Paired.mapP h fun _ _ ⟨p,e,q⟩=>⟨p,e,q.updl hD h0⟩
theorem QU (hb:sP X.K fd ps []) (F:vN X.prog X.w X.K X.mg X.base (UG X.prog X.w) k fc fd ps (SO a K)) (h:PD a K H0 H vs fs):ME X k fc H vs (AO fs):=⟨fd,ps,_,hb,F,fun i v hv Q E q=>by obtain⟨r,hr,p,rfl,hp⟩:=Paired.at h hv;rw[LA hr]at q;exact⟨p,r,rfl,hp.at,q⟩⟩
theorem LV (h:PD a K H0 H vs fs) (hv:vs[gS (AO fs) (vs.length - 1)]?=some v):∃p,v=.ref p∧vO a K H0 H p (HE fs):=by
 have hl:vs.length=fs.length:=h.length;have hn:0 < fs.length:=by
  rw[←hl];rcases Nat.eq_zero_or_pos vs.length with z | z
  ·rw[eA z]at hv;cases hv
  ·exact z
 obtain⟨r,hr,p,e,hp⟩:=Paired.at h hv;rw[hl,Qb hn]at hr;cases hr;exact⟨p,e,hp⟩
theorem ZI (hx:H1 x=none) (hdx:H1 dx=none) (hl:H1 l=some (.lst rs)) (hes:xI a K H1 rs r.edits) (hc:c=(r.cost:Nat)) (h0:H l=none):
  aZ H1 (upd (upd (upd (upd H1 dx (.own x)) x (.ins a.cRow dx [])) x (.ins a.cRow dx [("edits",.ref l)])) x (.ins a.cRow dx [("edits",.ref l),("cost",.int c)]))∧
   vO a K H (upd (upd (upd (upd H1 dx (.own x)) x (.ins a.cRow dx [])) x (.ins a.cRow dx [("edits",.ref l)])) x (.ins a.cRow dx [("edits",.ref l),("cost",.int c)])) x r:=by
 have s7:aZ H1 (upd (upd (upd (upd H1 dx (.own x)) x (.ins a.cRow dx [])) x (.ins a.cRow dx [("edits",.ref l)])) x (.ins a.cRow dx [("edits",.ref l),("cost",.int c)])):=dB (dB (dB (aZ.upd hdx) hx) hx) hx;subst hc;exact⟨s7,dx,l,rs,aG,s7 _ _ hl,hes.same s7,h0⟩
def wC (a:mI) (K:aB) (d:Nat):Sp:=fun vs H Q _=>∃(x y:V) (v w:fT),vs=[x,y]∧oB K H x v∧oB K H y w∧Vatwva.isValue v=true∧Vatwva.isValue w=true∧Vatwva.deep v≤d∧HD a K H (cC v w) Q
def VD (a:mI) (K:aB) (d:Nat):Sp:=fun vs H Q _=>∃(x y:V) (v w:fT),vs=[x,y]∧oB K H x v∧oB K H y w∧Vatwva.isValue v=true∧Vatwva.isValue w=true∧Vatwva.deep v≤d+1∧Vatwva.isRecord v=true∧Vatwva.isRecord w=true∧(Vatwva.kidsOf v).map (fun x=>x.1)=(Vatwva.kidsOf w).map (fun x=>x.1)∧HD a K H (VM.LU cC (Vatwva.kidsOf v) (Vatwva.kidsOf w)) Q
theorem Es {G:fT→fT→iN} {l:List ((Name×fT)×(Name×fT))} {i:Nat} {z:(Name×fT)×(Name×fT)} (h:l[i]?=some z):
  (l.take (i+1)).foldl (fun d z=>andThen d (VM.CB (.field z.1.1) (G z.1.2 z.2.2))) ⟨0,[]⟩=andThen ((l.take i).foldl (fun d z=>andThen d (VM.CB (.field z.1.1) (G z.1.2 z.2.2))) ⟨0,[]⟩) (VM.CB (.field z.1.1) (G z.1.2 z.2.2)):=by
 rw[iY h,LZ];rfl
theorem US (T:iJ K mg a) {d L:Nat} (hL:10≤L) (hd:d≤100) (R:gV P w K mg base L "least_row" ["first","second"] (wC a K d)):gV P w K mg base (L+1) "record_row" ["first","second"] (VD a K d):=by
 refine kI T.f_record_row ["first","second","row","name","source","goal"] fun vs H Q E h=>?_
 obtain⟨x,y,v,w1,rfl,hx,hy,vv,vw,hdp,rv,rw1,hnm,k⟩:=h
 refine⟨rfl,fun nd f cdv A outer s hr=>?_⟩
 have hr:jE L (A.deeper (tQ "record_row" (gW (top 104)) s.heap.objs.size f cdv)):=hr
 refine⟨_,aI (cM (i:=2) nd rfl (bP rfl) (nR (LM T) T.k_Row (hr.mono (by omega)) ⟨rfl,rfl,rfl⟩ (aA (eJ aD) (aA cA aD))))
  (aI (pI (gH ⟨rfl,rfl,rfl⟩) rfl (Uw (by rfl) T.n_zip (aA (bB (rY T) (hr.mono (by omega)) ⟨rfl,rfl,rfl⟩ (aA (pv 0) aD)) (aA (bB (eR T) (hr.mono (by omega)) ⟨rfl,rfl,rfl⟩ (aA (pv 0) aD)) (aA (bB (eR T) (hr.mono (by omega)) ⟨rfl,rfl,rfl⟩ (aA (pv 1) aD)) aD))))
    (HS (n:=3) (by rfl) (lC (eY (i:=3) nd rfl (bP rfl)) (lC (eY (i:=4) nd rfl (bP rfl)) (lC (eY (i:=5) nd rfl (bP rfl)) BF))))
   (aN (cM (i:=2) nd rfl (bP rfl) (bB (xX T) (hr.mono (by omega)) ⟨rfl,rfl,rfl⟩ (aA (pv 2) (aA (bB (WX T) (hr.mono (by omega)) ⟨rfl,rfl,rfl⟩ (aA (pv 3) (aA (bB R hr ⟨rfl,rfl,rfl⟩ (aA (pv 4) (aA (pv 5) aD))) aD))) aD))))))
  (aN (bG (pv 2)))),?_⟩
 obtain⟨gv,cv,dv⟩:=VM.dR.mp vv
 obtain⟨gw,cw,dw⟩:=VM.dR.mp vw
 obtain⟨p,b,c,zs,rfl,h1,h2,h3,h4⟩:=hx.rec rv
 obtain⟨p',b',c',zs',rfl,g1,g2,g3,g4⟩:=hy.rec rw1
 have h4:fW K H zs ((Vatwva.kidsOf v).map fun x=>x.2):=h4
 have g4:fW K H zs' ((Vatwva.kidsOf w1).map fun x=>x.2):=g4
 have hlen:(Vatwva.kidsOf v).length=(Vatwva.kidsOf w1).length:=by
  have:=congrArg sK hnm
  rwa [aJ,aJ]at this
 have hkl:=(gv.kids rv).1
 have hkl:(Vatwva.kidsOf v).length≤12:=hkl
 have hz1:zs.length=(Vatwva.kidsOf v).length:=by rw[h4.length,aJ]
 have hz2:zs'.length=(Vatwva.kidsOf w1).length:=by rw[g4.length,aJ]
 have hzl:((Vatwva.kidsOf v).zip (Vatwva.kidsOf w1)).length=(Vatwva.kidsOf v).length:=by rw[List.length_zip,←hlen,Gh]
 refine⟨aY _,fun l hl=>fun x0 dx0 hx0 hdx0 ne0=>⟨x0,dx0,_,_,rfl,aG,rfl,?_⟩⟩
 have sl:=aZ.upd (o:=.lst []) hl
 obtain⟨s7,r7⟩:=ZI (a:=a) (K:=K) (H:=H) (r:=⟨0,[]⟩) (c:=0) hx0 hdx0 aG (.nil) rfl hl
 have s0:=sl.trans s7
 refine⟨_,rfl,p,_,_,rfl,s0.sqT h1,rfl,_,rfl,p,_,_,rfl,s0.sqT h1,rfl,_,rfl,p',_,_,rfl,s0.sqT g1,rfl,b,c,c',_,_,_,rfl,s0.sqT h2,s0.sqT h3,s0.sqT g3,
  Qs (xs:=dQ (Vatwva.kidsOf v)) (ys:=zs) (ws:=zs') (by rw[gT];exact hz1.symm) (by rw[gT,hlen];exact hz2.symm) (fun i σ H'=>aZ H H'∧∃q s3 s4 s5,σ=[some (.ref p),some (.ref p'),some (.ref q),s3,s4,s5]∧
   vO a K H H' q ((((Vatwva.kidsOf v).zip (Vatwva.kidsOf w1)).take i).foldl (fun d z=>andThen d (VM.CB (.field z.1.1) (cC z.1.2 z.2.2))) ⟨0,[]⟩))
   ⟨s0,x0,none,none,none,rfl,r7⟩ (fun i σ H' _ h=>⟨h.1.sqT h2,h.1.sqT h3,h.1.sqT g3⟩) ?_ ?_⟩
 ·rintro i n y1 y2 t' σ H' hn hy1 hy2 ht' ⟨sm,q,s3,s4,s5,rfl,hq⟩
  unfold dQ at hn
  rw[bX]at hn
  obtain⟨kid,ek,rfl⟩:=aO.mp hn
  obtain⟨v1,ev1,hv1⟩:=h4.get hy1
  rw[bX,ek]at ev1
  cases ev1
  obtain⟨v2,ev2,hv2⟩:=g4.get hy2
  rw[bX]at ev2
  obtain⟨kid2,ek2,rfl⟩:=aO.mp ev2
  have hzi:((Vatwva.kidsOf v).zip (Vatwva.kidsOf w1))[i]?=some (kid,kid2):=by rw[List.getElem?_zip_eq_some];exact⟨ek,ek2⟩
  have m1:=bA ek
  have m2:=bA ek2
  have vk1:=VM.oR vv m1
  have vk2:=VM.oR vw m2
  have dk:=VM.wT gv.1 m1
  have nice:=VM.uB d (v:=kid.2) (w:=kid2.2) (by omega) vk1 vk2
  have sT:aZ H' (upd H' t' (.tup [.str (bT kid.1),y1,y2])):=aZ.upd ht'
  have smT:=sm.trans sT
  refine⟨t',_,rfl,.of' aG,rfl,_,_,rfl,_,_,rfl,_,_,rfl,rfl,?_⟩
  refine⟨_,rfl,_,rfl,_,rfl,_,rfl,y1,y2,kid.2,kid2.2,rfl,hv1.tups smT.tups,hv2.tups smT.tups,vk1,vk2,by omega,fun H2 p2 s2 r2=>?_⟩
  refine⟨.field kid.1,p2,_,rfl,r2.at,?_,fun e he=>bI (nice.ok e he).2 (by omega),fun H3 p3 s3 r3=>?_⟩
  ·have:=nice.len;have:=nice.le;omega
  have nl:=nice.led (s:=.field kid.1) ((gv.kids rv).2.2 kid m1).1
  have nr:=VM.LL (G:=cC) (d:=d) (((Vatwva.kidsOf v).zip (Vatwva.kidsOf w1)).take i) ⟨0,[]⟩ 0 (VM.nZ.zero _ _) (fun z hz=>by
   have hz:=oU (iS hz)
   exact⟨((gv.kids rv).2.2 _ hz.1).1,VM.uB d (by have:=VM.wT gv.1 hz.1;omega) (VM.oR vv hz.1) (VM.oR vw hz.2)⟩)
  have hti:(((Vatwva.kidsOf v).zip (Vatwva.kidsOf w1)).take i).length≤12:=by rw[bJ];omega
  have s23:=(sT.trans s2).trans s3
  refine⟨q,p3,_,_,rfl,(hq.same s23).at,r3.at,?_,fun H4 p4 s4' r4=>⟨sm.trans (s23.trans s4'),p4,_,_,_,rfl,?_⟩⟩
  ·have:=nl.len;have:=nl.le;have:=nr.len;have:=nr.le;omega
  ·rw[Es hzi]
   exact r4.less (sm.trans s23)
 ·rintro σ H' ⟨sm,q,s3,s4,s5,rfl,hq⟩
  rw[gT,←hzl,cN]at hq
  exact⟨_,rfl,k H' q sm hq⟩
def Ln (G:fT→fT→iN) (j:Nat):List fT→List fT→List iN
 | x::a,w::b=>[andThen (CB (.item j) (G x w)) (gQ G a b (j+1)),andThen (KG j) (gQ G a (w::b) j),andThen (SG j w) (gQ G (x::a) b (j+1))]
 | x::a,[]=>[andThen (KG j) (gQ G a [] j)]
 | [],w::b=>[andThen (SG j w) (gQ G [] b (j+1))]
 | [],[]=>[]
theorem VY (G:fT→fT→iN) (j:Nat) (a b:List fT):HE (Ln G j a b)=gQ G a b j:=by
 cases a with
 | nil=>
  cases b with
  | nil=>rfl
  | cons w b=>rw[VM.PQ];rfl
 | cons x a=>
  cases b with
  | nil=>rw[VM.PP];rfl
  | cons w b=>rw[VM.PN];rfl
def xN (a:mI) (K:aB) (H0 H:Hp) (kvs:List (List CG×V)) (as bs:List fT) (ok:Nat→Nat→Prop):Prop:=∀i j,i≤as.length→j≤bs.length→ok i j→∃p,qJ kvs [.inl (i:Int),.inl (j:Int)]=some (.ref p)∧vO a K H0 H p (gQ cC (as.drop i) (bs.drop j) j)
theorem xN.same (s:aZ H H') (h:xN a K H0 H kvs as bs ok):xN a K H0 H' kvs as bs ok:=fun i j hi hj hk=>let ⟨p,e,q⟩:=h i j hi hj hk;⟨p,e,q.same s⟩
def Zc (i j i' j':Nat):Prop:=i < i'∨(i'=i∧j < j')
theorem zJ (hR:H R=some (.dT kvs)) (ht:H t=some (.tup [.int (i:Int),.int (j:Int)])) (hv:qJ kvs [.inl (i:Int),.inl (j:Int)]=some (.ref p)):Gp H R (.ref t) (some (.ref p)):=by
 have:=Gp.t (k:=[.inl (i:Int),.inl (j:Int)]) hR ht
 rwa [hv]at this
structure Yh (a:mI) (K:aB) (H:Hp) (D:aQ) (H':Hp) (xs:List V) (fs:List iN):Prop where
 same:aZ H H'
 at_:H' D=some (.lst xs)
 rows:PD a K (upd H D (.lst [])) H' xs fs
theorem Yh.add (hD:H D=none) (h:Yh a K H D H' xs fs) (s2:aZ H' H2) (s3:aZ H2 H3) (hr:vO a K H2 H3 p r):
  H3 D=some (.lst xs)∧Yh a K H D (upd H3 D (.lst (xs++[.ref p]))) (xs++[.ref p]) (fs++[r]):=by
 have s23:=s2.trans s3;have hD2:=s2 _ _ h.at_;have hD3:=s23 _ _ h.at_;have n0:upd H D (.lst []) D≠none:=by rw[aG];intro z;cases z
 refine⟨hD3,dB (h.same.trans s23) hD,aG,Paired.snoc ((h.rows.same s23).updl hD3 n0) ⟨p,rfl,?_⟩⟩;refine vO.updl hD3 n0 ?_;obtain⟨dx,l,rs,h1,h2,h3,h4⟩:=hr;refine⟨dx,l,rs,h1,h2,h3,?_⟩;have hne:l≠D:=fun z=>by rw[z,hD2]at h4;cases h4
 rw[bK hne];exact dW.fresh (h.same.trans s2) h4
def Vz (a:mI) (K:aB) (H:Hp) (fs:List iN) (Q:VK):Prop:=∀H' D xs,H D=none→Yh a K H D H' xs fs→Q (.ref D) H'
structure Wd (a:mI) (K:aB) (d:Nat) (H:Hp) (cs cg R:aQ) (i j:Nat) (zs ws:List V) (kvs:List (List CG×V)) (as bs:List fT):Prop where
 s1:fE K H cs zs
 s2:fW K H zs as
 g1:fE K H cg ws
 g2:fW K H ws bs
 hR:H R=some (.dT kvs)
 av:∀x∈as,Vatwva.isValue x=true∧Vatwva.deep x≤d
 bv:∀y∈bs,Vatwva.isValue y=true
 al:as.length≤12
 bl:bs.length≤12
 hi:i≤as.length
 hj:j≤bs.length
 cells:xN a K (fun _=>none) H kvs as bs (Zc i j)
theorem Ic {d:Nat} {as bs:List fT} (av:∀x∈as,Vatwva.isValue x=true∧Vatwva.deep x≤d) (bv:∀y∈bs,Vatwva.isValue y=true) (al:as.length≤12) (bl:bs.length≤12) (i j k:Nat) (hk:k≤12):(gQ cC (as.drop i) (bs.drop j) k).edits.length≤1464:=by have n:=VM.uA (G:=cC) (d:=d) (as.drop i) (bs.drop j) k (by rw[cW];omega) (fun y hy=>bv y (fP hy)) (fun x hx y hy=>by have hx:=av x (fP hx);exact VM.uB d hx.2 hx.1 (bv y (fP hy)));have:=n.len;have:=n.le;rw[cW,cW]at this;omega
def Iy (a:mI) (K:aB) (d:Nat):Sp:=fun vs H Q _=>∃(cs cg R:aQ) (i j:Nat) (zs ws:List V) (kvs:List (List CG×V)) (as bs:List fT),vs=[.ref cs,.ref cg,.ref R,.int (i:Nat),.int (j:Nat)]∧Wd a K d H cs cg R i j zs ws kvs as bs∧Vz a K H (Ln cC j (as.drop i) (bs.drop j)) Q
theorem YV {α:Type} {l:List α} {i:Nat} {x:α} {r:List α} (h:l.drop i=x::r):l[i]?=some x∧l.drop (i+1)=r∧i < l.length:=by
 have hlt:i < l.length:=by
  rcases Nat.lt_or_ge i l.length with z | z
  ·exact z
  ·rw[oH z]at h;cases h
 rw[bM hlt]at h;cases h;exact⟨bC hlt,rfl,hlt⟩
theorem Ig (T:iJ K mg a) (B:sI P w K mg a) {d L:Nat} (hL:12≤L) (hd:d≤100) (Rr:gV P w K mg base L "least_row" ["first","second"] (wC a K d)):gV P w K mg base (L+1) "ways_on" ["sources","goals","rest","gone","come"] (Iy a K d):=by
 refine kI T.f_ways_on ["sources","goals","rest","gone","come","ways","kept"] fun vs H Q E h=>?_
 obtain⟨cs,cg,R,i,j,zs,ws,kvs,as,bs,rfl,W,k⟩:=h
 refine⟨rfl,fun nd f cdv A outer s hr=>?_⟩
 have hr:jE L (A.deeper (tQ "ways_on" (gW (top 105)) s.heap.objs.size f cdv)):=hr
 have hu:=Vt hr
 refine⟨_,aI (cM (i:=5) nd rfl (bP rfl) (eJ aD))
  (aI (fA (PW.pt (SH (dA MR (pv 3) (cX cV rfl T.n_len cE (aA (pv 0) aD)) (dJ _)) (KC (dA MR (pv 4) (cX cV rfl T.n_len cE (aA (pv 1) aD)) (dJ _)))))
    (aI (cM (i:=6) nd rfl (bP rfl) (bB (WX T) (hr.mono (by omega)) ⟨rfl,rfl,rfl⟩ (aA (pv 4) (aA (bB Rr hr ⟨rfl,rfl,rfl⟩ (aA (fL fQ (pv 0) (pv 3) (fun _ _=>rfl)) (aA (fL fQ (pv 1) (pv 4) (fun _ _=>rfl)) aD))) aD))))
    (aN (dN (nG bF bR bS gF (pv 5) (aA (bB (xX T) (hr.mono (by omega)) ⟨rfl,rfl,rfl⟩ (aA (pv 6) (aA (OJ hu (pv 2) (iP (aA (jZ uD (pv 3) cA) (aA (jZ uD (pv 4) cA) aD))) (fun _ _=>rfl)) aD))) aD))))) cY)
  (aI (fA (dA MR (pv 3) (cX cV rfl T.n_len cE (aA (pv 0) aD)) (dJ _))
    (aN (dN (nG bF bR bS gF (pv 5) (aA (bB (xX T) (hr.mono (by omega)) ⟨rfl,rfl,rfl⟩ (aA
     (bB (LN T B) (hr.mono (by omega)) ⟨rfl,rfl,rfl⟩ (aA (nR (qX T) T.k_Edit (hr.mono (by omega)) ⟨rfl,rfl,rfl⟩ (aA dZ (aA (iP aD) (aA (iP (aA (pv 4) aD)) aD)))) aD))
     (aA (OJ hu (pv 2) (iP (aA (jZ uD (pv 3) cA) (aA (pv 4) aD))) (fun _ _=>rfl)) aD))) aD)))) cY)
  (aI (fA (dA MR (pv 4) (cX cV rfl T.n_len cE (aA (pv 1) aD)) (dJ _))
    (aN (dN (nG bF bR bS gF (pv 5) (aA (bB (xX T) (hr.mono (by omega)) ⟨rfl,rfl,rfl⟩ (aA
     (bB (LN T B) (hr.mono (by omega)) ⟨rfl,rfl,rfl⟩ (aA (nR (qX T) T.k_Edit (hr.mono (by omega)) ⟨rfl,rfl,rfl⟩ (aA dZ (aA (iP aD) (aA (iP (aA (pv 4) (aA (fL fQ (pv 1) (pv 4) (fun _ _=>rfl)) aD))) aD)))) aD))
     (aA (OJ hu (pv 2) (iP (aA (pv 3) (aA (jZ uD (pv 4) cA) aD))) (fun _ _=>rfl)) aD))) aD)))) cY)
  (aN (bG (pv 5)))))),?_⟩
 refine⟨aY _,fun D hD=>?_⟩
 have w0:Yh a K H D (upd H D (.lst [])) [] []:=⟨aZ.upd hD,aG,.nil⟩
 have zl:zs.length=as.length:=W.s2.length
 have wl:ws.length=bs.length:=W.g2.length
 have nc:=Ic W.av W.bv W.al W.bl
 have Sv:∀{e:gE} {i' j' k':Nat},Vatwvc.isEdit e=true→k'≤12→(Si e).edits.length+(gQ cC (as.drop i') (bs.drop j') k').edits.length≤100000:=fun {e i' j' k'} _ hk=>by
  have:=nc i' j' k' hk
  show 1+_≤_;omega
 have al:=W.al
 have bl:=W.bl
 have hjj:=W.hj
 have hii:=W.hi
 have tS:i < as.length→decide ((i:Int) < ((zs.length:Nat):Int))=true:=fun h=>decide_eq_true (by omega)
 have fS:¬i < as.length→decide ((i:Int) < ((zs.length:Nat):Int))=false:=fun h=>decide_eq_false (by omega)
 have tG:j < bs.length→decide ((j:Int) < ((ws.length:Nat):Int))=true:=fun h=>decide_eq_true (by omega)
 have fG:¬j < bs.length→decide ((j:Int) < ((ws.length:Nat):Int))=false:=fun h=>decide_eq_false (by omega)
 cases qa:as.drop i with
 | nil=>
  have hia:¬i < as.length:=fun z=>by rw[bM z]at qa;cases qa
  refine⟨_,rfl,_,rfl,cs,zs,rfl,.inr (w0.same.sqT W.s1),_,_,rfl,rfl,_,rfl,mP (fS hia) (xK ?_)⟩
  refine⟨_,rfl,_,rfl,cs,zs,rfl,.inr (w0.same.sqT W.s1),_,_,rfl,rfl,_,rfl,mP (fS hia) ?_⟩
  cases qb:bs.drop j with
  | nil=>
   have hjb:¬j < bs.length:=fun z=>by rw[bM z]at qb;cases qb
   refine⟨_,rfl,_,rfl,cg,ws,rfl,.inr (w0.same.sqT W.g1),_,_,rfl,rfl,_,rfl,mP (fG hjb) ?_⟩
   rw[qa,qb]at k
   exact⟨_,rfl,k _ D _ hD w0⟩
  | cons w1 br=>
   obtain⟨hb1,hb2,hjb⟩:=YV qb
   obtain⟨y1,hy1,hw1⟩:=fW.getR W.g2 hb1
   have vy:=W.bv w1 (bA hb1)
   refine⟨_,rfl,_,rfl,cg,ws,rfl,.inr (w0.same.sqT W.g1),_,_,rfl,rfl,_,rfl,pE (tG hjb) ?_⟩
   obtain⟨pc1,hc1,rc1⟩:=W.cells i (j+1) W.hi (by omega) (.inr ⟨rfl,by omega⟩)
   refine⟨_,rfl,.inl ⟨rfl,_,gX.of w0.at_⟩,aY _,fun t0 ht0=>⟨_,rfl,_,rfl,_,rfl,cg,ws,_,y1,rfl,rfl,((w0.same.trans (aZ.upd ht0)).sqT W.g1),fZ hy1,(by show 2≤aU;decide),fun t1 ht1=>fun x dx hx hdx ne=>⟨x,dx,_,_,_,rfl,aG,rfl,?_⟩⟩⟩
   have sa1:=(aZ.upd (o:=.tup []) ht0).trans (aZ.upd (o:=.tup [.int (j:Nat),y1]) ht1)
   have sb1:=vB (a:=a) (y1:=.str "put") (y2:=.ref t0) (y3:=.ref t1) hx hdx
   have sc1:=sa1.trans sb1
   have iy:Vatwvc.isEdit (.put [] j w1)=true:=by show(true && (decide (j≤Vatwva.GREATEST) && Vatwva.isValue w1))=true;rw[VM.pG (by omega),vy];rfl
   refine⟨x,.put [] j w1,rfl,⟨dx,t0,t1,aG,sb1.sqT ((aZ.upd ht1).sqT (.of' aG)),y1,sb1.sqT (.of' aG),hw1.tups (w0.same.trans sc1).tups⟩,iy,fun H2 p2 s2 r2=>?_⟩
   have sd1:=sc1.trans s2
   refine⟨_,rfl,_,rfl,_,rfl,_,_,rfl,rfl,(by show 2≤aU;decide),fun t2 ht2=>?_⟩
   have se1:=aZ.upd (o:=.tup [.int (i:Nat),.int ((j:Int)+1)]) ht2
   have sf1:=sd1.trans se1
   refine⟨R,.ref pc1,rfl,zJ (i:=i) (j:=j+1) ((w0.same.trans sf1) _ _ W.hR) aG hc1,p2,pc1,_,_,rfl,(r2.same se1).at,(rc1.same (w0.same.trans sf1)).at,Sv (e:=.put [] j w1) iy (by omega),fun H3 p3 s3 r3=>?_⟩
   obtain⟨hD1,w1⟩:=w0.add hD sf1 s3 r3
   refine⟨D,_,_,rfl,rfl,hD1,small (by simp),?_⟩
   rw[qa,qb]at k
   rw[qa,hb2]at w1
   exact⟨_,rfl,k _ D _ hD w1⟩
 | cons v1 ar=>
  obtain⟨ha1,ha2,hia⟩:=YV qa
  obtain⟨x1,hx1,hv1⟩:=fW.getR W.s2 ha1
  have vx:=W.av v1 (bA ha1)
  cases qb:bs.drop j with
  | nil=>
   have hjb:¬j < bs.length:=fun z=>by rw[bM z]at qb;cases qb
   refine⟨_,rfl,_,rfl,cs,zs,rfl,.inr (w0.same.sqT W.s1),_,_,rfl,rfl,_,rfl,pE (tS hia) ⟨_,rfl,_,rfl,cg,ws,rfl,.inr (w0.same.sqT W.g1),_,_,rfl,rfl,_,rfl,mP (fG hjb) ?_⟩⟩
   refine⟨_,rfl,_,rfl,cs,zs,rfl,.inr (w0.same.sqT W.s1),_,_,rfl,rfl,_,rfl,pE (tS hia) ?_⟩
   obtain⟨pc1,hc1,rc1⟩:=W.cells (i+1) j (by omega) W.hj (.inl (by omega))
   refine⟨_,rfl,.inl ⟨rfl,_,gX.of w0.at_⟩,aY _,fun t0 ht0=>⟨_,rfl,(by show 1≤aU;decide),fun t1 ht1=>fun x dx hx hdx ne=>⟨x,dx,_,_,_,rfl,aG,rfl,?_⟩⟩⟩
   have sa1:=(aZ.upd (o:=.tup []) ht0).trans (aZ.upd (o:=.tup [.int (j:Nat)]) ht1)
   have sb1:=vB (a:=a) (y1:=.str "take") (y2:=.ref t0) (y3:=.ref t1) hx hdx
   have sc1:=sa1.trans sb1
   refine⟨x,.take [] j,rfl,⟨dx,t0,t1,aG,sb1.sqT ((aZ.upd ht1).sqT (.of' aG)),sb1.sqT (.of' aG)⟩,VM.pG (by omega),fun H2 p2 s2 r2=>?_⟩
   have sd1:=sc1.trans s2
   refine⟨_,rfl,_,rfl,_,_,rfl,rfl,_,rfl,(by show 2≤aU;decide),fun t2 ht2=>?_⟩
   have se1:=aZ.upd (o:=.tup [.int ((i:Int)+1),.int (j:Nat)]) ht2
   have sf1:=sd1.trans se1
   refine⟨R,.ref pc1,rfl,zJ (i:=i+1) (j:=j) ((w0.same.trans sf1) _ _ W.hR) aG hc1,p2,pc1,_,_,rfl,(r2.same se1).at,(rc1.same (w0.same.trans sf1)).at,Sv (e:=.take [] j) (VM.pG (by omega)) (by omega),fun H3 p3 s3 r3=>?_⟩
   obtain⟨hD1,w1⟩:=w0.add hD sf1 s3 r3
   refine⟨D,_,_,rfl,rfl,hD1,small (by simp),?_⟩
   refine⟨_,rfl,_,rfl,cg,ws,rfl,.inr (w1.same.sqT W.g1),_,_,rfl,rfl,_,rfl,mP (fG hjb) ?_⟩
   rw[qa,qb]at k
   rw[qb,ha2]at w1
   exact⟨_,rfl,k _ D _ hD w1⟩
  | cons w1 br=>
   obtain⟨hb1,hb2,hjb⟩:=YV qb
   obtain⟨y1,hy1,hw1⟩:=fW.getR W.g2 hb1
   have vy:=W.bv w1 (bA hb1)
   have nice:=VM.uB d (v:=v1) (w:=w1) vx.2 vx.1 vy
   have nl:=nice.led (s:=.item j) (VM.pG (by omega))
   refine⟨_,rfl,_,rfl,cs,zs,rfl,.inr (w0.same.sqT W.s1),_,_,rfl,rfl,_,rfl,pE (tS hia) ⟨_,rfl,_,rfl,cg,ws,rfl,.inr (w0.same.sqT W.g1),_,_,rfl,rfl,_,rfl,pE (tG hjb) ?_⟩⟩
   obtain⟨pc0,hc0,rc0⟩:=W.cells (i+1) (j+1) (by omega) (by omega) (.inl (by omega))
   refine⟨_,rfl,_,rfl,_,rfl,cs,zs,_,x1,rfl,rfl,w0.same.sqT W.s1,fZ hx1,_,rfl,_,rfl,cg,ws,_,y1,rfl,rfl,w0.same.sqT W.g1,fZ hy1,x1,y1,v1,w1,rfl,hv1.tups w0.same.tups,hw1.tups w0.same.tups,vx.1,vy,vx.2,fun H2 p2 s2 r2=>?_⟩
   refine⟨.item j,p2,_,rfl,r2.at,?_,fun e he=>bI (nice.ok e he).2 (by omega),fun H3 p3 s3 r3=>?_⟩
   ·have:=nice.len;have:=nice.le;omega
   have sk:=s2.trans s3
   refine⟨_,rfl,.inl ⟨rfl,_,gX.of (sk _ _ w0.at_)⟩,_,rfl,_,rfl,_,rfl,_,_,rfl,rfl,_,rfl,_,_,rfl,rfl,(by show 2≤aU;decide),fun t2 ht2=>?_⟩
   have st:=aZ.upd (o:=.tup [.int ((i:Int)+1),.int ((j:Int)+1)]) ht2
   have su:=sk.trans st
   refine⟨R,.ref pc0,rfl,zJ (i:=i+1) (j:=j+1) ((w0.same.trans su) _ _ W.hR) aG hc0,p3,pc0,_,_,rfl,(r3.same st).at,(rc0.same (w0.same.trans su)).at,?_,fun H4 p4 s4 r4=>?_⟩
   ·have:=nl.len;have:=nl.le;have:=nc (i+1) (j+1) (j+1) (by omega);omega
   obtain⟨hD1,w1'⟩:=w0.add hD su s4 r4
   refine⟨D,_,_,rfl,rfl,hD1,small (by simp),?_⟩
   refine⟨_,rfl,_,rfl,cs,zs,rfl,.inr (w1'.same.sqT W.s1),_,_,rfl,rfl,_,rfl,pE (tS hia) ?_⟩
   obtain⟨pc2',hc2',rc2'⟩:=W.cells (i+1) j (by omega) W.hj (.inl (by omega))
   refine⟨_,rfl,.inl ⟨rfl,_,gX.of w1'.at_⟩,aY _,fun t0 ht0=>⟨_,rfl,(by show 1≤aU;decide),fun t1 ht1=>fun x dx hx hdx ne=>⟨x,dx,_,_,_,rfl,aG,rfl,?_⟩⟩⟩
   have sa2':=(aZ.upd (o:=.tup []) ht0).trans (aZ.upd (o:=.tup [.int (j:Nat)]) ht1)
   have sb2':=vB (a:=a) (y1:=.str "take") (y2:=.ref t0) (y3:=.ref t1) hx hdx
   have sc2':=sa2'.trans sb2'
   refine⟨x,.take [] j,rfl,⟨dx,t0,t1,aG,sb2'.sqT ((aZ.upd ht1).sqT (.of' aG)),sb2'.sqT (.of' aG)⟩,VM.pG (by omega),fun H2 p2 s2 r2=>?_⟩
   have sd2':=sc2'.trans s2
   refine⟨_,rfl,_,rfl,_,_,rfl,rfl,_,rfl,(by show 2≤aU;decide),fun t2 ht2=>?_⟩
   have se2':=aZ.upd (o:=.tup [.int ((i:Int)+1),.int (j:Nat)]) ht2
   have sf2':=sd2'.trans se2'
   refine⟨R,.ref pc2',rfl,zJ (i:=i+1) (j:=j) ((w1'.same.trans sf2') _ _ W.hR) aG hc2',p2,pc2',_,_,rfl,(r2.same se2').at,(rc2'.same (w1'.same.trans sf2')).at,Sv (e:=.take [] j) (VM.pG (by omega)) (by omega),fun H3 p3 s3 r3=>?_⟩
   obtain⟨hD2',w2'⟩:=w1'.add hD sf2' s3 r3
   refine⟨D,_,_,rfl,rfl,hD2',small (by simp),?_⟩
   refine⟨_,rfl,_,rfl,cg,ws,rfl,.inr (w2'.same.sqT W.g1),_,_,rfl,rfl,_,rfl,pE (tG hjb) ?_⟩
   obtain⟨pc3',hc3',rc3'⟩:=W.cells i (j+1) W.hi (by omega) (.inr ⟨rfl,by omega⟩)
   refine⟨_,rfl,.inl ⟨rfl,_,gX.of w2'.at_⟩,aY _,fun t0 ht0=>⟨_,rfl,_,rfl,_,rfl,cg,ws,_,y1,rfl,rfl,((w2'.same.trans (aZ.upd ht0)).sqT W.g1),fZ hy1,(by show 2≤aU;decide),fun t1 ht1=>fun x dx hx hdx ne=>⟨x,dx,_,_,_,rfl,aG,rfl,?_⟩⟩⟩
   have sa3':=(aZ.upd (o:=.tup []) ht0).trans (aZ.upd (o:=.tup [.int (j:Nat),y1]) ht1)
   have sb3':=vB (a:=a) (y1:=.str "put") (y2:=.ref t0) (y3:=.ref t1) hx hdx
   have sc3':=sa3'.trans sb3'
   have iy:Vatwvc.isEdit (.put [] j w1)=true:=by show(true && (decide (j≤Vatwva.GREATEST) && Vatwva.isValue w1))=true;rw[VM.pG (by omega),vy];rfl
   refine⟨x,.put [] j w1,rfl,⟨dx,t0,t1,aG,sb3'.sqT ((aZ.upd ht1).sqT (.of' aG)),y1,sb3'.sqT (.of' aG),hw1.tups (w2'.same.trans sc3').tups⟩,iy,fun H2 p2 s2 r2=>?_⟩
   have sd3':=sc3'.trans s2
   refine⟨_,rfl,_,rfl,_,rfl,_,_,rfl,rfl,(by show 2≤aU;decide),fun t2 ht2=>?_⟩
   have se3':=aZ.upd (o:=.tup [.int (i:Nat),.int ((j:Int)+1)]) ht2
   have sf3':=sd3'.trans se3'
   refine⟨R,.ref pc3',rfl,zJ (i:=i) (j:=j+1) ((w2'.same.trans sf3') _ _ W.hR) aG hc3',p2,pc3',_,_,rfl,(r2.same se3').at,(rc3'.same (w2'.same.trans sf3')).at,Sv (e:=.put [] j w1) iy (by omega),fun H3 p3 s3 r3=>?_⟩
   obtain⟨hD3',w3'⟩:=w2'.add hD sf3' s3 r3
   refine⟨D,_,_,rfl,rfl,hD3',small (by simp),?_⟩
   rw[qa,qb]at k
   rw[qa,qb,ha2,hb2]at w3'
   exact⟨_,rfl,k _ D _ hD w3'⟩
theorem xI.updd (hR:H R=some (.dT kvs)) (h:xI a K H rs es):xI a K (upd H R (.dT kvs')) rs es:=by have tu:zH H (upd H R (.dT kvs')):=⟨fun b zs e=>by rw[bK (kH e hR (by intro z;cases z))];exact e,fun b o u e=>by rw[bK (kH e hR (by intro z;cases z))];exact e⟩;exact Paired.mapP h fun _ _ ⟨ep,e,dx,pp,d,h1,h2,h3⟩=>⟨ep,e,dx,pp,d,by rw[bK (kH h1 hR (by intro z;cases z))];exact h1,tu.sqT h2,h3.tups tu⟩
theorem vO.updd (hR:H R=some (.dT kvs)) (h:vO a K H0 H p r):vO a K H0 (upd H R (.dT kvs')) p r:=by obtain⟨dx,l,rs,h1,h2,h3,h4⟩:=h;exact⟨dx,l,rs,by rw[bK (kH h1 hR (by intro z;cases z))];exact h1,by rw[bK (kH h2 hR (by intro z;cases z))];exact h2,h3.updd hR,h4⟩
theorem Eo [DecidableEq κ] (kvs:List (κ×V)) (k:κ) (v:V):(DV kvs k v).length≤kvs.length+1:=by
 unfold DV;split
 ·rw[aJ];omega
 ·rw[aC];exact aR _
theorem xN.weak (h:xN a K H0 H kvs as bs ok) (w:∀i j,ok' i j→j≤bs.length→ok i j):xN a K (fun _=>none) H kvs as bs ok':=fun i j hi hj hk=>by obtain⟨p,e,dx,l,rs,h1,h2,h3,_⟩:=h i j hi hj (w i j hk hj);exact⟨p,e,dx,l,rs,h1,h2,h3,rfl⟩
theorem xN.put (hR:H R=some (.dT kvs)) (h:xN a K H0 H kvs as bs ok) (hp:vO a K H0 H p (gQ cC (as.drop g) (bs.drop q) q))
  (hk:∀i j,ok' i j→i≤as.length→j≤bs.length→(i=g∧j=q)∨ok i j):xN a K H0 (upd H R (.dT (DV kvs [.inl (g:Int),.inl (q:Int)] (.ref p)))) (DV kvs [.inl (g:Int),.inl (q:Int)] (.ref p)) as bs ok':=fun i j hi hj h'=>by
 rw[Sy];by_cases c:i=g∧j=q
 ·obtain⟨rfl,rfl⟩:=c;rw[if_pos rfl];exact⟨p,rfl,hp.updd hR⟩
 ·obtain⟨p',e,r'⟩:=h i j hi hj ((hk i j h' hi hj).resolve_left c);rw[if_neg (fun z=>c (by have z1:=(iQ z).1;have z2:=(iQ (iQ z).2).1;exact⟨Pa (By z1),Pa (By z2)⟩))];exact⟨p',e,r'.updd hR⟩
def Fa (a:mI) (K:aB) (d:Nat):Sp:=fun vs H Q _=>∃(x y:V) (v w:fT),vs=[x,y]∧oB K H x v∧oB K H y w∧Vatwva.isValue v=true∧Vatwva.isValue w=true∧Vatwva.deep v≤d+1∧Vatwva.isList v=true∧Vatwva.isList w=true∧HD a K H (gQ cC (Vatwva.itemsOf v) (Vatwva.itemsOf w) 0) Q
theorem Du (T:iJ K mg a) (B:sI P w K mg a) (hL:12≤L) (hd:d≤100) (Rr:gV P w K mg base L "least_row" ["first","second"] (wC a K d)):gV P w K mg base (L+2) "list_row" ["first","second"] (Fa a K d):=by
 refine kI T.f_list_row ["first","second","sources","goals","rest","gone","come","ways"] fun vs H Q E h=>?_;obtain⟨x,y,v,w1,rfl,hx,hy,vv,vw,hdp,lv,lw,k⟩:=h;refine⟨rfl,fun nd f cdv A outer s hr=>?_⟩;have hr:jE (L+1) (A.deeper (tQ "list_row" (gW (top 106)) s.heap.objs.size f cdv)):=hr;have hu:=Vt hr;obtain⟨fc,fdc,hfc,kpc,hbc,Fc⟩:=(RW (P:=P) (w:=w) (base:=base) T).ex;refine⟨_,aI (cM (i:=2) nd rfl (bP rfl) (bB (eR T) (hr.mono (by omega)) ⟨rfl,rfl,rfl⟩ (aA (pv 0) aD))) (aI (cM (i:=3) nd rfl (bP rfl) (bB (eR T) (hr.mono (by omega)) ⟨rfl,rfl,rfl⟩ (aA (pv 1) aD))) (aI (cM (i:=4) nd rfl (bP rfl) Ru) (aI (pI (gH ⟨rfl,rfl,rfl⟩) rfl (XD (by rfl) T.n_range (aA (cX cV rfl T.n_len cE (aA (pv 2) aD)) (aA (MS EC cA) (aA (MS EC cA) aD)))) (eY (i:=5) nd rfl (bP rfl)) (aN (pI (gH ⟨rfl,rfl,rfl⟩) rfl (XD (by rfl) T.n_range (aA (cX cV rfl T.n_len cE (aA (pv 3) aD)) (aA (MS EC cA) (aA (MS EC cA) aD)))) (eY (i:=6) nd rfl (bP rfl)) (aI (cM (i:=7) nd rfl (bP rfl) (bB (Ig T B hL hd Rr) hr ⟨rfl,rfl,rfl⟩ (aA (pv 2) (aA (pv 3) (aA (pv 4) (aA (pv 5) (aA (pv 6) aD))))))) (aN (Ux hu (pv 4) (iP (aA (pv 5) (aA (pv 6) aD))) (Rx (k:=1) (hr.mono (by omega)) rfl (pv 7) (dM (v:=.ref fc) (by rfl) hfc rfl) (nR (LM T) T.k_Row (hr.mono (by omega)) ⟨rfl,rfl,rfl⟩ (aA (eJ aD) (aA cA aD))) T.n_min) rfl)))))) (aN (bG (OJ hu (pv 4) (iP (aA cA (aA cA aD))) (fun _ _=>rfl))))))),?_⟩;obtain⟨gv,cv,dv⟩:=VM.dR.mp vv;obtain⟨gw,cw,dw⟩:=VM.dR.mp vw;obtain⟨p,o,c,zs,rfl,h1,h2,h3⟩:=hx.parts;obtain⟨p',o',c',ws,rfl,g1,g2,g3⟩:=hy.parts;have h3:fW K H zs (Vatwva.itemsOf v):=h3;have g3:fW K H ws (Vatwva.itemsOf w1):=g3;have al:(Vatwva.itemsOf v).length≤12:=(gv.items lv).1;have bl:(Vatwva.itemsOf w1).length≤12:=(gw.items lw).1;have zl:zs.length=(Vatwva.itemsOf v).length:=h3.length;have wl:ws.length=(Vatwva.itemsOf w1).length:=g3.length;have av:∀x∈Vatwva.itemsOf v,Vatwva.isValue x=true∧Vatwva.deep x≤d:=fun x hx=>by obtain⟨y,hy,rfl⟩:=aX.mp hx;exact⟨VM.oR vv hy,by have:=VM.wT gv.1 hy;omega⟩
 have bv:∀y∈Vatwva.itemsOf w1,Vatwva.isValue y=true:=fun y hy=>VM.BR vw hy;generalize Vatwva.itemsOf v=as at h3 al zl av k;generalize Vatwva.itemsOf w1=bs at g3 bl wl bv k;refine⟨_,rfl,p,_,_,rfl,h1,rfl,_,rfl,p',_,_,rfl,g1,rfl,fun R hR=>?_⟩;have s0:=aZ.upd (o:=.dT []) hR;obtain⟨n,hn⟩:∃n:Nat,n=zs.length:=⟨_,rfl⟩;obtain⟨m,hm⟩:∃m:Nat,m=ws.length:=⟨_,rfl⟩;have rg:∀n:Nat,n≤12→Yf (n:Int) (-1) (-1) (n+1):=fun n hn=>by
  have:=Yf.neg (i:=(n:Int)) (j:= -1) (by omega) (by omega) (by omega) (by omega)
  rwa [show((n:Int) - -1).toNat=n+1 by omega]at this
 refine⟨_,rfl,c,zs,rfl,.inr (s0.sqT h2),_,rfl,_,rfl,_,_,_,zs.length+1,rfl,rg _ (by omega),QI (n:=zs.length+1) (fun k σ H'=>aZ H H'∧∃kvs s5 s6 s7,σ=[some (.ref p),some (.ref p'),some (.ref c),some (.ref c'),some (.ref R),s5,s6,s7]∧H' R=some (.dT kvs)∧kvs.length≤13 * k∧xN a K H H' kvs as bs (fun i _=>as.length < i+k)) ⟨s0,[],none,none,none,rfl,aG,aR _,fun i j hi _ hk=>absurd hi (by omega)⟩ ?_ ?_⟩
 ·rintro i σ H' hi ⟨sm,kvs,s5,s6,s7,rfl,hR',hkl,hcl⟩;rw[←hn]at hi ⊢;obtain⟨g,hg⟩:∃g,g=as.length - i:=⟨_,rfl⟩;have eg:(n:Int)+(i:Nat) * -1=((g:Nat):Int):=by omega
  refine⟨_,rfl,c',ws,rfl,.inr (sm.sqT g2),_,rfl,_,rfl,_,_,_,ws.length+1,rfl,rg _ (by omega),QI (n:=ws.length+1) (fun j σ H'=>aZ H H'∧∃kvs s6 s7,σ=[some (.ref p),some (.ref p'),some (.ref c),some (.ref c'),some (.ref R),some (.int ((n:Int)+(i:Nat) * -1)),s6,s7]∧H' R=some (.dT kvs)∧kvs.length≤13 * i+j∧xN a K H H' kvs as bs (fun i' j'=>g < i'∨(i'=g∧bs.length < j'+j))) ⟨sm,kvs,s6,s7,rfl,hR',by omega,fun i' j' hi' hj' hk=>hcl i' j' hi' hj' (by rcases hk with z | ⟨_,z⟩<;>omega)⟩ ?_ ?_⟩
  ·rintro j σ H' hj ⟨sm,kvs,s6,s7,rfl,hR',hkl,hcl⟩;rw[←hm]at hj ⊢;obtain⟨q,hq⟩:∃q,q=bs.length - j:=⟨_,rfl⟩;have eq:(m:Int)+(j:Nat) * -1=((q:Nat):Int):=by omega
   refine⟨_,rfl,_,rfl,_,rfl,_,rfl,_,rfl,c,c',R,g,q,zs,ws,kvs,as,bs,by rw[←eg,←eq];rfl,⟨sm.sqT h2,h3.tups sm.tups,sm.sqT g2,g3.tups sm.tups,hR',av,bv,al,bl,by omega,by omega,hcl.weak fun i' j' hk hj'=>?_⟩,fun H2 D xs hD W2=>?_⟩
   ·rcases hk with z | ⟨z,z2⟩
    ·exact .inl z
    ·exact .inr ⟨z,by omega⟩
   have hDH:=dW.fresh sm hD;refine⟨_,rfl,aY _,fun l hl=>fun x0 dx0 hx0 hdx0 ne0=>⟨x0,dx0,_,_,rfl,aG,rfl,?_⟩⟩;have hlH:H l=none:=dW.fresh (sm.trans W2.same) hl;obtain⟨s7,r7⟩:=ZI (a:=a) (K:=K) (H:=H) (r:=⟨0,[]⟩) (c:=0) hx0 hdx0 aG (.nil) rfl hlH;have s37:=(aZ.upd (o:=.lst []) hl).trans s7;have smAll:=(sm.trans W2.same).trans s37;refine⟨D,fc,xs,AO (Ln cC q (as.drop g) (bs.drop q)),rfl,rfl,gX.of (s37 _ _ W2.at_),QU hbc Fc (W2.rows.same s37),fun hz=>?_,fun v1 hv1=>?_⟩
   ·have hpb:=r7;have e:gQ cC (as.drop g) (bs.drop q) q=⟨0,[]⟩:=by rw[←VY,eA (show(Ln cC q (as.drop g) (bs.drop q)).length=0 by rw[←W2.rows.length];exact hz)];rfl
    rw[←e]at hpb;refine⟨_,rfl,_,rfl,_,rfl,(by show 2≤aU;decide),fun t ht=>?_⟩;have sT:=aZ.upd (o:=.tup [.int ((n:Int)+(i:Nat) * -1),.int ((m:Int)+(j:Nat) * -1)]) ht;have hR4:=sT _ _ (s37 _ _ (W2.same _ _ hR'));refine⟨R,_,rfl,Lz.t (k:=[.inl ((g:Nat):Int),.inl ((q:Nat):Int)]) hR4 (by rw[aG,eg,eq];rfl) (KW (by omega)),?_⟩;refine⟨dB (smAll.trans sT) hR,_,_,_,rfl,aG,bI (Eo _ _ _) (by omega),?_⟩;exact xN.put hR4 (hcl.same ((W2.same.trans s37).trans sT)) (hpb.same sT) (fun i' j' hk hi' hj'=>by
     rcases hk with z | ⟨z,z2⟩
     ·exact .inr (.inl z)
     ·by_cases e:j'=q
      ·exact .inl ⟨z,e⟩
      ·exact .inr (.inr ⟨z,by omega⟩))
   ·obtain⟨pb,rfl,hpb⟩:=LV (W2.rows.same s37) hv1;rw[VY]at hpb;have hpb:vO a K H _ pb (gQ cC (as.drop g) (bs.drop q) q):=hpb.less ((aZ.refl H).trans (fun b u e=>by have e2:=sm _ _ e;rw[bK (dL e2 hD)];exact e2));refine⟨_,rfl,_,rfl,_,rfl,(by show 2≤aU;decide),fun t ht=>?_⟩;have sT:=aZ.upd (o:=.tup [.int ((n:Int)+(i:Nat) * -1),.int ((m:Int)+(j:Nat) * -1)]) ht;have hR4:=sT _ _ (s37 _ _ (W2.same _ _ hR'));refine⟨R,_,rfl,Lz.t (k:=[.inl ((g:Nat):Int),.inl ((q:Nat):Int)]) hR4 (by rw[aG,eg,eq];rfl) (KW (by omega)),?_⟩;refine⟨dB (smAll.trans sT) hR,_,_,_,rfl,aG,bI (Eo _ _ _) (by omega),?_⟩;exact xN.put hR4 (hcl.same ((W2.same.trans s37).trans sT)) (hpb.same sT) (fun i' j' hk hi' hj'=>by
     rcases hk with z | ⟨z,z2⟩
     ·exact .inr (.inl z)
     ·by_cases e:j'=q
      ·exact .inl ⟨z,e⟩
      ·exact .inr (.inr ⟨z,by omega⟩))
  ·rintro σ H' ⟨sm,kvs,s6,s7,rfl,hR',hkl,hcl⟩;refine⟨sm,kvs,_,s6,s7,rfl,hR',by omega,fun i' j' hi' hj' hk=>hcl i' j' hi' hj' (by omega)⟩
 ·rintro σ H' ⟨sm,kvs,s5,s6,s7,rfl,hR',hkl,hcl⟩;obtain⟨pc,hc,rc⟩:=hcl 0 0 (aY _) (aY _) (by omega);refine⟨_,rfl,(by show 2≤aU;decide),fun t ht=>?_⟩;have sT:=aZ.upd (o:=.tup [.int 0,.int 0]) ht;refine⟨R,.ref pc,rfl,zJ (i:=0) (j:=0) (sT _ _ hR') aG hc,k _ pc (sm.trans sT) (rc.same sT)⟩
theorem QV:vA v=("record":Str)↔Vatwva.isRecord v=true:=by unfold vA;cases Vatwva.isRecord v<;>cases Vatwva.isList v<;>cases vT v<;>decide
theorem WP (h:¬Vatwva.isRecord v=true):vA v=("list":Str)↔Vatwva.isList v=true:=by unfold vA;revert h;cases Vatwva.isRecord v<;>cases Vatwva.isList v<;>cases vT v<;>decide
theorem Dc (h:Vatwva.isList v=true):¬Vatwva.isRecord v=true:=by
 cases v with
 | sub n l k r=>cases l<;>simp_all [Vatwva.isList,Vatwva.isRecord]
 | _=>simp[Vatwva.isRecord]
theorem BC (T:iJ K mg a) (B:sI P w K mg a):∀d:Nat,d≤100→gV P w K mg base (12+3 * d) "least_row" ["first","second"] (wC a K d)
 | 0,_=>by refine kI T.f_least_row ["first","second","setting"] fun vs H Q E h=>?_;obtain⟨x,y,v,w1,rfl,hx,hy,vv,vw,hd,_⟩:=h;refine⟨rfl,fun nd _ _ _ _ _ hr=>?_⟩;exact absurd (VM.qO hx.1) (by omega)
 | d+1,hd=>by
  have R:=BC T B d (by omega);have e3:12+3 * (d+1)=12+3 * d+2+1:=by omega
  rw[e3];refine kI T.f_least_row ["first","second","setting"] fun vs H Q E h=>?_;obtain⟨x,y,v,w1,rfl,hx,hy,vv,vw,hdp,k⟩:=h;refine⟨rfl,fun nd f cdv A outer s hr=>?_⟩;have hr:jE (12+3 * d+2) (A.deeper (tQ "least_row" (gW (top 107)) s.heap.objs.size f cdv)):=hr;have hu:=hr.units;obtain⟨fc,fdc,hfc,kpc,hbc,Fc⟩:=(RW (P:=P) (w:=w) (base:=base) T).ex;obtain⟨u2,hm2,ru2⟩:=T.c_RECORD;obtain⟨u3,hm3,ru3⟩:=T.c_LIST;refine⟨_,aI (fA (dA (ZW hu) (pv 0) (pv 1) (dJ _)) (aN (bG (nR (LM T) T.k_Row (hr.mono (by omega)) ⟨rfl,rfl,rfl⟩ (aA (eJ aD) (aA cA aD))))) cY) (aI (cM (i:=2) nd rfl (bP rfl) (bB (LN T B) (hr.mono (by omega)) ⟨rfl,rfl,rfl⟩ (aA (nR (qX T) T.k_Edit (hr.mono (by omega)) ⟨rfl,rfl,rfl⟩ (aA dZ (aA (iP aD) (aA (iP (aA (pv 1) aD)) aD)))) aD))) (aI (fA (dA WZ (bB (mC T) (hr.mono (by omega)) ⟨rfl,rfl,rfl⟩ (aA (pv 0) aD)) (bB (mC T) (hr.mono (by omega)) ⟨rfl,rfl,rfl⟩ (aA (pv 1) aD)) (dJ _)) (aN (bG (pv 2))) cY) (aI (fA (PW.pt (SH (dA qF (bB (mC T) (hr.mono (by omega)) ⟨rfl,rfl,rfl⟩ (aA (pv 0) aD)) (dM rfl hm2 ru2) (dJ _)) (KC (dA (ZW hu) (bB (rY T) (hr.mono (by omega)) ⟨rfl,rfl,rfl⟩ (aA (pv 0) aD)) (bB (rY T) (hr.mono (by omega)) ⟨rfl,rfl,rfl⟩ (aA (pv 1) aD)) (dJ _))))) (aN (bG (Ky (k:=1) (hr.mono (by omega)) rfl (eJ (aA (bB (US T (by omega) (by omega) R) (hr.mono (by omega)) ⟨rfl,rfl,rfl⟩ (aA (pv 0) (aA (pv 1) aD))) (aA (pv 2) aD))) (dM (v:=.ref fc) (by rfl) hfc rfl) T.n_min))) cY) (aI (fA (dA qF (bB (mC T) (hr.mono (by omega)) ⟨rfl,rfl,rfl⟩ (aA (pv 0) aD)) (dM rfl hm3 ru3) (dJ _)) (aN (bG (Ky (k:=1) (hr.mono (by omega)) rfl (eJ (aA (bB (Du T B (by omega) (by omega) R) (hr.mono (by omega)) ⟨rfl,rfl,rfl⟩ (aA (pv 0) (aA (pv 1) aD))) (aA (pv 2) aD))) (dM (v:=.ref fc) (by rfl) hfc rfl) T.n_min))) cY) (aN (bG (pv 2))))))),?_⟩;obtain⟨gv,cv,dv⟩:=VM.dR.mp vv;obtain⟨gw,cw,dw⟩:=VM.dR.mp vw;have dv:Vatwva.deep v≤6:=dv;have dw:Vatwva.deep w1≤6:=dw;rw[VM.Kg gv.1]at k;refine⟨_,rfl,_,rfl,YZ hx hy gv gw (by omega) (by omega) ⟨_,rfl,nB (fun c=>?_) (fun c=>?_)⟩⟩
  ·have c:v=w1:=of_decide_eq_true c;have e:VM.lQ cC v w1=⟨0,[]⟩:=if_pos c;rw[e]at k;refine⟨aY _,fun l hl=>fun x0 dx0 hx0 hdx0 ne0=>⟨x0,dx0,_,_,rfl,aG,rfl,?_⟩⟩;obtain⟨s7,r7⟩:=ZI (a:=a) (K:=K) (H:=H) (r:=⟨0,[]⟩) (c:=0) hx0 hdx0 aG (.nil) rfl hl;exact k _ x0 ((aZ.upd hl).trans s7) r7
  ·have c:¬v=w1:=fun z=>c (decide_eq_true z);refine⟨aY _,fun t0 ht0=>⟨_,rfl,(by show 1≤aU;decide),fun t1 ht1=>fun x2 dx2 hx2 hdx2 ne=>⟨x2,dx2,_,_,_,rfl,aG,rfl,?_⟩⟩⟩;have sa:=(aZ.upd (o:=.tup []) ht0).trans (aZ.upd (o:=.tup [y]) ht1);have sb:=vB (a:=a) (y1:=.str "set") (y2:=.ref t0) (y3:=.ref t1) hx2 hdx2;have sc:=sa.trans sb;refine⟨x2,.set [] w1,rfl,⟨dx2,t0,t1,aG,sb.sqT ((aZ.upd ht1).sqT (.of' aG)),y,sb.sqT (.of' aG),hy.tups sc.tups⟩,(by unfold Vatwvc.isEdit;exact vw),fun H2 ps s2 r2=>?_⟩;have sm:=sc.trans s2;have rS:vO a K H H2 ps (mV w1):=r2.less sc;obtain⟨p,o,c1,zs,rfl,h1,h2,h3⟩:=hx.parts;obtain⟨p',o',c1',ws,rfl,g1,g2,g3⟩:=hy.parts;refine⟨_,rfl,p,_,_,rfl,sm.sqT h1,rfl,_,rfl,p',_,_,rfl,sm.sqT g1,rfl,rfl,_,rfl,nB (fun ck=>?_) (fun ck=>?_)⟩
   ·have ck:¬vA v=vA w1:=fun z=>by rw[z]at ck;simp at ck
    have e:VM.lQ cC v w1=mV w1:=by unfold VM.lQ;rw[if_neg c,if_neg (fun z=>ck ((QV.mpr z.1).trans (QV.mpr z.2).symm)),if_neg (fun z=>ck (((WP (Dc z.1)).mpr z.1).trans ((WP (Dc z.2)).mpr z.2).symm))]
    rw[e]at k;exact⟨_,rfl,k H2 ps sm rS⟩
   ·have ck:vA v=vA w1:=Decidable.byContradiction fun z=>ck (by simp[z]);by_cases rv:Vatwva.isRecord v=true
    ·have rw1:Vatwva.isRecord w1=true:=QV.mp (ck▸QV.mpr rv);have hk:=QV.mpr rv;obtain⟨q,b,cc,zz,e,f1,f2,f3,f4⟩:=hx.rec rv;cases e;obtain⟨q',b',cc',zz',e,f1',f2',f3',f4'⟩:=hy.rec rw1;cases e;refine⟨_,rfl,p,_,_,rfl,sm.sqT h1,rfl,rfl,_,rfl,pE (decide_eq_true (by rw[hk])) ⟨_,rfl,p,_,_,rfl,sm.sqT f1,rfl,_,rfl,p',_,_,rfl,sm.sqT f1',rfl,Wn (sm.sqT f2) (sm.sqT f2') ⟨_,rfl,nB (fun cn=>?_) (fun cn=>?_)⟩⟩⟩
     ·have cn:(Vatwva.kidsOf v).map (fun x=>x.1)=(Vatwva.kidsOf w1).map (fun x=>x.1):=of_decide_eq_true cn;have e:VM.lQ cC v w1=cheaper (VM.LU cC (Vatwva.kidsOf v) (Vatwva.kidsOf w1)) (mV w1):=by unfold VM.lQ;rw[if_neg c,if_pos ⟨rv,rw1⟩,if_pos cn]
      rw[e]at k;refine⟨_,rfl,_,rfl,_,_,v,w1,rfl,hx.tups sm.tups,hy.tups sm.tups,vv,vw,hdp,rv,rw1,cn,fun H3 p3 s3 r3=>⟨_,rfl,(by show 2≤aU;decide),fun l hl=>?_⟩⟩;have s4:=aZ.upd (o:=.lst [.ref p3,.ref ps]) hl;have rs:PD a K H _ [.ref p3,.ref ps] [VM.LU cC (Vatwva.kidsOf v) (Vatwva.kidsOf w1),mV w1]:=.cons ⟨p3,rfl,(r3.less sm).same s4⟩ (.cons ⟨ps,rfl,(rS.same s3).same s4⟩ .nil);refine⟨l,fc,_,_,rfl,rfl,gX.of aG,QU hbc Fc rs,(by show 0 < 2;decide),fun v9 hv9=>?_⟩;obtain⟨pb,rfl,hpb⟩:=LV rs hv9;exact k _ pb ((sm.trans s3).trans s4) hpb
     ·have cn:¬(Vatwva.kidsOf v).map (fun x=>x.1)=(Vatwva.kidsOf w1).map (fun x=>x.1):=fun z=>cn (decide_eq_true z);have e:VM.lQ cC v w1=mV w1:=by unfold VM.lQ;rw[if_neg c,if_pos ⟨rv,rw1⟩,if_neg cn]
      rw[e]at k;refine⟨_,rfl,p,_,_,rfl,sm.sqT h1,rfl,rfl,_,rfl,mP (decide_eq_false (by rw[hk];decide)) ⟨_,rfl,k H2 ps sm rS⟩⟩
    ·have hk:¬vA v=("record":Str):=fun z=>rv (QV.mp z);have rw1:¬Vatwva.isRecord w1=true:=fun z=>hk (ck.trans (QV.mpr z));refine⟨_,rfl,p,_,_,rfl,sm.sqT h1,rfl,rfl,_,rfl,mP (decide_eq_false (fun z=>hk (V.str.inj z))) (xK ?_)⟩;by_cases lv:Vatwva.isList v=true
     ·have lw:Vatwva.isList w1=true:=(WP rw1).mp (ck▸(WP rv).mpr lv);have e:VM.lQ cC v w1=cheaper (gQ cC (Vatwva.itemsOf v) (Vatwva.itemsOf w1) 0) (mV w1):=by unfold VM.lQ;rw[if_neg c,if_neg (fun z=>rv z.1),if_pos ⟨lv,lw⟩]
      rw[e]at k;refine⟨_,rfl,p,_,_,rfl,sm.sqT h1,rfl,rfl,_,rfl,pE (decide_eq_true (by rw[(WP rv).mpr lv])) ?_⟩;refine⟨_,rfl,_,rfl,_,_,v,w1,rfl,hx.tups sm.tups,hy.tups sm.tups,vv,vw,hdp,lv,lw,fun H3 p3 s3 r3=>⟨_,rfl,(by show 2≤aU;decide),fun l hl=>?_⟩⟩;have s4:=aZ.upd (o:=.lst [.ref p3,.ref ps]) hl;have rs:PD a K H _ [.ref p3,.ref ps] [gQ cC (Vatwva.itemsOf v) (Vatwva.itemsOf w1) 0,mV w1]:=.cons ⟨p3,rfl,(r3.less sm).same s4⟩ (.cons ⟨ps,rfl,(rS.same s3).same s4⟩ .nil);refine⟨l,fc,_,_,rfl,rfl,gX.of aG,QU hbc Fc rs,(by show 0 < 2;decide),fun v9 hv9=>?_⟩;obtain⟨pb,rfl,hpb⟩:=LV rs hv9;exact k _ pb ((sm.trans s3).trans s4) hpb
     ·have e:VM.lQ cC v w1=mV w1:=by unfold VM.lQ;rw[if_neg c,if_neg (fun z=>rv z.1),if_neg (fun z=>lv z.1)]
      rw[e]at k;exact⟨_,rfl,p,_,_,rfl,sm.sqT h1,rfl,rfl,_,rfl,mP (decide_eq_false (fun z=>lv ((WP rv).mp (V.str.inj z)))) ⟨_,rfl,k H2 ps sm rS⟩⟩
def Mv (p lu lr:aQ) (H H':Hp):Prop:=(∀b o,b≠p→b≠lu→b≠lr→H b=some o→H' b=some o)∧∀b,H' b=none→H b=none
theorem Mv.refl (p lu lr:aQ) (H:Hp):Mv p lu lr H H:=⟨fun _ _ _ _ _ e=>e,fun _ e=>e⟩
theorem Mv.trans (x:Mv p lu lr H H1) (y:Mv p lu lr H1 H2):Mv p lu lr H H2:=⟨fun b o n1 n2 n3 e=>y.1 b o n1 n2 n3 (x.1 b o n1 n2 n3 e),fun b e=>x.2 b (y.2 b e)⟩
theorem Kv (s:aZ H H'):Mv p lu lr H H':=⟨fun b o _ _ _ e=>s b o e,fun b e=>dW.fresh s e⟩
theorem Mv.upd (m:Mv p lu lr H H') (h:q=p∨q=lu∨q=lr∨H q=none):Mv p lu lr H (upd H' q o):=⟨fun b u n1 n2 n3 e=>by
 have hne:b≠q:=fun z=>by
  subst z;rcases h with h | h | h | h
  ·exact n1 h
  ·exact n2 h
  ·exact n3 h
  ·rw[h]at e;cases e
 rw[bK hne];exact m.1 b u n1 n2 n3 e,fun b e=>by
 have hne:b≠q:=fun z=>by rw[z,aG]at e;cases e
 rw[bK hne]at e;exact m.2 b e⟩
def uY (x y:V) (lu lr:aQ):List (Str×V):=[("value",x),("other",y),("undoable",.ref lu),("redoable",.ref lr)]
theorem Paired.unsnoc:∀{xs:List α} {ys:List β} {y:β},gY R xs (ys++[y])→∃xl x,xs=xl++[x]∧gY R xl ys∧R x y
 | _,[],y,h=>by
  cases h with
  | cons r t=>cases t;exact⟨[],_,rfl,.nil,r⟩
 | _,z::ys,y,h=>by
  cases h with
  | cons r t=>obtain⟨xl,x,rfl,p,q⟩:=Paired.unsnoc t;exact⟨_::xl,x,rfl,.cons r p,q⟩
structure qH (a:mI) (K:aB) (H:Hp) (p lu lr:aQ) (v o:fT) (us rs:List fT):Prop where
 ex:∃dx x y xs ys,H p=some (.ins a.cDesk dx (uY x y lu lr))∧H lu=some (.lst xs)∧H lr=some (.lst ys)∧lu≠lr∧oB K H x v∧oB K H y o∧fW K H xs us∧fW K H ys rs
theorem qH.same (s:aZ H H') (h:qH a K H p lu lr v o us rs):qH a K H' p lu lr v o us rs:=by obtain⟨dx,x,y,xs,ys,h1,h2,h3,h4,h5,h6,h7,h8⟩:=h.ex;exact⟨dx,x,y,xs,ys,s _ _ h1,s _ _ h2,s _ _ h3,h4,h5.tups s.tups,h6.tups s.tups,h7.tups s.tups,h8.tups s.tups⟩
theorem Mv.tups (h1:H p=some (.ins C dx fs)) (h2:H lu=some (.lst xs)) (h3:H lr=some (.lst ys)) (m:Mv p lu lr H H'):zH H H':=⟨fun b zs e=>m.1 b _ (kH e h1 (by intro z;cases z)) (kH e h2 (by intro z;cases z)) (kH e h3 (by intro z;cases z)) e,fun b o u e=>m.1 b _ (kH e h1 (by intro z;cases z)) (kH e h2 (by intro z;cases z)) (kH e h3 (by intro z;cases z)) e⟩
def Ak (a:mI) (K:aB):Sp:=fun vs H Q _=>∃p dx,vs=[.ref p]∧H p=some (.ins a.cDesk dx [])∧∀H' lu lr,qH a K H' p lu lr (Vatwva.vRec .nil) (Vatwva.vRec .nil) [] []→(∀b o,b≠p→H b=some o→H' b=some o)→H lu=none→H lr=none→Q .non H'
theorem Um (T:iJ K mg a) (B:sI P w K mg a):Vr P w K mg base 1 a.cDesk ["self"] (Ak a K):=by
 refine B7 T.mk_Desk ["self"] fun vs H Q E h=>?_;obtain⟨p,dx,rfl,hp,k⟩:=h;refine⟨rfl,fun nd _ _ _ _ _ hr=>?_⟩;refine⟨_,aI (nT (pv 0) (dM (v:=.ref a.dEMPTY_RECORD) (by rfl) T.d_EMPTY_RECORD rfl) rfl) (aI (nT (pv 0) (dM (v:=.ref a.dEMPTY_RECORD) (by rfl) T.d_EMPTY_RECORD rfl) rfl) (aI (nT (pv 0) (eJ aD) rfl) (aN (nT (pv 0) (eJ aD) rfl)))),?_⟩;refine⟨_,rfl,p,_,dx,_,rfl,hp,T.q_Desk,T.na_Desk_value,(by show 0 < 1000;decide),?_⟩;refine⟨_,rfl,p,_,dx,_,rfl,aG,T.q_Desk,T.na_Desk_other,(by show 1 < 1000;decide),?_⟩;refine⟨aY _,fun lu hlu=>⟨_,rfl,p,_,dx,_,rfl,(aZ.upd hlu) _ _ aG,T.q_Desk,T.na_Desk_undoable,(by show 2 < 1000;decide),?_⟩⟩;refine⟨aY _,fun lr hlr=>⟨_,rfl,p,_,dx,_,rfl,(aZ.upd hlr) _ _ aG,T.q_Desk,T.na_Desk_redoable,(by show 3 < 1000;decide),?_⟩⟩;have nu:lu≠p:=fun z=>by rw[z,aG]at hlu;cases hlu
 have nr:lr≠p:=fun z=>by rw[z,aG]at hlr;cases hlr
 have nur:lr≠lu:=fun z=>by rw[z,bK nu,aG]at hlr;cases hlr
 have hu0:H lu=none:=by rw[bK nu,bK nu]at hlu;exact hlu
 have hr0:H lr=none:=by rw[bK nr,bK nur,bK nr,bK nr]at hlr;exact hlr
 refine k _ lu lr ⟨dx,_,_,[],[],by rw[aG];rfl,?_,?_,nur.symm,B.empty _,B.empty _,.nil,.nil⟩ (fun b o hb e=>?_) hu0 hr0
 ·rw[bK nu,bK nur.symm,bK nu,aG]
 ·rw[bK nr,aG]
 ·rw[bK hb,bK (dL e hr0),bK hb,bK (dL e hu0),bK hb,bK hb];exact e
def UW (a:mI) (K:aB):Sp:=fun vs H Q _=>∃(p lu lr:aQ) (v o:fT) (us rs:List fT) (x:V) (v':fT),vs=[.ref p,x]∧qH a K H p lu lr v o us rs∧oB K H x v'∧∀H' lu' lr',qH a K H' p lu' lr' v' o [] []→Mv p lu lr H H'→H lu'=none→H lr'=none→Q .non H'
theorem UP (T:iJ K mg a):Jx P w K mg base 1 a.cDesk "begin_with" ["self","value"] (UW a K):=by
 refine Ro T.m_Desk_begin_with ["self","value"] fun vs H Q E h=>?_;obtain⟨p,lu,lr,v,o,us,rs,x,v',rfl,hd,hx,k⟩:=h;refine⟨rfl,fun nd _ _ _ _ _ hr=>?_⟩;obtain⟨dx,x0,y0,xs,ys,h1,h2,h3,h4,h5,h6,h7,h8⟩:=hd.ex;refine⟨_,aI (nT (pv 0) (pv 1) rfl) (aI (nT (pv 0) (eJ aD) rfl) (aN (nT (pv 0) (eJ aD) rfl))),?_⟩;refine⟨_,rfl,_,rfl,p,_,dx,_,rfl,h1,T.q_Desk,T.na_Desk_value,(by show 4 < 1000;decide),?_⟩;refine⟨aY _,fun l1 hl1=>⟨_,rfl,p,_,dx,_,rfl,(aZ.upd hl1) _ _ aG,T.q_Desk,T.na_Desk_undoable,(by show 4 < 1000;decide),?_⟩⟩;refine⟨aY _,fun l2 hl2=>⟨_,rfl,p,_,dx,_,rfl,(aZ.upd hl2) _ _ aG,T.q_Desk,T.na_Desk_redoable,(by show 4 < 1000;decide),?_⟩⟩;have n1:l1≠p:=fun z=>by rw[z,aG]at hl1;cases hl1
 have n2:l2≠p:=fun z=>by rw[z,aG]at hl2;cases hl2
 have n12:l2≠l1:=fun z=>by rw[z,bK n1,aG]at hl2;cases hl2
 have e1:H l1=none:=by rw[bK n1]at hl1;exact hl1
 have e2:H l2=none:=by rw[bK n2,bK n12,bK n2]at hl2;exact hl2
 have m:Mv p lu lr H (upd (upd (upd (upd (upd H p (.ins a.cDesk dx (pJ "value" x (uY x0 y0 lu lr)))) l1 (.lst [])) p (.ins a.cDesk dx (pJ "undoable" (.ref l1) (pJ "value" x (uY x0 y0 lu lr))))) l2 (.lst [])) p (.ins a.cDesk dx (pJ "redoable" (.ref l2) (pJ "undoable" (.ref l1) (pJ "value" x (uY x0 y0 lu lr)))))):=(((((Mv.refl p lu lr H).upd (.inl rfl)).upd (.inr (.inr (.inr e1)))).upd (.inl rfl)).upd (.inr (.inr (.inr e2)))).upd (.inl rfl);have tu:=Mv.tups h1 h2 h3 m;exact k _ l1 l2 ⟨dx,x,y0,[],[],by rw[aG];rfl,by rw[bK n1,bK n12.symm,bK n1,aG],by rw[bK n2,aG],n12.symm,hx.tups tu,h6.tups tu,.nil,.nil⟩ m e1 e2
def Iw (a:mI) (K:aB):Sp:=fun vs H Q _=>∃(p lu lr:aQ) (v o:fT) (us rs:List fT) (x:V) (v':fT),vs=[.ref p,x]∧qH a K H p lu lr v o us rs∧oB K H x v'∧us.length≤100000∧∀H' lr',qH a K H' p lu lr' v' o (us++[v]) []→Mv p lu lr H H'→H lr'=none→Q .non H'
theorem HQ (T:iJ K mg a):Jx P w K mg base 1 a.cDesk "do_deed" ["self","made"] (Iw a K):=by
 refine Ro T.m_Desk_do_deed ["self","made"] fun vs H Q E h=>?_;obtain⟨p,lu,lr,v,o,us,rs,x,v',rfl,hd,hx,hn,k⟩:=h;refine⟨rfl,fun nd _ _ _ _ _ hr=>?_⟩;obtain⟨dx,x0,y0,xs,ys,h1,h2,h3,h4,h5,h6,h7,h8⟩:=hd.ex;refine⟨_,aI (dN (nG bF bR bS gF (cJ (pv 0) rfl) (aA (cJ (pv 0) rfl) aD))) (aI (nT (pv 0) (eJ aD) rfl) (aN (nT (pv 0) (pv 1) rfl))),?_⟩;have nlp:p≠lu:=kH h1 h2 (by intro z;cases z);refine⟨_,rfl,p,_,dx,_,_,rfl,h1,T.q_Desk,T.na_Desk_undoable,rfl,.inl ⟨rfl,_,gX.of h2⟩,_,rfl,p,_,dx,_,_,rfl,h1,T.q_Desk,T.na_Desk_value,rfl,lu,xs,x0,rfl,rfl,h2,KW (by rw[h7.length];omega),?_⟩;refine⟨aY _,fun l2 hl2=>⟨_,rfl,p,_,dx,_,rfl,(aZ.upd hl2) _ _ (by rw[bK nlp];exact h1),T.q_Desk,T.na_Desk_redoable,(by show 4 < 1000;decide),?_⟩⟩;refine⟨_,rfl,_,rfl,p,_,dx,_,rfl,aG,T.q_Desk,T.na_Desk_value,(by show 4 < 1000;decide),?_⟩;have n2u:l2≠lu:=fun z=>by rw[z,aG]at hl2;cases hl2
 have e2:H l2=none:=by rw[bK n2u]at hl2;exact hl2
 have n2:l2≠p:=fun z=>by rw[z,h1]at e2;cases e2
 have m:Mv p lu lr H (upd (upd (upd (upd H lu (.lst (xs++[x0]))) l2 (.lst [])) p (.ins a.cDesk dx (pJ "redoable" (.ref l2) (uY x0 y0 lu lr)))) p (.ins a.cDesk dx (pJ "value" x (pJ "redoable" (.ref l2) (uY x0 y0 lu lr))))):=((((Mv.refl p lu lr H).upd (.inr (.inl rfl))).upd (.inr (.inr (.inr e2)))).upd (.inl rfl)).upd (.inl rfl);have tu:=Mv.tups h1 h2 h3 m;exact k _ l2 ⟨dx,x,y0,xs++[x0],[],by rw[aG];rfl,by rw[bK nlp.symm,bK nlp.symm,bK n2u.symm,aG],by rw[bK n2,bK n2,aG],n2u.symm,hx.tups tu,h6.tups tu,Paired.snoc (h7.tups tu) (h5.tups tu),.nil⟩ m e2
def Bb (a:mI) (K:aB):Sp:=fun vs H Q E=>∃(p lu lr:aQ) (v o:fT) (us rs:List fT),vs=[.ref p]∧qH a K H p lu lr v o us rs∧us.length≤100000∧rs.length≤100000∧(us=[]→E (.ref a.xNoDeed) none H)∧∀u l,us=l++[u]→∀H',qH a K H' p lu lr u o l (rs++[v])→Mv p lu lr H H'→Q .non H'
theorem ZU (T:iJ K mg a):Jx P w K mg base 1 a.cDesk "undo_deed" ["self"] (Bb a K):=by
 refine Ro T.m_Desk_undo_deed ["self"] fun vs H Q E h=>?_;obtain⟨p,lu,lr,v,o,us,rs,rfl,hd,hn1,hn2,k1,k2⟩:=h;refine⟨rfl,fun nd _ _ _ _ _ hr=>?_⟩;obtain⟨dx,x0,y0,xs,ys,h1,h2,h3,h4,h5,h6,h7,h8⟩:=hd.ex;refine⟨_,aI (fA (dA qF (cX cV rfl T.n_len cE (aA (cJ (pv 0) rfl) aD)) cA (dJ _)) (aN (iV ⟨rfl,rfl,rfl⟩ rfl rfl T.x_NoDeed.1 T.x_NoDeed.2)) cY) (aI (dN (nG bF bR bS gF (cJ (pv 0) rfl) (aA (cJ (pv 0) rfl) aD))) (aN (nT (pv 0) (SE bF GS Bk Rk (cJ (pv 0) rfl)) rfl))),?_⟩;have nlu:p≠lu:=kH h1 h2 (by intro z;cases z);have nlr:p≠lr:=kH h1 h3 (by intro z;cases z);refine⟨_,rfl,p,_,dx,_,_,rfl,h1,T.q_Desk,T.na_Desk_undoable,rfl,lu,_,rfl,.inl (gX.of h2),rfl,_,rfl,nB (fun c=>?_) (fun c=>?_)⟩
 ·have c:((xs.length:Nat):Int)=0:=V.int.inj (of_decide_eq_true c);exact k1 (eA (by have:=h7.length;omega))
 ·have c:¬((xs.length:Nat):Int)=0:=fun z=>c (decide_eq_true (by rw[z]));have hne:us≠[]:=fun z=>c (by have:=h7.length;rw[z]at this;rw[this];rfl);obtain⟨l,u,e⟩:∃l u,us=l++[u]:=⟨_,_,(wD hne).symm⟩;obtain⟨xl,xu,ex,px,pu⟩:∃xl xu,xs=xl++[xu]∧fW K H xl l∧oB K H xu u:=Paired.unsnoc (by rw[←e];exact h7);refine⟨_,rfl,p,_,dx,_,_,rfl,h1,T.q_Desk,T.na_Desk_redoable,rfl,.inl ⟨rfl,_,gX.of h3⟩,_,rfl,p,_,dx,_,_,rfl,h1,T.q_Desk,T.na_Desk_value,rfl,lr,_,x0,rfl,rfl,h3,KW (by rw[h8.length];omega),?_⟩;have h1':upd H lr (.lst (ys++[x0])) p=some (.ins a.cDesk dx (uY x0 y0 lu lr)):=by rw[bK nlr];exact h1
  have hF':upd H lr (.lst (ys++[x0])) lu=some (.lst xs):=by rw[bK h4];exact h2
  refine⟨_,rfl,p,_,dx,_,_,rfl,h1',T.q_Desk,T.na_Desk_undoable,rfl,.inl ⟨rfl,_,gX.of hF'⟩,lu,_,xu,rfl,rfl,hF',by rw[ex];simp,?_⟩;refine⟨_,rfl,p,_,dx,_,rfl,by rw[bK nlu];exact h1',T.q_Desk,T.na_Desk_value,(by show 4 < 1000;decide),?_⟩;have m:Mv p lu lr H (upd (upd (upd H lr (.lst (ys++[x0]))) lu (.lst xs.dropLast)) p (.ins a.cDesk dx (pJ "value" xu (uY x0 y0 lu lr)))):=(((Mv.refl p lu lr H).upd (.inr (.inr (.inl rfl)))).upd (.inr (.inl rfl))).upd (.inl rfl);have tu:=Mv.tups h1 h2 h3 m;have eF:upd (upd (upd H lr (.lst (ys++[x0]))) lu (.lst xs.dropLast)) p (.ins a.cDesk dx (pJ "value" xu (uY x0 y0 lu lr))) lu=some (.lst xl):=by rw[bK nlu.symm,aG,ex,vQ]
  have eT:upd (upd (upd H lr (.lst (ys++[x0]))) lu (.lst xs.dropLast)) p (.ins a.cDesk dx (pJ "value" xu (uY x0 y0 lu lr))) lr=some (.lst (ys++[x0])):=by rw[bK nlr.symm,bK h4.symm,aG]
  exact k2 u l e _ ⟨dx,xu,y0,_,_,by rw[aG];rfl,eF,eT,h4,pu.tups tu,h6.tups tu,px.tups tu,Paired.snoc (h8.tups tu) (h5.tups tu)⟩ m
def Az (a:mI) (K:aB):Sp:=fun vs H Q E=>∃(p lu lr:aQ) (v o:fT) (us rs:List fT),vs=[.ref p]∧qH a K H p lu lr v o us rs∧us.length≤100000∧rs.length≤100000∧(rs=[]→E (.ref a.xNoDeed) none H)∧∀u l,rs=l++[u]→∀H',qH a K H' p lu lr u o (us++[v]) l→Mv p lu lr H H'→Q .non H'
theorem ZR (T:iJ K mg a):Jx P w K mg base 1 a.cDesk "redo_deed" ["self"] (Az a K):=by
 refine Ro T.m_Desk_redo_deed ["self"] fun vs H Q E h=>?_;obtain⟨p,lu,lr,v,o,us,rs,rfl,hd,hn1,hn2,k1,k2⟩:=h;refine⟨rfl,fun nd _ _ _ _ _ hr=>?_⟩;obtain⟨dx,x0,y0,xs,ys,h1,h2,h3,h4,h5,h6,h7,h8⟩:=hd.ex;refine⟨_,aI (fA (dA qF (cX cV rfl T.n_len cE (aA (cJ (pv 0) rfl) aD)) cA (dJ _)) (aN (iV ⟨rfl,rfl,rfl⟩ rfl rfl T.x_NoDeed.1 T.x_NoDeed.2)) cY) (aI (dN (nG bF bR bS gF (cJ (pv 0) rfl) (aA (cJ (pv 0) rfl) aD))) (aN (nT (pv 0) (SE bF GS Bk Rk (cJ (pv 0) rfl)) rfl))),?_⟩;have nlu:p≠lu:=kH h1 h2 (by intro z;cases z);have nlr:p≠lr:=kH h1 h3 (by intro z;cases z);refine⟨_,rfl,p,_,dx,_,_,rfl,h1,T.q_Desk,T.na_Desk_redoable,rfl,lr,_,rfl,.inl (gX.of h3),rfl,_,rfl,nB (fun c=>?_) (fun c=>?_)⟩
 ·have c:((ys.length:Nat):Int)=0:=V.int.inj (of_decide_eq_true c);exact k1 (eA (by have:=h8.length;omega))
 ·have c:¬((ys.length:Nat):Int)=0:=fun z=>c (decide_eq_true (by rw[z]));have hne:rs≠[]:=fun z=>c (by have:=h8.length;rw[z]at this;rw[this];rfl);obtain⟨l,u,e⟩:∃l u,rs=l++[u]:=⟨_,_,(wD hne).symm⟩;obtain⟨xl,xu,ex,px,pu⟩:∃xl xu,ys=xl++[xu]∧fW K H xl l∧oB K H xu u:=Paired.unsnoc (by rw[←e];exact h8);refine⟨_,rfl,p,_,dx,_,_,rfl,h1,T.q_Desk,T.na_Desk_undoable,rfl,.inl ⟨rfl,_,gX.of h2⟩,_,rfl,p,_,dx,_,_,rfl,h1,T.q_Desk,T.na_Desk_value,rfl,lu,_,x0,rfl,rfl,h2,KW (by rw[h7.length];omega),?_⟩;have h1':upd H lu (.lst (xs++[x0])) p=some (.ins a.cDesk dx (uY x0 y0 lu lr)):=by rw[bK nlu];exact h1
  have hF':upd H lu (.lst (xs++[x0])) lr=some (.lst ys):=by rw[bK h4.symm];exact h3
  refine⟨_,rfl,p,_,dx,_,_,rfl,h1',T.q_Desk,T.na_Desk_redoable,rfl,.inl ⟨rfl,_,gX.of hF'⟩,lr,_,xu,rfl,rfl,hF',by rw[ex];simp,?_⟩;refine⟨_,rfl,p,_,dx,_,rfl,by rw[bK nlr];exact h1',T.q_Desk,T.na_Desk_value,(by show 4 < 1000;decide),?_⟩;have m:Mv p lu lr H (upd (upd (upd H lu (.lst (xs++[x0]))) lr (.lst ys.dropLast)) p (.ins a.cDesk dx (pJ "value" xu (uY x0 y0 lu lr)))):=(((Mv.refl p lu lr H).upd (.inr (.inl rfl))).upd (.inr (.inr (.inl rfl)))).upd (.inl rfl);have tu:=Mv.tups h1 h2 h3 m;have eF:upd (upd (upd H lu (.lst (xs++[x0]))) lr (.lst ys.dropLast)) p (.ins a.cDesk dx (pJ "value" xu (uY x0 y0 lu lr))) lr=some (.lst xl):=by rw[bK nlr.symm,aG,ex,vQ]
  have eT:upd (upd (upd H lu (.lst (xs++[x0]))) lr (.lst ys.dropLast)) p (.ins a.cDesk dx (pJ "value" xu (uY x0 y0 lu lr))) lu=some (.lst (xs++[x0])):=by rw[bK nlu.symm,bK h4,aG]
  exact k2 u l e _ ⟨dx,xu,y0,_,_,by rw[aG];rfl,eT,eF,h4,pu.tups tu,h6.tups tu,Paired.snoc (h7.tups tu) (h5.tups tu),px.tups tu⟩ m
def SQ (a:mI) (K:aB):Sp:=fun vs H Q _=>∃(p lu lr:aQ) (v o:fT) (us rs:List fT),vs=[.ref p]∧qH a K H p lu lr v o us rs∧Gs H (GD [us.length,rs.length]) Q
theorem wW (T:iJ K mg a):Jx P w K mg base 1 a.cDesk "deed_counts" ["self"] (SQ a K):=by refine Ro T.m_Desk_deed_counts ["self"] fun vs H Q E h=>?_;obtain⟨p,lu,lr,v,o,us,rs,rfl,hd,k⟩:=h;refine⟨rfl,fun nd _ _ _ _ _ hr=>?_⟩;obtain⟨dx,x0,y0,xs,ys,h1,h2,h3,h4,h5,h6,h7,h8⟩:=hd.ex;refine⟨_,aN (bG (eJ (aA (cX cV rfl T.n_len cE (aA (cJ (pv 0) rfl) aD)) (aA (cX cV rfl T.n_len cE (aA (cJ (pv 0) rfl) aD)) aD)))),?_⟩;refine⟨_,rfl,p,_,dx,_,_,rfl,h1,T.q_Desk,T.na_Desk_undoable,rfl,lu,_,rfl,.inl (gX.of h2),_,rfl,p,_,dx,_,_,rfl,h1,T.q_Desk,T.na_Desk_redoable,rfl,lr,_,rfl,.inl (gX.of h3),(by show 2≤aU;decide),fun D hD=>?_⟩;refine k D _ (aZ.upd hD) hD ?_;rw[aG,h7.length,h8.length];rfl
structure yO (a:mI) (K:aB) (H:Hp) (p lu lr:aQ) (n:Nat) (st:OA):Prop where
 ex:∃us rs,qH a K H p lu lr st.value st.other us rs∧VM.sQ st.value st.past.reverse us.reverse∧VM.sQ st.value st.future.reverse rs.reverse∧us.length≤n∧rs.length≤n
 vv:Vatwva.isValue st.value=true
 vo:Vatwva.isValue st.other=true
theorem yO.same {H H':Hp} {p lu lr:aQ} {n:Nat} {st:OA} (s:aZ H H') (h:yO a K H p lu lr n st):yO a K H' p lu lr n st:=by obtain⟨us,rs,h1,h2⟩:=h.ex;exact⟨⟨us,rs,h1.same s,h2⟩,h.vv,h.vo⟩
theorem yO.up {H:Hp} {p lu lr:aQ} {n m:Nat} {st:OA} (hm:n≤m) (h:yO a K H p lu lr n st):yO a K H p lu lr m st:=by obtain⟨us,rs,h1,h2,h3,h4,h5⟩:=h.ex;exact⟨⟨us,rs,h1,h2,h3,by omega,by omega⟩,h.vv,h.vo⟩
def Vs (a:mI) (n:Nat):aQ:=if n=1 then a.xUnreadable else if n=5 then a.xInapplicable else a.xNoDeed
def AI (a:mI) (K:aB) (H:Hp) (p lu lr:aQ) (n:Nat) (o:xE) (Q:VK) (E:XK):Prop:=match o with
 | .ok x=>∀H' D lu' lr',yO a K H' p lu' lr' (n+1) x.1→Mv p lu lr H H'→(lu'=lu∨H lu'=none)→(lr'=lr∨H lr'=none)→H D=none→D≠lu'→D≠lr'→H' D=some (.lst ((GD x.2).map V.int))→Q (.ref D) H'
 | .error m=>∀H',aZ H H'→E (.ref (Vs a m)) none H'
theorem AI.ok (h:AI a K H p lu lr n o Q E) (e:o=.ok x):AI a K H p lu lr n (.ok x) Q E:=by rw[e]at h;exact h
theorem AI.no (h:AI a K H p lu lr n o Q E) (e:o=.error m):∀H',aZ H H'→E (.ref (Vs a m)) none H':=by rw[e]at h;exact h
theorem AI.look {H H':Hp} {p lu lr D:aQ} {n:Nat} {st:OA} {l:List Nat} {Q:VK} {E:XK} (h:AI a K H p lu lr n (.ok (st,l)) Q E) (hs:yO a K H p lu lr n st) (s:aZ H H') (hD:H D=none) (h':H' D=some (.lst ((GD l).map V.int))):Q (.ref D) H':=by obtain⟨us,rs,hd,_⟩:=hs.ex;obtain⟨dx,x,y,xs,ys,h1,h2,h3,h4,_⟩:=hd.ex;exact h H' D lu lr ((hs.same s).up (vV _)) (Kv s) (.inl rfl) (.inl rfl) hD (fun z=>by rw[z,h2]at hD;cases hD) (fun z=>by rw[z,h3]at hD;cases hD) h'
def rM (a:mI) (K:aB) (m:Nat) (c:List bW→yM):Sp:=fun vs H Q E=>∃(p tl lu lr:aQ) (n:Nat) (st:OA) (qs:List V) (ts:List bW),vs=[.ref p,.ref tl]∧yO a K H p lu lr n st∧n≤10000∧H tl=some (.lst qs)∧YL H qs ts∧ts.length=m∧(∀t∈ts,t.length≤6000)∧AI a K H p lu lr n (eX st (c ts)) Q E
theorem fM (h:Vatwva.isValue v=true):VM.eB 12 v∧Vatwva.count v≤60∧Vatwva.deep v≤6:=VM.dR.mp h
theorem qT (h:YL H qs ts) (hl:ts.length=1):∃q t,qs=[.ref q]∧ts=[t]∧H q=some (.lst (cU t)):=by
 cases h with
 | nil=>cases hl
 | cons r t=>
  obtain⟨q,rfl,hq⟩:=r;cases t with
  | nil=>exact⟨q,_,rfl,rfl,hq⟩
  | cons _ _=>simp at hl
theorem Ot (h:YL H qs ts) (hl:ts.length=2):∃q q' t t',qs=[.ref q,.ref q']∧ts=[t,t']∧H q=some (.lst (cU t))∧H q'=some (.lst (cU t')):=by
 cases h with
 | nil=>cases hl
 | cons r t=>obtain⟨q,rfl,hq⟩:=r;obtain⟨q',t',rfl,rfl,hq'⟩:=qT t (by simpa using hl);exact⟨q,q',_,t',rfl,rfl,hq,hq'⟩
def c1 (f:bW→yM):List bW→yM:=fun ts=>f (ts.headD [])
theorem NQ (T:iJ K mg a):gV P w K mg base 21 "answer_value" ["desk","texts"] (rM a K 1 (c1 .value)):=by
 refine kI T.f_answer_value ["desk","texts"] fun vs H Q E h=>?_;obtain⟨p,tl,lu,lr,n,st,qs,ts,rfl,hs,hn,htl,hts,hl,hb,k⟩:=h;refine⟨rfl,fun nd _ _ _ _ _ hr=>?_⟩;obtain⟨q,t,rfl,rfl,hq⟩:=qT hts hl;refine⟨_,aI (dN (sB (UP T) T.q_Desk hr.m ⟨rfl,rfl,rfl⟩ (pv 0) (aA (bB (GH T) hr ⟨rfl,rfl,rfl⟩ (aA (fL qW (pv 1) cA (fun _ _=>rfl)) aD)) aD))) (aN (bG (bB (DS T) hr.m ⟨rfl,rfl,rfl⟩ (aA (cJ (pv 0) rfl) aD)))),?_⟩;obtain⟨us,rs,hd,hc1,hc2,hu,hv⟩:=hs.ex;obtain⟨dx,x,y,xs,ys,h1,_⟩:=hd.ex;refine⟨_,rfl,p,dx,_,rfl,h1,rfl,_,rfl,tl,_,_,_,rfl,rfl,gX.of htl,fZ (j:=0) rfl,q,t,rfl,hq,hb t aM,?_⟩;have hk:eX st (c1 .value [t])=eZ (Vatwva.valueOf t) 1 fun v=>.ok ({st with value:=v,past:=[],future:=[]},[Vatwva.count v,Vatwva.deep v]):=rfl;cases qv:Vatwva.valueOf t with
 | none=>rw[qv]at hk;exact k.no hk
 | some v=>rw[qv]at hk;have k:=k.ok hk;intro H1 x1 s1 hx1;have vv:Vatwva.isValue v=true:=(VM.sC.mp qv).1;obtain⟨_,c6,d6⟩:=fM vv;refine⟨p,lu,lr,_,_,us,rs,x1,v,rfl,hd.same s1,hx1,fun H2 lu' lr' hd2 m2 e1 e2=>?_⟩;obtain⟨dx2,x2,y2,xs2,ys2,g1,g2,g3,g4,g5,g6,_⟩:=id hd2.ex;refine⟨_,rfl,p,_,dx2,_,_,rfl,g1,T.q_Desk,T.na_Desk_value,rfl,x2,v,rfl,g5,d6,by omega,fun D H3 s3 hD hD3=>?_⟩;refine k H3 D lu' lr' ⟨⟨[],[],hd2.same s3,.nil _,.nil _,aY _,aY _⟩,vv,hs.vo⟩ ((Kv s1).trans (m2.trans (Kv s3))) (.inr (dW.fresh s1 e1)) (.inr (dW.fresh s1 e2)) ?_ (fun z=>by rw[z,g2]at hD;cases hD) (fun z=>by rw[z,g3]at hD;cases hD) hD3;exact dW.fresh s1 (m2.2 _ hD)
theorem GM (h:Vatwvc.isEdit e=true):FU e:=by
 unfold Vatwvc.isEdit at h;rw[aE]at h;cases e with
 | set p v=>exact(fM h.2).2
 | put p i v=>exact(fM ((aE _ _).mp h.2).2).2
 | add p i n v=>exact(fM ((aE _ _).mp ((aE _ _).mp h.2).2).2).2
 | take p i=>trivial
 | move p i j=>trivial
 | drop p n=>trivial
 | rename p n m=>trivial
theorem AU (h:Vatwvc.editOf t=some e):Vatwvc.isEdit e=true∧VM.tT 24 e∧FU e:=
 have h1:=(VM.AT.mp h).1
 ⟨h1,VM.ZB h1,GM h1⟩
theorem iX (es:List gE) (v:fT):Vatwvc.rowOn es v=(kL es v).map fun w=>(w,Vatwvc.turnedAll es v):=by
 cases q:kL es v with
 | some w1=>
  obtain⟨u,hu,h2⟩:=bE.mp q;have hv:Vatwva.isValue u=true:=by
   split at h2
   ·assumption
   ·cases h2
  rw[if_pos hv]at h2;cases h2;exact VM.nU.mpr ⟨hu,hv,rfl⟩
 | none=>
  cases q2:Vatwvc.rowOn es v with
  | none=>rfl
  | some x=>obtain⟨h1,h2,_⟩:=VM.nU.mp q2;unfold kL at q;rw[h1]at q;have q:(if Vatwva.isValue x.1=true then some x.1 else none)=none:=q;rw[if_pos h2]at q;cases q
theorem yO.deed {H H':Hp} {p lu lr lr':aQ} {n:Nat} {st:OA} {es:List gE} {u:fT} {us:List fT} (hv:Vatwva.isValue st.value=true) (ho:Vatwva.isValue st.other=true) (hc:VM.sQ st.value st.past.reverse us.reverse) (hu:us.length≤n)
  (hf:∀e∈es,VM.tT 24 e) (h:kL es st.value=some u) (hd:qH a K H' p lu lr' u st.other (us++[st.value]) []):yO a K H' p lu lr' (n+1) {st with value:=u,past:=st.past++[Vatwvc.turnedAll es st.value],future:=[]}:=by
 have hr:Vatwvc.rowOn es st.value=some (u,Vatwvc.turnedAll es st.value):=by rw[iX,h];rfl
 obtain⟨_,h2,_⟩:=VM.nU.mp hr;refine⟨⟨us++[st.value],[],hd,?_,.nil _,by rw[aC,cR];omega,aY _⟩,h2,ho⟩;show VM.sQ u (st.past++[_]).reverse (us++[st.value]).reverse;rw[jC,jC];exact VM.sQ.deed hv hf hr hc
theorem NP (T:iJ K mg a):gV P w K mg base 21 "answer_other" ["desk","texts"] (rM a K 1 (c1 .other)):=by
 refine kI T.f_answer_other ["desk","texts"] fun vs H Q E h=>?_;obtain⟨p,tl,lu,lr,n,st,qs,ts,rfl,hs,hn,htl,hts,hl,hb,k⟩:=h;refine⟨rfl,fun nd _ _ _ _ _ hr=>?_⟩;obtain⟨q,t,rfl,rfl,hq⟩:=qT hts hl;refine⟨_,aI (nT (pv 0) (bB (GH T) hr ⟨rfl,rfl,rfl⟩ (aA (fL qW (pv 1) cA (fun _ _=>rfl)) aD)) rfl) (aN (bG (bB (DS T) hr.m ⟨rfl,rfl,rfl⟩ (aA (cJ (pv 0) rfl) aD)))),?_⟩;obtain⟨us,rs,hd,hc1,hc2,hu,hv⟩:=hs.ex;obtain⟨dx,x,y,xs,ys,h1,h2,h3,h4,h5,h6,h7,h8⟩:=hd.ex;refine⟨_,rfl,tl,_,_,_,rfl,rfl,gX.of htl,fZ (j:=0) rfl,q,t,rfl,hq,hb t aM,?_⟩;have hk:eX st (c1 .other [t])=eZ (Vatwva.valueOf t) 1 fun v=>.ok ({st with other:=v},[Vatwva.count v,Vatwva.deep v]):=rfl;cases qv:Vatwva.valueOf t with
 | none=>rw[qv]at hk;exact k.no hk
 | some v=>
  rw[qv]at hk;have k:=k.ok hk;intro H1 x1 s1 hx1;have vv:Vatwva.isValue v=true:=(VM.sC.mp qv).1;obtain⟨_,c6,d6⟩:=fM vv;refine⟨_,rfl,p,_,dx,_,rfl,s1 _ _ h1,T.q_Desk,T.na_Desk_other,(by show 4 < 1000;decide),?_⟩;have m:Mv p lu lr H (upd H1 p (.ins a.cDesk dx (pJ "other" x1 (uY x y lu lr)))):=(Kv s1).upd (.inl rfl);have tu:=Mv.tups h1 h2 h3 m;have tu1:zH H1 (upd H1 p (.ins a.cDesk dx (pJ "other" x1 (uY x y lu lr)))):=Mv.tups (s1 _ _ h1) (s1 _ _ h2) (s1 _ _ h3) ((Mv.refl p lu lr H1).upd (.inl rfl));have nlu:lu≠p:=(kH h1 h2 (by intro z;cases z)).symm;have nlr:lr≠p:=(kH h1 h3 (by intro z;cases z)).symm;have hd2:qH a K (upd H1 p (.ins a.cDesk dx (pJ "other" x1 (uY x y lu lr)))) p lu lr st.value v us rs:=⟨dx,x,x1,xs,ys,by rw[aG];rfl,by rw[bK nlu];exact s1 _ _ h2,by rw[bK nlr];exact s1 _ _ h3,h4,h5.tups tu,hx1.tups tu1,h7.tups tu,h8.tups tu⟩;refine⟨_,rfl,p,_,dx,_,_,rfl,aG,T.q_Desk,T.na_Desk_other,rfl,x1,v,rfl,hx1.tups tu1,d6,by omega,fun D H3 s3 hD hD3=>?_⟩;refine k H3 D lu lr ⟨⟨us,rs,hd2.same s3,hc1,hc2,by omega,by omega⟩,hs.vv,vv⟩ (m.trans (Kv s3)) (.inl rfl) (.inl rfl) (m.2 _ hD) (fun z=>?_) (fun z=>?_) hD3
  ·rw[z,bK nlu,s1 _ _ h2]at hD;cases hD
  ·rw[z,bK nlr,s1 _ _ h3]at hD;cases hD
theorem RM (T:iJ K mg a):gV P w K mg base 16 "answer_show" ["desk","texts"] (rM a K 0 fun _=>.showValue):=by refine kI T.f_answer_show ["desk","texts"] fun vs H Q E h=>?_;obtain⟨p,tl,lu,lr,n,st,qs,ts,rfl,hs,hn,htl,hts,hl,hb,k⟩:=h;refine⟨rfl,fun nd _ _ _ _ _ hr=>?_⟩;refine⟨_,aN (bG (bB (BB T) hr.m ⟨rfl,rfl,rfl⟩ (aA (bB (uQ T 6) hr ⟨rfl,rfl,rfl⟩ (aA (cJ (pv 0) rfl) aD)) aD))),?_⟩;obtain⟨us,rs,hd,_⟩:=hs.ex;obtain⟨dx,x,y,xs,ys,h1,h2,h3,h4,h5,h6,h7,h8⟩:=hd.ex;obtain⟨gv,c6,d6⟩:=fM hs.vv;have hlen:=wH gv;refine⟨_,rfl,p,_,dx,_,_,rfl,h1,T.q_Desk,T.na_Desk_value,rfl,x,st.value,rfl,h5,gv.mono (by decide),d6,by omega,fun A1 H1 s1 hA1 g1=>?_⟩;refine⟨A1,_,rfl,g1,by omega,fun D H2 s2 hD hD2=>?_⟩;exact(k.ok rfl).look hs (s1.trans s2) (dW.fresh s1 hD) hD2
theorem RI (T:iJ K mg a) (B:sI P w K mg a):gV P w K mg base 22 "answer_edit" ["desk","texts"] (rM a K 1 (c1 .edit)):=by
 refine kI T.f_answer_edit ["desk","texts"] fun vs H Q E h=>?_;obtain⟨p,tl,lu,lr,n,st,qs,ts,rfl,hs,hn,htl,hts,hl,hb,k⟩:=h;refine⟨rfl,fun nd _ _ _ _ _ hr=>?_⟩;obtain⟨q,t,rfl,rfl,hq⟩:=qT hts hl;refine⟨_,aI (dN (sB (HQ T) T.q_Desk hr.m ⟨rfl,rfl,rfl⟩ (pv 0) (aA (bB (yV T B) hr.m ⟨rfl,rfl,rfl⟩ (aA (bB (nP T B) hr ⟨rfl,rfl,rfl⟩ (aA (fL qW (pv 1) cA (fun _ _=>rfl)) aD)) (aA (cJ (pv 0) rfl) aD))) aD))) (aN (bG (bB (DS T) hr.m ⟨rfl,rfl,rfl⟩ (aA (cJ (pv 0) rfl) aD)))),?_⟩;obtain⟨us,rs,hd,hc1,hc2,hu,hv⟩:=hs.ex;obtain⟨dx,x,y,xs,ys,h1,h2,h3,h4,h5,h6,h7,h8⟩:=hd.ex;refine⟨_,rfl,p,dx,_,rfl,h1,rfl,_,rfl,tl,_,_,_,rfl,rfl,gX.of htl,fZ (j:=0) rfl,q,t,rfl,hq,hb t aM,?_⟩;have hk:eX st (c1 .edit [t])=eZ (Vatwvc.editOf t) 1 fun e=>eZ (Vatwvc.rowOn [e] st.value) 5 fun x=>.ok ({st with value:=x.1,past:=st.past++[x.2],future:=[]},[Vatwva.count x.1,Vatwva.deep x.1]):=rfl;cases qe:Vatwvc.editOf t with
 | none=>rw[qe]at hk;exact k.no hk
 | some e=>
  obtain⟨ie,fe,se⟩:=AU qe;rw[qe]at hk;intro H1 ep s1 hep;refine⟨_,rfl,p,_,dx,_,_,rfl,s1 _ _ h1,T.q_Desk,T.na_Desk_value,rfl,ep,x,e,st.value,rfl,hep,h5.tups s1.tups,VM.gR hs.vv,fe,se,?_⟩;cases qm:HK e st.value with
  | none=>
   intro H2 s2;have hk:eX st (c1 .edit [t])=.error 5:=by rw[hk];show eZ (Vatwvc.rowOn [e] st.value) 5 _=_;rw[iX,lR,qm];rfl
   exact k.no hk H2 (s1.trans s2)
  | some u=>intro H2 x2 s2 hx2;have k:=k.ok (hk.trans (show eZ (Vatwvc.rowOn [e] st.value) 5 _=_ by rw[iX,lR,qm];rfl));have s12:=s1.trans s2;refine⟨p,lu,lr,_,_,us,rs,x2,u,rfl,hd.same s12,hx2,by omega,fun H3 lr' hd3 m3 e3=>?_⟩;have hst:=yO.deed (H:=H) (lr:=lr) (n:=n) (es:=[e]) hs.vv hs.vo hc1 hu (fun e' he'=>by obtain rfl:=bU.mp he';exact fe) (by rw[lR];exact qm) hd3;obtain⟨_,c6,d6⟩:=fM hst.vv;have c6:Vatwva.count u≤60:=c6;obtain⟨dx3,x3,y3,xs3,ys3,g1,g2,g3,g4,g5,_⟩:=id hd3.ex;refine⟨_,rfl,p,_,dx3,_,_,rfl,g1,T.q_Desk,T.na_Desk_value,rfl,x3,u,rfl,g5,d6,by omega,fun D H4 s4 hD hD4=>?_⟩;exact k H4 D lu lr' (hst.same s4) ((Kv s12).trans (m3.trans (Kv s4))) (.inl rfl) (.inr (dW.fresh s12 e3)) (dW.fresh s12 (m3.2 _ hD)) (fun z=>by rw[z,g2]at hD;cases hD) (fun z=>by rw[z,g3]at hD;cases hD) hD4
theorem RG (T:iJ K mg a) (B:sI P w K mg a):gV P w K mg base 22 "answer_cost" ["desk","texts"] (rM a K 1 (c1 .cost)):=by
 refine kI T.f_answer_cost ["desk","texts"] fun vs H Q E h=>?_;obtain⟨p,tl,lu,lr,n,st,qs,ts,rfl,hs,hn,htl,hts,hl,hb,k⟩:=h;refine⟨rfl,fun nd _ _ _ _ _ hr=>?_⟩;obtain⟨q,t,rfl,rfl,hq⟩:=qT hts hl;refine⟨_,aN (bG (eJ (aA (bB (JT T B) hr.m ⟨rfl,rfl,rfl⟩ (aA (bB (nP T B) hr ⟨rfl,rfl,rfl⟩ (aA (fL qW (pv 1) cA (fun _ _=>rfl)) aD)) aD)) aD))),?_⟩;refine⟨_,rfl,tl,_,_,_,rfl,rfl,gX.of htl,fZ (j:=0) rfl,q,t,rfl,hq,hb t aM,?_⟩;have hk:eX st (c1 .cost [t])=eZ (Vatwvc.editOf t) 1 fun e=>.ok (st,[EJ e]):=rfl;cases qe:Vatwvc.editOf t with
 | none=>rw[qe]at hk;exact k.no hk
 | some e=>obtain⟨ie,fe,se⟩:=AU qe;rw[qe]at hk;intro H1 ep s1 hep;refine⟨ep,e,rfl,hep,ie,fun H2 s2=>⟨(by show 1≤aU;decide),fun D hD=>?_⟩⟩;exact(k.ok hk).look hs ((s1.trans s2).trans (aZ.upd hD)) (dW.fresh (s1.trans s2) hD) aG
theorem KH (t:bW):(Fm t).length=t.length+1:=by unfold Fm GD eQ;simp
theorem UO (T:iJ K mg a) (B:sI P w K mg a):gV P w K mg base 22 "answer_try" ["desk","texts"] (rM a K 1 (c1 .try_)):=by
 refine kI T.f_answer_try ["desk","texts","edit","made"] fun vs H Q E h=>?_;obtain⟨p,tl,lu,lr,n,st,qs,ts,rfl,hs,hn,htl,hts,hl,hb,k⟩:=h;refine⟨rfl,fun nd _ _ _ _ _ hr=>?_⟩;obtain⟨q,t,rfl,rfl,hq⟩:=qT hts hl;refine⟨_,aI (cM (i:=2) nd rfl (bP rfl) (bB (nP T B) hr ⟨rfl,rfl,rfl⟩ (aA (fL qW (pv 1) cA (fun _ _=>rfl)) aD))) (aI (Ij ⟨rfl,rfl,rfl⟩ (Ad (i:=3) nd rfl (bP rfl) (Lc (yV T B) hr.m ⟨rfl,rfl,rfl⟩ (aA (pv 2) (aA (cJ (pv 0) rfl) aD)))) (FC ⟨rfl,rfl,rfl⟩ rfl T.x_Inapplicable.1 T.x_Inapplicable.2 (fun e=>aN (bG (eJ (aA cA aD)))) Aa)) (aN (bG (jZ uE (eJ (aA cA aD)) (bB (BB T) hr.m ⟨rfl,rfl,rfl⟩ (aA (bB (uQ T 6) hr.m ⟨rfl,rfl,rfl⟩ (aA (pv 3) aD)) aD)))))),?_⟩;obtain⟨us,rs,hd,hc1,hc2,hu,hv⟩:=hs.ex;obtain⟨dx,x,y,xs,ys,h1,h2,h3,h4,h5,h6,h7,h8⟩:=hd.ex;refine⟨_,rfl,tl,_,_,_,rfl,rfl,gX.of htl,fZ (j:=0) rfl,q,t,rfl,hq,hb t aM,?_⟩;have hk:eX st (c1 .try_ [t])=eZ (Vatwvc.editOf t) 1 fun e=>match Vatwvc.rowOn [e] st.value with
  | some x=>.ok (st,1::eQ (Vatwva.valueText x.1))
  | none=>.ok (st,[0]):=rfl
 cases qe:Vatwvc.editOf t with
 | none=>rw[qe]at hk;exact k.no hk
 | some e=>
  obtain⟨ie,fe,se⟩:=AU qe;rw[qe]at hk;intro H1 ep s1 hep;refine⟨_,rfl,_,rfl,p,_,dx,_,_,rfl,s1 _ _ h1,T.q_Desk,T.na_Desk_value,rfl,ep,x,e,st.value,rfl,hep,h5.tups s1.tups,VM.gR hs.vv,fe,se,?_⟩;cases qm:HK e st.value with
  | none=>
   intro H2 s2;have k:=k.ok (x:=(st,[0])) (hk.trans (show(match Vatwvc.rowOn [e] st.value with
    | some x=>.ok (st,1::eQ (Vatwva.valueText x.1))
    | none=>.ok (st,[0]):xE)=_ by rw[iX,lR,qm];rfl))
   refine⟨_,rfl,T.x_Inapplicable.2,fun _=>⟨(by show 1≤aU;decide),fun D hD=>?_⟩,fun z=>absurd rfl z⟩;exact k.look hs ((s1.trans s2).trans (aZ.upd hD)) (dW.fresh (s1.trans s2) hD) aG
  | some u=>
   intro H2 x2 s2 hx2;have k:=k.ok (x:=(st,1::eQ (Vatwva.valueText u))) (hk.trans (show(match Vatwvc.rowOn [e] st.value with
    | some x=>.ok (st,1::eQ (Vatwva.valueText x.1))
    | none=>.ok (st,[0]):xE)=_ by rw[iX,lR,qm];rfl))
   have hvu:Vatwva.isValue u=true:=by have:=iX [e] st.value;rw[lR,qm]at this;exact(VM.nU.mp this).2.1
   obtain⟨gu,cu,du⟩:=fM hvu;have hlen:=wH gu;refine⟨(by show 1≤aU;decide),fun A1 hA1=>?_⟩;have sA:=aZ.upd (o:=.lst [.int 1]) hA1;refine⟨_,rfl,x2,u,rfl,hx2.tups sA.tups,gu.mono (by decide),du,by omega,fun A2 H3 s3 hA2 g2=>?_⟩;refine⟨A2,_,rfl,g2,by omega,fun A3 H4 s4 hA3 g3=>?_⟩;have s34:=s3.trans s4;refine⟨A1,A3,_,_,rfl,rfl,s34 _ _ aG,g3,big (by rw[aJ,KH];show 1+_≤_;omega),fun D hD=>?_⟩;have sAll:=(((s1.trans s2).trans sA).trans s34);exact k.look hs (sAll.trans (aZ.upd hD)) (dW.fresh sAll hD) (by rw[aG];rfl)
theorem RO (T:iJ K mg a):gV P w K mg base 2 "answer_undo" ["desk","texts"] (rM a K 0 fun _=>.undo):=by
 refine kI T.f_answer_undo ["desk","texts"] fun vs H Q E h=>?_;obtain⟨p,tl,lu,lr,n,st,qs,ts,rfl,hs,hn,htl,hts,hl,hb,k⟩:=h;refine⟨rfl,fun nd _ _ _ _ _ hr=>?_⟩;refine⟨_,aI (dN (mD (ZU T) T.q_Desk hr ⟨rfl,rfl,rfl⟩ (pv 0))) (aN (bG (mD (wW T) T.q_Desk hr ⟨rfl,rfl,rfl⟩ (pv 0)))),?_⟩;obtain⟨us,rs,hd,hc1,hc2,hu,hv⟩:=hs.ex;obtain⟨dx,x,y,xs,ys,h1,h2,h3,_⟩:=id hd.ex;have hlu:=hc1.length;have hlr:=hc2.length;rw[mY,mY]at hlu hlr;refine⟨_,rfl,p,dx,_,rfl,h1,rfl,p,lu,lr,_,_,us,rs,rfl,hd,by omega,by omega,fun hz=>?_,fun u l el H2 hd2 m2=>?_⟩
 ·have hp:st.past=[]:=eA (by rw[hlu,hz];rfl);refine k.no (m:=9) ?_ H (aZ.refl H);show HA st=_;unfold HA;rw[hp];rfl
 ·rw[el,jC]at hc1;generalize hpr:st.past.reverse=pr at hc1;cases hc1 with
  | @cons _ _ es b ls _ r1 r2 r3 r4=>
   have hpast:st.past=ls.reverse++[es]:=by rw[←vS st.past,hpr,List.reverse_cons]
   have k:=k.ok (x:=({st with value:=u,past:=ls.reverse,future:=st.future++[b]},[st.past.length - 1,st.future.length+1])) (by show HA st=_;unfold HA;rw[hpast,Jk];show eZ (Vatwvc.rowOn es st.value) 9 _=_;rw[r1,vQ];rfl);obtain⟨dx2,x2,y2,xs2,ys2,g1,g2,g3,_⟩:=id hd2.ex;refine⟨_,rfl,p,dx2,_,rfl,g1,rfl,p,lu,lr,_,_,_,_,rfl,hd2,fun D H3 s3 hD hD3=>?_⟩;have hus:us.length=l.length+1:=by rw[el,aC];rfl
   refine k H3 D lu lr ⟨⟨l,rs++[st.value],hd2.same s3,?_,?_,by omega,by rw[aC,cR];omega⟩,r3,hs.vo⟩ (m2.trans (Kv s3)) (.inl rfl) (.inl rfl) (m2.2 _ hD) (fun z=>by rw[z,g2]at hD;cases hD) (fun z=>by rw[z,g3]at hD;cases hD) ?_
   ·show VM.sQ u ls.reverse.reverse l.reverse;rw[vS];exact r4
   ·show VM.sQ u (st.future++[b]).reverse (rs++[st.value]).reverse;rw[jC,jC];exact VM.sQ.deed hs.vv r2 r1 hc2
   ·rw[hD3,aC,cR,hlu,hlr,hus];rfl
theorem RK (T:iJ K mg a):gV P w K mg base 2 "answer_redo" ["desk","texts"] (rM a K 0 fun _=>.redo):=by
 refine kI T.f_answer_redo ["desk","texts"] fun vs H Q E h=>?_;obtain⟨p,tl,lu,lr,n,st,qs,ts,rfl,hs,hn,htl,hts,hl,hb,k⟩:=h;refine⟨rfl,fun nd _ _ _ _ _ hr=>?_⟩;refine⟨_,aI (dN (mD (ZR T) T.q_Desk hr ⟨rfl,rfl,rfl⟩ (pv 0))) (aN (bG (mD (wW T) T.q_Desk hr ⟨rfl,rfl,rfl⟩ (pv 0)))),?_⟩;obtain⟨us,rs,hd,hc1,hc2,hu,hv⟩:=hs.ex;obtain⟨dx,x,y,xs,ys,h1,h2,h3,_⟩:=id hd.ex;have hlu:=hc1.length;have hlr:=hc2.length;rw[mY,mY]at hlu hlr;refine⟨_,rfl,p,dx,_,rfl,h1,rfl,p,lu,lr,_,_,us,rs,rfl,hd,by omega,by omega,fun hz=>?_,fun u l el H2 hd2 m2=>?_⟩
 ·have hp:st.future=[]:=eA (by rw[hlr,hz];rfl);refine k.no (m:=9) ?_ H (aZ.refl H);show GZ st=_;unfold GZ;rw[hp];rfl
 ·rw[el,jC]at hc2;generalize hpr:st.future.reverse=pr at hc2;cases hc2 with
  | @cons _ _ es b ls _ r1 r2 r3 r4=>
   have hpast:st.future=ls.reverse++[es]:=by rw[←vS st.future,hpr,List.reverse_cons]
   have k:=k.ok (x:=({st with value:=u,past:=st.past++[b],future:=ls.reverse},[st.past.length+1,st.future.length - 1])) (by show GZ st=_;unfold GZ;rw[hpast,Jk];show eZ (Vatwvc.rowOn es st.value) 9 _=_;rw[r1,vQ];rfl);obtain⟨dx2,x2,y2,xs2,ys2,g1,g2,g3,_⟩:=id hd2.ex;refine⟨_,rfl,p,dx2,_,rfl,g1,rfl,p,lu,lr,_,_,_,_,rfl,hd2,fun D H3 s3 hD hD3=>?_⟩;have hus:rs.length=l.length+1:=by rw[el,aC];rfl
   refine k H3 D lu lr ⟨⟨us++[st.value],l,hd2.same s3,?_,?_,by rw[aC,cR];omega,by omega⟩,r3,hs.vo⟩ (m2.trans (Kv s3)) (.inl rfl) (.inl rfl) (m2.2 _ hD) (fun z=>by rw[z,g2]at hD;cases hD) (fun z=>by rw[z,g3]at hD;cases hD) ?_
   ·show VM.sQ u (st.past++[b]).reverse (us++[st.value]).reverse;rw[jC,jC];exact VM.sQ.deed hs.vv r2 r1 hc1
   ·show VM.sQ u ls.reverse.reverse l.reverse;rw[vS];exact r4
   ·rw[hD3,aC,cR,hlu,hlr,hus];rfl
theorem RN (T:iJ K mg a):gV P w K mg base 9 "answer_size" ["desk","texts"] (rM a K 0 fun _=>.size):=by refine kI T.f_answer_size ["desk","texts"] fun vs H Q E h=>?_;obtain⟨p,tl,lu,lr,n,st,qs,ts,rfl,hs,hn,htl,hts,hl,hb,k⟩:=h;refine⟨rfl,fun nd _ _ _ _ _ hr=>?_⟩;refine⟨_,aN (bG (jZ uE (eJ (aA (bB (kW T 6) hr ⟨rfl,rfl,rfl⟩ (aA (cJ (pv 0) rfl) aD)) (aA (bB (kW T 6) hr ⟨rfl,rfl,rfl⟩ (aA (cJ (pv 0) rfl) aD)) aD))) (mD (wW T) T.q_Desk hr.m ⟨rfl,rfl,rfl⟩ (pv 0)))),?_⟩;obtain⟨us,rs,hd,hc1,hc2,hu,hv⟩:=hs.ex;obtain⟨dx,x,y,xs,ys,h1,h2,h3,h4,h5,h6,h7,h8⟩:=id hd.ex;obtain⟨_,c6,d6⟩:=fM hs.vv;obtain⟨_,c6',d6'⟩:=fM hs.vo;refine⟨_,rfl,p,_,dx,_,_,rfl,h1,T.q_Desk,T.na_Desk_value,rfl,x,_,rfl,h5,d6,by omega,fun H1 s1=>?_⟩;refine⟨_,rfl,p,_,dx,_,_,rfl,s1 _ _ h1,T.q_Desk,T.na_Desk_other,rfl,y,_,rfl,h6.tups s1.tups,d6',by omega,fun H2 s2=>⟨(by show 2≤aU;decide),fun A1 hA1=>?_⟩⟩;have s3:=(s1.trans s2).trans (aZ.upd (o:=.lst [.int (Vatwva.count st.value:Nat),.int (Vatwva.count st.other:Nat)]) hA1);refine⟨_,rfl,p,dx,_,rfl,s3 _ _ h1,rfl,p,lu,lr,_,_,us,rs,rfl,hd.same s3,fun A2 H4 s4 hA2 g2=>?_⟩;refine⟨A1,A2,_,_,rfl,rfl,s4 _ _ aG,g2,(by show 2+2≤aU;decide),fun D hD=>?_⟩;have hlu:=hc1.length;have hlr:=hc2.length;rw[mY,mY]at hlu hlr;have s5:=s3.trans s4;refine(k.ok (x:=(st,[Vatwva.count st.value,Vatwva.count st.other,st.past.length,st.future.length])) rfl).look hs (s5.trans (aZ.upd hD)) (dW.fresh s5 hD) ?_;rw[aG,hlu,hlr];rfl
theorem TF:∀(p:Vatwvc.Path) {v x:fT},Vatwva.isValue v=true→Vatwva.atPath p v=some x→Vatwva.isValue x=true
 | [],v,x,hv,h=>by cases h;exact hv
 | s::p,v,x,hv,h=>by rw[DD]at h;obtain⟨j,_,h⟩:=bE.mp h;obtain⟨y,hy,h⟩:=bE.mp h;obtain⟨k,hk,rfl⟩:=aX.mp (bA hy);exact TF p (VM.oR hv hk) h
theorem Cw (he:Vatwvc.isEdit e=true) (hv:Vatwva.isValue v=true) (h:Vatwvc.turned e v=some b):Vatwvc.isEdit b=true∧Vatwvc.pathIn b=Vatwvc.pathIn e:=by
 rw[VM.LX]at h;obtain⟨w1,_,h⟩:=bE.mp h;obtain⟨x,hx,h⟩:=bE.mp h;have vx:=TF _ hv hx;unfold Vatwvc.isEdit at he;rw[aE]at he;obtain⟨hp,hd⟩:=he;have hp':∀{b:gE},Vatwvc.pathIn b=Vatwvc.pathIn e→(Vatwvc.pathIn b).all Vatwvc.isStep=true:=fun z=>by rw[z];exact hp
 obtain⟨gx,cx,dx⟩:=fM vx;have hlen:(Vatwva.kidsOf x).length≤60:=by have:=zR gx.1;unfold bD at this;rw[aJ]at this;omega
 have fin:∀{p:Vatwvc.Path} {D:Bool},Vatwvc.pathIn e=p→D=true→(p.all Vatwvc.isStep && D)=true:=fun z zd=>by rw[←z,hp,zd];rfl
 cases e with
 | set p v0=>cases h;exact⟨fin (p:=p) rfl vx,rfl⟩
 | put p i v0=>cases h;rw[aE]at hd;exact⟨fin (p:=p) rfl hd.1,rfl⟩
 | take p i=>obtain⟨y,hy,rfl⟩:=aO.mp (show((Vatwva.itemsOf x)[i]?).map (fun w=>Edit.put p i w)=some b from h);refine⟨fin (p:=p) (D:=decide (i≤Vatwva.GREATEST) && Vatwva.isValue y) rfl ?_,rfl⟩;rw[VM.BR vx (bA hy),lA];exact hd
 | move p i j=>cases h;rw[aE]at hd;exact⟨fin (p:=p) (D:=decide (j≤Vatwva.GREATEST) && decide (i≤Vatwva.GREATEST)) rfl (by rw[hd.1,hd.2];rfl),rfl⟩
 | add p i n v0=>cases h;rw[aE,aE]at hd;exact⟨fin (p:=p) rfl hd.2.1,rfl⟩
 | drop p n=>obtain⟨y,hy,rfl⟩:=aO.mp (show(Vatwva.valueAt n (Vatwva.kidsOf x)).map (fun w=>Edit.add p (Vatwvc.placeOf (Vatwva.kidsOf x) n) n w)=some b from h);have hpl:Vatwvc.placeOf (Vatwva.kidsOf x) n≤(Vatwva.kidsOf x).length:=List.findIdx_le_length;refine⟨fin (p:=p) (D:=decide (Vatwvc.placeOf (Vatwva.kidsOf x) n≤Vatwva.GREATEST) && (Vatwva.isName n && Vatwva.isValue y)) rfl ?_,rfl⟩;rw[VM.pG (by omega),VM.oR vx (VM.BQ hy),lA,Bool.true_and];exact hd
 | rename p n m=>cases h;rw[aE]at hd;exact⟨fin (p:=p) (D:=Vatwva.isName m && Vatwva.isName n) rfl (by rw[hd.1,hd.2];rfl),rfl⟩
theorem Rc (b x y:bW) (r:List bW):y.length≤(mF b (x::y::r)).length:=by
 cases r with
 | nil=>show _≤(x++(b++y)).length;rw[aC,aC];omega
 | cons z r=>show _≤(x++(b++(y++(b++mF b (z::r))))).length;rw[aC,aC,aC];omega
theorem Ur (p:Vatwvc.Path):p.length≤(Vatwva.pathText p).length:=by
 rw[LO];have key:∀p:Vatwvc.Path,p.length≤1+(mF [47] (p.map Vatwva.stepText)).length:=by
  intro p;induction p with
  | nil=>exact aY _
  | cons s p ih=>
   cases p with
   | nil=>show 1≤1+_;omega
   | cons s2 p=>have e:mF [47] ((s::s2::p).map Vatwva.stepText)=Vatwva.stepText s++([47]++mF [47] ((s2::p).map Vatwva.stepText)):=rfl;rw[e,aC,aC];rw[aK];show _≤1+(_+(1+_));omega
 have:=key p;rw[aC];exact this
theorem ZZ (h:Vatwvc.editOf t=some e):(Vatwvc.pathIn e).length≤t.length:=by have hw:=(VM.AT.mp h).2;rw[←hw,IB];exact bI (Ur _) (Rc _ _ _ _)
theorem XX (hok:Vatwvc.isEdit e=true) (hn:(Vatwvc.pathIn e).length≤6000):(Vatwvc.wordsOfEdit e).length≤100000:=by
 rw[VM.zM,aE]at hok;have hwl:=Fv e;have hpl:=Ee hok.1 hn;have hd3:kE [32] ((VM.eW e).map rF.text)≤6001 * ((VM.eW e).map fun _=>1).sum:=wZ fun x hx'=>by have:=YU (cD.mp hok.2 x hx');show _+1≤_;omega
 have hone:=WG e;have e6:kE [32] (VM.iH e::Vatwva.pathText (Vatwvc.pathIn e)::(VM.eW e).map rF.text)=(VM.iH e).length+1+((Vatwva.pathText (Vatwvc.pathIn e)).length+1+kE [32] ((VM.eW e).map rF.text)):=by unfold kE;rw[aP,dU,aP,dU];rfl
 have:=pF [32] (VM.iH e::Vatwva.pathText (Vatwvc.pathIn e)::(VM.eW e).map rF.text) (VM.iH e::Vatwva.pathText (Vatwvc.pathIn e)::(VM.eW e).map rF.text).length;rw[cN,←IB]at this;omega
theorem RF (T:iJ K mg a) (B:sI P w K mg a):gV P w K mg base 22 "answer_back" ["desk","texts"] (rM a K 1 (c1 .back)):=by
 refine kI T.f_answer_back ["desk","texts","edit"] fun vs H Q E h=>?_;obtain⟨p,tl,lu,lr,n,st,qs,ts,rfl,hs,hn,htl,hts,hl,hb,k⟩:=h;refine⟨rfl,fun nd _ _ _ _ _ hr=>?_⟩;obtain⟨q,t,rfl,rfl,hq⟩:=qT hts hl;refine⟨_,aI (cM (i:=2) nd rfl (bP rfl) (bB (nP T B) hr ⟨rfl,rfl,rfl⟩ (aA (fL qW (pv 1) cA (fun _ _=>rfl)) aD))) (aI (dN (bB (yV T B) hr.m ⟨rfl,rfl,rfl⟩ (aA (pv 2) (aA (cJ (pv 0) rfl) aD)))) (aN (bG (bB (BB T) hr.m ⟨rfl,rfl,rfl⟩ (aA (bB (JU T B) hr.m ⟨rfl,rfl,rfl⟩ (aA (bB (SD T B) hr.m ⟨rfl,rfl,rfl⟩ (aA (pv 2) (aA (cJ (pv 0) rfl) aD))) aD)) aD))))),?_⟩;obtain⟨us,rs,hd,hc1,hc2,hu,hv⟩:=hs.ex;obtain⟨dx,x,y,xs,ys,h1,h2,h3,h4,h5,h6,h7,h8⟩:=hd.ex;refine⟨_,rfl,tl,_,_,_,rfl,rfl,gX.of htl,fZ (j:=0) rfl,q,t,rfl,hq,hb t aM,?_⟩;have hk:eX st (c1 .back [t])=eZ (Vatwvc.editOf t) 1 fun e=>match Vatwvc.rowOn [e] st.value with
  | some x=>.ok (st,eQ ((x.2.head?.map Vatwvc.wordsOfEdit).getD []))
  | none=>.error 5:=rfl
 cases qe:Vatwvc.editOf t with
 | none=>rw[qe]at hk;exact k.no hk
 | some e=>
  obtain⟨ie,fe,se⟩:=AU qe;rw[qe]at hk;intro H1 ep s1 hep;refine⟨_,rfl,_,rfl,p,_,dx,_,_,rfl,s1 _ _ h1,T.q_Desk,T.na_Desk_value,rfl,ep,x,e,st.value,rfl,hep,h5.tups s1.tups,VM.gR hs.vv,fe,se,?_⟩;cases qm:HK e st.value with
  | none=>
   intro H2 s2;exact k.no (m:=5) (hk.trans (show(match Vatwvc.rowOn [e] st.value with
    | some x=>.ok (st,eQ ((x.2.head?.map Vatwvc.wordsOfEdit).getD []))
    | none=>.error 5:xE)=_ by rw[iX,lR,qm];rfl)) H2 (s1.trans s2)
  | some u=>
   intro H2 x2 s2 hx2;obtain⟨w2,ha,_⟩:=bE.mp qm;obtain⟨b,hb1,hb2,_⟩:=VM.XS fe (VM.gR hs.vv) ha;obtain⟨ib,pb⟩:=Cw ie hs.vv hb1;have hta:Vatwvc.turnedAll [e] st.value=[b]:=by
    show(match Vatwvc.turned e st.value,dO e st.value with
     | some b,some w=>Vatwvc.turnedAll [] w++[b]
     | _,_=>[])=[b]
    rw[hb1,ha];rfl
   have k:=k.ok (x:=(st,eQ (Vatwvc.wordsOfEdit b))) (hk.trans (show(match Vatwvc.rowOn [e] st.value with
    | some x=>.ok (st,eQ ((x.2.head?.map Vatwvc.wordsOfEdit).getD []))
    | none=>.error 5:xE)=_ by rw[iX,lR,qm,hta];rfl))
   have s12:=s1.trans s2;have hpl:(Vatwvc.pathIn b).length≤6000:=by rw[pb];exact bI (ZZ qe) (hb t aM)
   obtain⟨_,c6,d6⟩:=fM hs.vv;refine⟨_,rfl,_,rfl,p,_,dx,_,_,rfl,s12 _ _ h1,T.q_Desk,T.na_Desk_value,rfl,ep,x,e,b,st.value,rfl,hep.same s2,h5.tups s12.tups,by omega,hb1,fun H3 bp s3 hbp=>?_⟩;refine⟨bp,b,rfl,hbp,ib,hpl,fun A1 H4 s4 hA1 g1=>?_⟩;refine⟨A1,_,rfl,g1,bI (XX ib hpl) (by decide),fun D H5 s5 hD hD5=>?_⟩;have s34:=(s12.trans s3).trans s4;exact k.look hs (s34.trans s5) (dW.fresh s34 hD) hD5
theorem RJ (T:iJ K mg a) (B:sI P w K mg a):gV P w K mg base 31 "answer_meet" ["desk","texts"] (rM a K 0 fun _=>.meet):=by
 refine kI T.f_answer_meet ["desk","texts","row"] fun vs H Q E h=>?_;obtain⟨p,tl,lu,lr,n,st,qs,ts,rfl,hs,hn,htl,hts,hl,hb,k⟩:=h;refine⟨rfl,fun nd _ _ _ _ _ hr=>?_⟩;have hu64:=hr.units;refine⟨_,aI (cM (i:=2) nd rfl (bP rfl) (bB (BC T B 6 (by decide)) hr ⟨rfl,rfl,rfl⟩ (aA (cJ (pv 0) rfl) (aA (cJ (pv 0) rfl) aD)))) (aI (dN (sB (HQ T) T.q_Desk hr.m ⟨rfl,rfl,rfl⟩ (pv 0) (aA (bB (lT T B) hr.m ⟨rfl,rfl,rfl⟩ (aA (cJ (pv 2) rfl) (aA (cJ (pv 0) rfl) aD))) aD))) (aN (bG (eJ (aA (Eg (dA (ZW hu64) (cJ (pv 0) rfl) (cJ (pv 0) rfl) (dJ _)) cA cA) (aA (cX cV rfl T.n_len cE (aA (cJ (pv 2) rfl) aD)) aD)))))),?_⟩;obtain⟨us,rs,hd,hc1,hc2,hu,hv⟩:=hs.ex;obtain⟨dx,x,y,xs,ys,h1,h2,h3,h4,h5,h6,h7,h8⟩:=id hd.ex;obtain⟨gv,c6,d6⟩:=fM hs.vv;obtain⟨go,c6',d6'⟩:=fM hs.vo;refine⟨_,rfl,p,_,dx,_,_,rfl,h1,T.q_Desk,T.na_Desk_value,rfl,_,rfl,p,_,dx,_,_,rfl,h1,T.q_Desk,T.na_Desk_other,rfl,x,y,_,_,rfl,h5,h6,hs.vv,hs.vo,d6,fun H1 pr s1 r1=>?_⟩;obtain⟨hrow,hfine⟩:=VM.Hh hs.vv hs.vo;have nice:=VM.uB 6 d6 hs.vv hs.vo;obtain⟨dxr,lr1,qs1,q1,q2,q3,q4⟩:=r1;have hmade:kL (cC st.value st.other).edits st.value=some st.other:=by rw[iX]at hrow;obtain⟨z,hz,e⟩:=aO.mp hrow;cases e;exact hz
 refine⟨_,rfl,p,dx,_,rfl,s1 _ _ h1,rfl,_,rfl,pr,_,dxr,_,_,rfl,q1,T.q_Row,T.na_Row_edits,rfl,_,rfl,p,_,dx,_,_,rfl,s1 _ _ h1,T.q_Desk,T.na_Desk_value,rfl,lr1,qs1,_,x,st.value,rfl,q2,q3,h5.tups s1.tups,VM.gR hs.vv,fun e he=>⟨hfine e he,GM (nice.ok e he).1⟩,?_⟩;rw[hmade];intro H2 x2 s2 hx2;have s12:=s1.trans s2;refine⟨p,lu,lr,_,_,us,rs,x2,st.other,rfl,hd.same s12,hx2,by omega,fun H3 lr' hd3 m3 e3=>?_⟩;have hst:=yO.deed (H:=H) (lr:=lr) (n:=n) (es:=(cC st.value st.other).edits) hs.vv hs.vo hc1 hu hfine hmade hd3;obtain⟨dx3,x3,y3,xs3,ys3,g1,g2,g3,g4,g5,g6,_⟩:=id hd3.ex;have n1:pr≠p:=kH (s2 _ _ q1) (s12 _ _ h1) (fun z=>absurd (show(2:Nat)=4 from congrArg sK (HO.ins.inj z).2.2) (by decide));have n2:lr1≠p:=kH (s2 _ _ q2) (s12 _ _ h1) (by intro z;cases z);have n3:lr1≠lu:=fun z=>by rw[z,h2]at q4;cases q4
 have n4:lr1≠lr:=fun z=>by rw[z,h3]at q4;cases q4
 have q1':=m3.1 _ _ n1 (kH (s2 _ _ q1) (s12 _ _ h2) (by intro z;cases z)) (kH (s2 _ _ q1) (s12 _ _ h3) (by intro z;cases z)) (s2 _ _ q1);have q2':=m3.1 _ _ n2 n3 n4 (s2 _ _ q2);have k:=k.ok (x:=({st with value:=st.other,past:=st.past++[Vatwvc.turnedAll (cC st.value st.other).edits st.value],future:=[]},[1,(cC st.value st.other).edits.length])) (by show eZ (Vatwvc.rowOn (cC st.value st.other).edits st.value) 5 _=_;rw[hrow];show Except.ok (_,[TQ (st.other == st.other),_])=_;rw[beq_self_eq_true];rfl);refine⟨_,rfl,p,_,dx3,_,_,rfl,g1,T.q_Desk,T.na_Desk_value,rfl,_,rfl,p,_,dx3,_,_,rfl,g1,T.q_Desk,T.na_Desk_other,rfl,YZ g5 g6 go go (by omega) (by omega) ⟨_,rfl,pE (decide_eq_true rfl) ?_⟩⟩;refine⟨_,rfl,pr,_,dxr,_,_,rfl,q1',T.q_Row,T.na_Row_edits,rfl,lr1,_,rfl,.inl (gX.of q2'),(by show 2≤aU;decide),fun D hD=>?_⟩;refine k _ D lu lr' (hst.same (aZ.upd hD)) ((Kv s12).trans (m3.trans (Kv (aZ.upd hD)))) (.inl rfl) (.inr (dW.fresh s12 e3)) (dW.fresh s12 (m3.2 _ hD)) (fun z=>by rw[z,g2]at hD;cases hD) (fun z=>by rw[z,g3]at hD;cases hD) ?_;rw[aG,q3.length];rfl
theorem RH (T:iJ K mg a) (B:sI P w K mg a):gV P w K mg base 31 "answer_diff" ["desk","texts"] (rM a K 0 fun _=>.diff):=by
 refine kI T.f_answer_diff ["desk","texts","row","answer","edit"] fun vs H Q E h=>?_;obtain⟨p,tl,lu,lr,n,st,qs,ts,rfl,hs,hn,htl,hts,hl,hb,k⟩:=h;refine⟨rfl,fun nd _ _ _ _ _ hr=>?_⟩;refine⟨_,aI (cM (i:=2) nd rfl (bP rfl) (bB (BC T B 6 (by decide)) hr ⟨rfl,rfl,rfl⟩ (aA (cJ (pv 0) rfl) (aA (cJ (pv 0) rfl) aD)))) (aI (cM (i:=3) nd rfl (bP rfl) (eJ (aA (cJ (pv 2) rfl) (aA (cX cV rfl T.n_len cE (aA (cJ (pv 2) rfl) aD)) aD)))) (aI (pI (gH ⟨rfl,rfl,rfl⟩) rfl (OK (cJ (pv 2) rfl)) (eY (i:=4) nd rfl (bP rfl)) (aN (dN (nG bF kC lX zT (pv 3) (aA (bB (BB T) hr.m ⟨rfl,rfl,rfl⟩ (aA (bB (JU T B) hr.m ⟨rfl,rfl,rfl⟩ (aA (pv 4) aD)) aD)) aD))))) (aN (bG (pv 3))))),?_⟩;obtain⟨us,rs,hd,hc1,hc2,hu,hv⟩:=hs.ex;obtain⟨dx,x,y,xs,ys,h1,h2,h3,h4,h5,h6,h7,h8⟩:=id hd.ex;obtain⟨gv,c6,d6⟩:=fM hs.vv;refine⟨_,rfl,p,_,dx,_,_,rfl,h1,T.q_Desk,T.na_Desk_value,rfl,_,rfl,p,_,dx,_,_,rfl,h1,T.q_Desk,T.na_Desk_other,rfl,x,y,_,_,rfl,h5,h6,hs.vv,hs.vo,d6,fun H1 pr s1 r1=>?_⟩;have nice:=VM.uB 6 d6 hs.vv hs.vo;have hk:eX st .diff=.ok (st,(cC st.value st.other).cost::Po ((cC st.value st.other).edits.map Vatwvc.wordsOfEdit)):=rfl;have k:=k.ok hk;generalize hr0:cC st.value st.other=r at nice r1 k;obtain⟨dxr,lr1,qs1,q1,q2,q3,q4⟩:=r1;refine⟨_,rfl,pr,_,dxr,_,_,rfl,q1,T.q_Row,T.na_Row_cost,rfl,_,rfl,pr,_,dxr,_,_,rfl,q1,T.q_Row,T.na_Row_edits,rfl,lr1,_,rfl,.inl (gX.of q2),(by show 2≤aU;decide),fun D hD=>?_⟩;have sD:=aZ.upd (o:=.lst [.int (r.cost:Nat),.int (qs1.length:Nat)]) hD;have hDH:=dW.fresh s1 hD;have nl:lr1≠D:=dL q2 hD;have hql:qs1.length=r.edits.length:=q3.length;have hel:r.edits.length≤61:=bI nice.len nice.le;refine⟨_,rfl,pr,_,dxr,_,_,rfl,sD _ _ q1,T.q_Row,T.na_Row_edits,rfl,lr1,rfl,⟨_,gX.of (sD _ _ q2)⟩,QH (xs:=qs1) (fun i σ H'=>aZ H1 H'∧∃s4 ns,σ=[some (.ref p),some (.ref tl),some (.ref pr),some (.ref D),s4]∧H' D=some (.lst ((GD ns).map V.int))∧ns=r.cost::r.edits.length::((r.edits.take i).map Vatwvc.wordsOfEdit).flatMap eQ∧ns.length≤2+100001 * i) ⟨sD,none,[r.cost,r.edits.length],rfl,by rw[aG,hql];rfl,rfl,(by show 2≤_;omega)⟩ (fun i σ H' _ h=>gX.of (h.1 _ _ q2)) ?_ ?_⟩
 ·rintro i z σ H' hz ⟨sm,s4,ns,rfl,hD',hns,hnl⟩;obtain⟨e,ee,ep,rfl,hep⟩:=Paired.at q3 hz;have hm:=bA ee;obtain⟨ie,pe⟩:=nice.ok e hm;have hwl:=XX ie (bI pe (by decide));have hil:=(aS.mp ee).1;refine⟨_,rfl,.inl ⟨rfl,_,gX.of hD'⟩,_,rfl,ep,e,rfl,hep.same sm,ie,bI pe (by decide),fun A1 H2 s2 hA1 g1=>?_⟩;refine⟨A1,_,rfl,g1,by omega,fun A2 H3 s3 hA2 g2=>?_⟩;have s23:=s2.trans s3;have hD3:=s23 _ _ hD';refine⟨D,A2,_,_,rfl,rfl,hD3,g2,big (by rw[aJ,aJ,KH];unfold GD;rw[aJ];omega),dB (sm.trans s23) hD,_,ns++eQ (Vatwvc.wordsOfEdit e),rfl,?_,?_,?_⟩
  ·rw[aG];unfold Fm GD;rw[aW,aW]
  ·rw[iY ee,aW,Lq,hns];simp
  ·rw[aC];have:(eQ (Vatwvc.wordsOfEdit e)).length=(Vatwvc.wordsOfEdit e).length+1:=by unfold eQ;simp
   omega
 ·rintro σ H' ⟨sm,s4,ns,rfl,hD',hns,hnl⟩;rw[hql,cN]at hns;refine⟨_,rfl,k.look hs (s1.trans sm) hDH ?_⟩;rw[hD',hns];unfold Po;rw[aJ]
theorem VX (f:A→Option B):∀{l:List A} {r:List B},Vatwva.allOf (l.map f)=some r→∀y∈r,∃x,f x=some y
 | [],r,h,y,hy=>by cases h;cases hy
 | x::l,r,h,y,hy=>by
  obtain⟨b,hb,h⟩:=bE.mp (show((f x).bind fun b=>(Vatwva.allOf (l.map f)).map fun l=>b::l)=some r from h);obtain⟨r',hr',rfl⟩:=aO.mp h;rcases aT.mp hy with rfl | hy
  ·exact⟨x,hb⟩
  ·exact VX f hr' y hy
theorem Qo (h:Vatwvc.editsOf t=some es):∀e∈es,VM.tT 24 e∧FU e:=fun e he=>by
 simp only[Vatwvc.editsOf]at h;split at h
 ·obtain⟨x,hx⟩:=VX Vatwvc.editOf h e he;exact(AU hx).2
 ·cases h
theorem Od (h:VM.runs es v=VM.runs (es.drop i) u) (he:es.drop i=e::es.drop (i+1)) (ha:dO e u=none):kL es v=none:=by unfold kL;rw[h,he];show((dO e u).bind _).bind _=none;rw[ha];rfl
theorem JR (T:iJ K mg a) (B:sI P w K mg a):gV P w K mg base 22 "answer_commute" ["desk","texts"] (rM a K 2 fun ts=>.commute (ts.getD 0 []) (ts.getD 1 [])):=by
 refine kI T.f_answer_commute ["desk","texts","one","other","one_first","other_first"] fun vs H Q E h=>?_;obtain⟨p,tl,lu,lr,n,st,qs,ts,rfl,hs,hn,htl,hts,hl,hb,k⟩:=h;refine⟨rfl,fun nd _ _ _ _ _ hr=>?_⟩;obtain⟨q,q',t,t',rfl,rfl,hq,hq'⟩:=Ot hts hl;have hu64:=hr.units;refine⟨_,aI (cM (i:=2) nd rfl (bP rfl) (bB (nP T B) hr ⟨rfl,rfl,rfl⟩ (aA (fL qW (pv 1) cA (fun _ _=>rfl)) aD))) (aI (cM (i:=3) nd rfl (bP rfl) (bB (nP T B) hr ⟨rfl,rfl,rfl⟩ (aA (fL qW (pv 1) cA (fun _ _=>rfl)) aD))) (aI (Ij ⟨rfl,rfl,rfl⟩ (En (i:=4) nd rfl (bP rfl) (Lc (lT T B) hr.m ⟨rfl,rfl,rfl⟩ (aA (eJ (aA (pv 2) (aA (pv 3) aD))) (aA (cJ (pv 0) rfl) aD))) (Ad (i:=5) nd rfl (bP rfl) (Lc (lT T B) hr.m ⟨rfl,rfl,rfl⟩ (aA (eJ (aA (pv 3) (aA (pv 2) aD))) (aA (cJ (pv 0) rfl) aD))))) (FC ⟨rfl,rfl,rfl⟩ rfl T.x_Inapplicable.1 T.x_Inapplicable.2 (fun e=>aN (bG (eJ (aA cA aD)))) Aa)) (aN (bG (eJ (aA (Eg (dA (ZW hu64) (pv 4) (pv 5) (dJ _)) cA cA) aD)))))),?_⟩;obtain⟨us,rs,hd,hc1,hc2,hu,hv⟩:=hs.ex;obtain⟨dx,x,y,xs,ys,h1,h2,h3,h4,h5,h6,h7,h8⟩:=id hd.ex;refine⟨_,rfl,tl,_,_,_,rfl,rfl,gX.of htl,fZ (j:=0) rfl,q,t,rfl,hq,hb t aM,?_⟩;have hk:eX st (.commute t t')=eZ (Vatwvc.editOf t) 1 fun e=>eZ (Vatwvc.editOf t') 1 fun d=>match Vatwvc.rowOn [e,d] st.value,Vatwvc.rowOn [d,e] st.value with
  | some a,some b=>.ok (st,[TQ (a.1 == b.1)])
  | _,_=>.ok (st,[0]):=rfl
 have k:AI a K H p lu lr n (eX st (.commute t t')) Q E:=k;cases qe:Vatwvc.editOf t with
 | none=>rw[qe]at hk;exact k.no hk
 | some e=>
  obtain⟨ie,fe,se⟩:=AU qe;rw[qe]at hk;intro H1 ep s1 hep;refine⟨_,rfl,tl,_,_,_,rfl,rfl,gX.of (s1 _ _ htl),fZ (j:=1) rfl,q',t',rfl,s1 _ _ hq',hb t' (aL _ aM),?_⟩;cases qd:Vatwvc.editOf t' with
  | none=>rw[qd]at hk;exact fun H2 s2=>k.no hk H2 (s1.trans s2)
  | some d=>
   obtain⟨id',fd',sd'⟩:=AU qd;rw[qd]at hk;have hk:eX st (.commute t t')=(match Vatwvc.rowOn [e,d] st.value,Vatwvc.rowOn [d,e] st.value with
    | some a,some b=>.ok (st,[TQ (a.1 == b.1)])
    | _,_=>.ok (st,[0]):xE):=hk
   rw[iX,iX]at hk;intro H2 dp s2 hdp;have s12:=s1.trans s2;refine⟨_,rfl,_,rfl,(by show 2≤aU;decide),fun L1 hL1=>?_⟩;have s3:=s12.trans (aZ.upd (o:=.lst [.ref ep,.ref dp]) hL1);have fine:∀z∈[e,d],VM.tT 24 z∧FU z:=fun z hz=>by
    rcases aT.mp hz with rfl | hz
    ·exact⟨fe,se⟩
    ·obtain rfl:=bU.mp hz;exact⟨fd',sd'⟩
   have fine':∀z∈[d,e],VM.tT 24 z∧FU z:=fun z hz=>by
    rcases aT.mp hz with rfl | hz
    ·exact⟨fd',sd'⟩
    ·obtain rfl:=bU.mp hz;exact⟨fe,se⟩
   refine⟨_,rfl,p,_,dx,_,_,rfl,s3 _ _ h1,T.q_Desk,T.na_Desk_value,rfl,L1,_,[e,d],x,st.value,rfl,aG,.cons ⟨ep,rfl,(hep.same s2).same (aZ.upd hL1)⟩ (.cons ⟨dp,rfl,hdp.same (aZ.upd hL1)⟩ .nil),h5.tups s3.tups,VM.gR hs.vv,fine,?_⟩;cases qa:kL [e,d] st.value with
   | none=>intro H4 s4;rw[qa]at hk;refine⟨_,rfl,T.x_Inapplicable.2,fun _=>⟨(by show 1≤aU;decide),fun D hD=>?_⟩,fun z=>absurd rfl z⟩;exact(k.ok hk).look hs ((s3.trans s4).trans (aZ.upd hD)) (dW.fresh (s3.trans s4) hD) aG
   | some va=>
    intro H4 xa s4 hxa;rw[qa]at hk;have s34:=s3.trans s4;refine⟨rfl,_,rfl,_,rfl,(by show 2≤aU;decide),fun L2 hL2=>?_⟩;have s5:=aZ.upd (o:=.lst [.ref dp,.ref ep]) hL2;have s6:=s34.trans s5;have sb:=((aZ.upd (o:=.lst [.ref ep,.ref dp]) hL1).trans s4).trans s5;refine⟨_,rfl,p,_,dx,_,_,rfl,s6 _ _ h1,T.q_Desk,T.na_Desk_value,rfl,L2,_,[d,e],x,st.value,rfl,aG,.cons ⟨dp,rfl,hdp.same sb⟩ (.cons ⟨ep,rfl,(hep.same s2).same sb⟩ .nil),h5.tups s6.tups,VM.gR hs.vv,fine',?_⟩;cases qb:kL [d,e] st.value with
    | none=>intro H7 s7;rw[qb]at hk;refine⟨_,rfl,T.x_Inapplicable.2,fun _=>⟨(by show 1≤aU;decide),fun D hD=>?_⟩,fun z=>absurd rfl z⟩;exact(k.ok hk).look hs ((s6.trans s7).trans (aZ.upd hD)) (dW.fresh (s6.trans s7) hD) aG
    | some vb=>
     intro H7 xb s7 hxb;rw[qb]at hk;have hk:eX st (.commute t t')=.ok (st,[TQ (va == vb)]):=hk;have vva:Vatwva.isValue va=true:=by have:=iX [e,d] st.value;rw[qa]at this;exact(VM.nU.mp this).2.1
     have vvb:Vatwva.isValue vb=true:=by have:=iX [d,e] st.value;rw[qb]at this;exact(VM.nU.mp this).2.1
     obtain⟨ga,ca,da⟩:=fM vva;obtain⟨gb,cb,db⟩:=fM vvb;have s67:=s6.trans s7;refine⟨_,rfl,_,rfl,YZ (hxa.tups (s5.trans s7).tups) hxb ga gb (by omega) (by omega) ⟨_,rfl,nB (fun c=>?_) (fun c=>?_)⟩⟩
     ·have c:va=vb:=of_decide_eq_true c;refine⟨(by show 1≤aU;decide),fun D hD=>?_⟩;rw[c,beq_self_eq_true]at hk;exact(k.ok hk).look hs (s67.trans (aZ.upd hD)) (dW.fresh s67 hD) aG
     ·have c:¬va=vb:=fun z=>c (decide_eq_true z);refine⟨(by show 1≤aU;decide),fun D hD=>?_⟩;rw[beq_eq_false_iff_ne.mpr c]at hk;exact(k.ok hk).look hs (s67.trans (aZ.upd hD)) (dW.fresh s67 hD) aG
theorem RL (T:iJ K mg a) (B:sI P w K mg a):gV P w K mg base 23 "answer_rows" ["desk","texts"] (rM a K 1 (c1 .rows)):=by
 refine kI T.f_answer_rows ["desk","texts","edits","made","count","edit"] fun vs H Q E h=>?_;obtain⟨p,tl,lu,lr,n,st,qs,ts,rfl,hs,hn,htl,hts,hl,hb,k⟩:=h;refine⟨rfl,fun nd _ _ _ _ _ hr=>?_⟩;obtain⟨q,t,rfl,rfl,hq⟩:=qT hts hl;refine⟨_,aI (cM (i:=2) nd rfl (bP rfl) (bB (UQ T B) hr ⟨rfl,rfl,rfl⟩ (aA (fL qW (pv 1) cA (fun _ _=>rfl)) aD))) (aI (cM (i:=3) nd rfl (bP rfl) (cJ (pv 0) rfl)) (aI (pI (gH ⟨rfl,rfl,rfl⟩) rfl (Kz (by rfl) T.n_enumerate (aA (pv 2) aD)) (HS (n:=2) (by rfl) (lC (eY (i:=4) nd rfl (bP rfl)) (lC (eY (i:=5) nd rfl (bP rfl)) BF))) (aN (Lb ⟨rfl,rfl,rfl⟩ (Ad (i:=3) nd rfl (bP rfl) (Lc (RP T B) hr.m ⟨rfl,rfl,rfl⟩ (aA (pv 5) (aA (pv 3) aD)))) (FC ⟨rfl,rfl,rfl⟩ rfl T.x_Inapplicable.1 T.x_Inapplicable.2 (fun e=>aN (bG (eJ (aA cA (aA (pv 4) aD))))) Aa)))) (aI (fA (wY (mS (bB (DQ T 6) hr.m ⟨rfl,rfl,rfl⟩ (aA (pv 3) aD)))) (aN (bG (eJ (aA cA (aA (cX cV rfl T.n_len cE (aA (pv 2) aD)) aD))))) cY) (aI (dN (sB (HQ T) T.q_Desk hr.m ⟨rfl,rfl,rfl⟩ (pv 0) (aA (pv 3) aD))) (aN (bG (eJ (aA cA (aA (cX cV rfl T.n_len cE (aA (pv 2) aD)) aD))))))))),?_⟩;obtain⟨us,rs,hd,hc1,hc2,hu,hv⟩:=hs.ex;obtain⟨dx,x,y,xs,ys,h1,h2,h3,h4,h5,h6,h7,h8⟩:=id hd.ex;refine⟨_,rfl,tl,_,_,_,rfl,rfl,gX.of htl,fZ (j:=0) rfl,q,t,rfl,hq,hb t aM,?_⟩;have hk:eX st (c1 .rows [t])=eZ (Vatwvc.editsOf t) 1 fun es=>match Vatwvc.rowOn es st.value with
  | some _=>eZ (Vatwvc.rowOn es st.value) 5 fun x=>.ok ({st with value:=x.1,past:=st.past++[x.2],future:=[]},[0,es.length])
  | none=>.ok (st,[1,uT es st.value]):=rfl
 cases qe:Vatwvc.editsOf t with
 | none=>rw[qe]at hk;exact k.no hk
 | some es=>
  have fine:=Qo qe;rw[qe]at hk;have hk:eX st (c1 .rows [t])=(match Vatwvc.rowOn es st.value with
   | some _=>eZ (Vatwvc.rowOn es st.value) 5 fun x=>.ok ({st with value:=x.1,past:=st.past++[x.2],future:=[]},[0,es.length])
   | none=>.ok (st,[1,uT es st.value]):xE):=hk
  rw[iX]at hk;intro H1 q1 rs1 s1 hq1 hq1' hes;have hl1:rs1.length=es.length:=hes.length;refine⟨_,rfl,p,_,dx,_,_,rfl,s1 _ _ h1,T.q_Desk,T.na_Desk_value,rfl,?_⟩;refine⟨_,rfl,q1,rs1,rfl,gX.of hq1',Cs (xs:=rs1) (fun i σ H'=>aZ H1 H'∧∃z u s4 s5,σ=[some (.ref p),some (.ref tl),some (.ref q1),some z,s4,s5]∧oB K H' z u∧iC u=true∧VM.runs es st.value=VM.runs (es.drop i) u∧Vatwvc.applyAll es st.value=Vatwvc.applyFrom i (es.drop i) u) ⟨aZ.refl H1,x,st.value,none,none,rfl,h5.tups s1.tups,VM.gR hs.vv,rfl,rfl⟩ (fun i σ H' _ h=>gX.of (h.1 _ _ hq1')) ?_ ?_⟩
  ·rintro i y1 t1 σ H' hy1 ht1 ⟨sm,z,u,s4,s5,rfl,hz,lu1,hrun,happ⟩;obtain⟨e,ee,ep,rfl,hep⟩:=Paired.at hes hy1;have hm:=fine e (bA ee);have hdr:es.drop i=e::es.drop (i+1):=by obtain⟨hi,rfl⟩:=aS.mp ee;exact bM hi
   have sT:=aZ.upd (o:=.tup [.int (i:Nat),.ref ep]) ht1;have smT:=sm.trans sT;refine⟨t1,_,rfl,.of' aG,rfl,_,_,rfl,_,_,rfl,rfl,?_⟩;refine⟨_,rfl,_,rfl,ep,z,e,u,rfl,hep.same smT,hz.tups sT.tups,lu1,hm.1,hm.2,?_⟩;cases qa:dO e u with
   | none=>
    intro H2 s2;have hfail:=Od hrun hdr qa;have hfar:uT es st.value=i:=by
     unfold uT;rw[happ,hdr];have:Vatwvc.applyFrom i (e::es.drop (i+1)) u=.error i:=by rw[Vatwvc.applyFrom,qa]
     rw[this]
    rw[hfail]at hk;have hk:eX st (c1 .rows [t])=.ok (st,[1,i]):=by rw[hk,←hfar];rfl
    have sA:=(s1.trans smT).trans s2;refine⟨_,rfl,T.x_Inapplicable.2,fun _=>⟨_,rfl,(by show 2≤aU;decide),fun D hD=>?_⟩,fun z=>absurd rfl z⟩;exact(k.ok hk).look hs (sA.trans (aZ.upd hD)) (dW.fresh sA hD) aG
   | some w1=>
    intro H2 m s2 hm2;refine⟨smT.trans s2,m,w1,_,_,rfl,hm2,(VM.nN.mp qa).2,?_,?_⟩
    ·rw[hrun,hdr];show(dO e u).bind _=_;rw[qa];rfl
    ·rw[happ,hdr,Vatwvc.applyFrom,qa]
  ·rintro σ H' ⟨sm,z,u,s4,s5,rfl,hz,lu1,hrun,happ⟩;rw[hl1,jP]at hrun happ;have hrun:VM.runs es st.value=some u:=hrun;have hfar:uT es st.value=es.length:=by unfold uT;rw[happ];rfl
   obtain⟨g,c,d⟩:=VM.lN.mp lu1;have c:Vatwva.count u≤120:=c;have d:Vatwva.deep u≤6:=d;have s1m:=s1.trans sm;refine⟨_,rfl,z,u,rfl,hz,d,by omega,fun H2 s2=>⟨_,rfl,?_⟩⟩;have s12:=s1m.trans s2;by_cases cv:Vatwva.isValue u=true
   ·have hmade:kL es st.value=some u:=by unfold kL;rw[hrun];exact if_pos cv
    have cd:=(xU lu1).mpr cv;refine mP (by rw[decide_eq_true cd];rfl) ?_;have k:=k.ok (x:=({st with value:=u,past:=st.past++[Vatwvc.turnedAll es st.value],future:=[]},[0,es.length])) (by rw[hk,hmade];rfl);refine⟨_,rfl,p,dx,_,rfl,s12 _ _ h1,rfl,_,rfl,p,lu,lr,_,_,us,rs,z,u,rfl,hd.same s12,hz.tups s2.tups,by omega,fun H3 lr' hd3 m3 e3=>?_⟩;have hst:=yO.deed (H:=H) (lr:=lr) (n:=n) (es:=es) hs.vv hs.vo hc1 hu (fun e he=>(fine e he).1) hmade hd3;obtain⟨dx3,x3,y3,xs3,ys3,g1,g2,g3,g4,g5,g6,_⟩:=id hd3.ex;have hq2:=(sm.trans s2) _ _ hq1';have hq3:=m3.1 q1 _ (kH hq2 (s12 _ _ h1) (by intro z;cases z)) (fun z=>by rw[z,h2]at hq1;cases hq1) (fun z=>by rw[z,h3]at hq1;cases hq1) hq2;refine⟨_,rfl,q1,_,rfl,.inl (gX.of hq3),(by show 2≤aU;decide),fun D hD=>?_⟩;refine k _ D lu lr' (hst.same (aZ.upd hD)) ((Kv s12).trans (m3.trans (Kv (aZ.upd hD)))) (.inl rfl) (.inr (dW.fresh s12 e3)) (dW.fresh s12 (m3.2 _ hD)) (fun z=>by rw[z,g2]at hD;cases hD) (fun z=>by rw[z,g3]at hD;cases hD) ?_;rw[aG,hl1];rfl
   ·have hmade:kL es st.value=none:=by unfold kL;rw[hrun];exact if_neg cv
    refine pE (by rw[decide_eq_false (fun z=>cv ((xU lu1).mp z))];rfl) ?_;have hk:eX st (c1 .rows [t])=.ok (st,[1,es.length]):=by rw[hk,hmade,←hfar];rfl
    refine⟨_,rfl,q1,_,rfl,.inl (gX.of ((sm.trans s2) _ _ hq1')),(by show 2≤aU;decide),fun D hD=>?_⟩;refine(k.ok hk).look hs (s12.trans (aZ.upd hD)) (dW.fresh s12 hD) ?_;rw[aG,hl1];rfl
end My
end
section
namespace My
open Vatwva (Text Name)
open Vatwvc (Edit State)
def QM (t:bW):List Int:=t.map fun b=>(b.toNat:Int)
def TC (l:List Int):bW:=l.map fun b=>sJ b.toNat
def vU (k:Nat):Nat:=if k=10 then 2 else if k=2∨k=8∨k=9∨k=11∨k=12∨k=13 then 0 else 1
def xP:Nat→List bW→yM
 | 0=>c1 .value
 | 1=>c1 .other
 | 2=>fun _=>.showValue
 | 3=>c1 .edit
 | 4=>c1 .rows
 | 5=>c1 .try_
 | 6=>c1 .back
 | 7=>c1 .cost
 | 8=>fun _=>.diff
 | 9=>fun _=>.meet
 | 10=>fun ts=>.commute (ts.getD 0 []) (ts.getD 1 [])
 | 11=>fun _=>.undo
 | 12=>fun _=>.redo
 | _=>fun _=>.size
structure OW (c:List (List Int)) (k:Nat) (ts:List bW):Prop where
 eq:c=[(k:Int)]::ts.map QM
 lt:k < 14
 len:ts.length=vU k
 small:∀t∈ts,t.length≤6000
 of:zF c=some (xP k ts)
theorem Zf (h:rR z 8=true):0≤z∧z < 256:=by unfold rR at h;rw[aE,decide_eq_true_iff,decide_eq_true_iff]at h;exact⟨h.1,h.2⟩
theorem HF {t:List Int} (h:t.all (fun(z:Int)=>rR z 8)=true):QM (TC t)=t∧eK t=some (TC t)∧(TC t).length=t.length:=by
 rw[cD]at h;refine⟨?_,?_,aJ _⟩
 ·unfold QM TC;rw[cP];refine(eO fun z hz=>?_).trans (nX _);obtain⟨h1,h2⟩:=Zf (h z hz);show(((sJ z.toNat).toNat:Nat):Int)=z;rw[UInt8.toNat_ofNat_of_lt' (show z.toNat < 256 by omega)];omega
 ·unfold eK;rw[if_pos]
  ·rfl
  ·unfold NeutralIO.bytes;rw[cD];intro z hz;obtain⟨h1,h2⟩:=Zf (h z hz);simp;omega
theorem wO {k:Nat} {t:List Int} {f:bW→yM} (h:((t.all (fun(z:Int)=>rR z 8)) && decide (t.length≤6000))=true) (hk:k < 14) (ha:vU k=1) (hc:xP k=c1 f)
  (ho:∀u,eK t=some u→zF [[(k:Int)],t]=some (f u)):∃k' ts,OW [[(k:Int)],t] k' ts:=by
 rw[aE,decide_eq_true_iff]at h;obtain⟨b1,b2,b3⟩:=HF h.1;refine⟨k,[TC t],by rw[aP,b1];rfl,hk,by rw[ha];rfl,fun u hu=>?_,?_⟩
 ·obtain rfl:=bU.mp hu;rw[b3];exact h.2
 ·rw[ho _ b2,hc];rfl
theorem zI {k:Nat} {f:yM} (hk:k < 14) (ha:vU k=0) (ho:zF [[(k:Int)]]=some (xP k [])):∃k' ts,OW [[(k:Int)]] k' ts:=⟨k,[],rfl,hk,(by rw[ha];rfl),(fun u hu=>nomatch hu),ho⟩
theorem Qa {c:List (List Int)} (h:nY c=true):∃k ts,OW c k ts:=by
 unfold nY at h;split at h
 ·exact wO (k:=0) (f:=.value) h (by decide) rfl rfl fun u hu=>by show(eK _).map _=_;rw[hu];rfl
 ·exact wO (k:=1) (f:=.other) h (by decide) rfl rfl fun u hu=>by show(eK _).map _=_;rw[hu];rfl
 ·exact zI (k:=2) (f:=.showValue) (by decide) rfl rfl
 ·exact wO (k:=3) (f:=.edit) h (by decide) rfl rfl fun u hu=>by show(eK _).map _=_;rw[hu];rfl
 ·exact wO (k:=4) (f:=.rows) h (by decide) rfl rfl fun u hu=>by show(eK _).map _=_;rw[hu];rfl
 ·exact wO (k:=5) (f:=.try_) h (by decide) rfl rfl fun u hu=>by show(eK _).map _=_;rw[hu];rfl
 ·exact wO (k:=6) (f:=.back) h (by decide) rfl rfl fun u hu=>by show(eK _).map _=_;rw[hu];rfl
 ·exact wO (k:=7) (f:=.cost) h (by decide) rfl rfl fun u hu=>by show(eK _).map _=_;rw[hu];rfl
 ·exact zI (k:=8) (f:=.diff) (by decide) rfl rfl
 ·exact zI (k:=9) (f:=.meet) (by decide) rfl rfl
 ·rename_i t u
  rw[aE,aE,aE,decide_eq_true_iff,decide_eq_true_iff]at h;obtain⟨b1,b2,b3⟩:=HF h.1.1;obtain⟨d1,d2,d3⟩:=HF h.2.1;refine⟨10,[TC t,TC u],by rw[aP,aP,b1,d1];rfl,by decide,rfl,fun z hz=>?_,?_⟩
  ·rcases aT.mp hz with rfl | hz
   ·rw[b3];exact h.1.2
   ·obtain rfl:=bU.mp hz;rw[d3];exact h.2.2
  ·show((eK t).bind fun x=>(eK u).map fun y=>Vatwvc.Call.commute x y)=_;rw[b2,d2];rfl
 ·exact zI (k:=11) (f:=.undo) (by decide) rfl rfl
 ·exact zI (k:=12) (f:=.redo) (by decide) rfl rfl
 ·exact zI (k:=13) (f:=.size) (by decide) rfl rfl
 ·cases h
theorem Sk:∀k:Nat,k < 14→eP (k:Int)=some (0,vU k):=by decide
theorem Sz (c:List (List Int)):NZ c=c:=by unfold NZ;split<;>rfl
theorem Mo (h:NF eP (p::r)=some (c,t)) (hc:OW c k ts):p=(k:Int)∧pN (vU k) r=some (ts.map QM,t):=by
 have h:(match eP p with
  | none=>none
  | some (n,k)=>if r.length < n then none else match pN k (r.drop n)with
   | none=>none
   | some (xs,t)=>some ((p::r.take n)::xs,t))=some (c,t):=h
 cases hs:eP p with
 | none=>rw[hs]at h;cases h
 | some nm=>
  obtain⟨n,m⟩:=nm;rw[hs]at h;dsimp only at h;split at h
  ·cases h
  ·cases hr:pN m (r.drop n)with
   | none=>rw[hr]at h;cases h
   | some xt=>obtain⟨xs,t'⟩:=xt;rw[hr]at h;cases h;have e:=hc.eq;rw[dE]at e;have ep:=(iQ e.1).1;subst ep;rw[Sk k hc.lt]at hs;cases hs;exact⟨rfl,by rw[←e.2];exact hr⟩
theorem Ob (h:pN (k+1) r=some (xs,t)):∃(n:Nat) (r':List Int) (ys:List (List Int)),r=(n:Int)::r'∧n≤r'.length∧xs=r'.take n::ys∧pN k (r'.drop n)=some (ys,t):=by
 have h:(match PyFlat.row r with
  | none=>none
  | some (x,s)=>match pN k s with
   | none=>none
   | some (xs,t)=>some (x::xs,t))=some (xs,t):=h
 cases r with
 | nil=>cases h
 | cons z r'=>
  have hrow:PyFlat.row (z::r')=if 0≤z∧z.toNat≤r'.length then some (r'.take z.toNat,r'.drop z.toNat)else none:=rfl
  by_cases c:0≤z∧z.toNat≤r'.length
  ·rw[hrow,if_pos c]at h;dsimp only at h;cases hr:pN k (r'.drop z.toNat)with
   | none=>rw[hr]at h;cases h
   | some xt=>obtain⟨ys,t'⟩:=xt;rw[hr]at h;cases h;exact⟨z.toNat,r',ys,by rw[Int.toNat_of_nonneg c.1],c.2,rfl,hr⟩
  ·rw[hrow,if_neg c]at h;cases h
theorem Oc (h:pN 0 r=some (xs,t)):xs=[]∧t=r:=by cases h;exact⟨rfl,rfl⟩
theorem Hd (h:nW eP f (p::r)=some cs):∃f' c t cs',NF eP (p::r)=some (c,t)∧nW eP f' t=some cs'∧cs=c::cs':=by
 cases f with
 | zero=>cases h
 | succ f=>
  have h:(match NF eP (p::r)with
   | none=>none
   | some (c,t)=>match nW eP f t with
    | none=>none
    | some cs=>some (c::cs))=some cs:=h
  cases hc:NF eP (p::r)with
  | none=>rw[hc]at h;cases h
  | some ct=>
   obtain⟨c,t⟩:=ct;rw[hc]at h;dsimp only at h;cases hs:nW eP f t with
   | none=>rw[hs]at h;cases h
   | some cs'=>rw[hs]at h;cases h;exact⟨f,c,t,cs',rfl,hs,rfl⟩
theorem Mp (h:nW eP f []=some cs):cs=[]:=by cases f<;>cases h<;>rfl
theorem Vh (hc:OW c k ts) (st:OA):fX st c=((nL st (xP k ts)).1,zG (nL st (xP k ts)).2):=by unfold fX;rw[hc.of]
theorem iZ (h:eZ x n f=.error m):m=n∨∃a,f a=.error m:=by
 cases x with
 | none=>cases h;exact .inl rfl
 | some a=>exact .inr ⟨a,h⟩
theorem Ql (h:eX st c=.error m):m=1∨m=5∨m=9:=by
 cases c with
 | value t=>rcases iZ h with z | ⟨a,z⟩;exact .inl z;cases z
 | other t=>rcases iZ h with z | ⟨a,z⟩;exact .inl z;cases z
 | showValue=>cases h
 | edit t=>
  rcases iZ h with z | ⟨a,z⟩
  ·exact .inl z
  ·rcases iZ z with z | ⟨a,z⟩;exact .inr (.inl z);cases z
 | rows t=>
  rcases iZ h with z | ⟨a,z⟩
  ·exact .inl z
  ·split at z
   ·rcases iZ z with z | ⟨a,z⟩;exact .inr (.inl z);cases z
   ·cases z
 | try_ t=>
  rcases iZ h with z | ⟨a,z⟩
  ·exact .inl z
  ·split at z<;>cases z
 | back t=>
  rcases iZ h with z | ⟨a,z⟩
  ·exact .inl z
  ·split at z
   ·cases z
   ·cases z;exact .inr (.inl rfl)
 | cost t=>rcases iZ h with z | ⟨a,z⟩;exact .inl z;cases z
 | diff=>cases h
 | meet=>rcases iZ h with z | ⟨a,z⟩;exact .inr (.inl z);cases z
 | commute t u=>
  rcases iZ h with z | ⟨a,z⟩
  ·exact .inl z
  ·rcases iZ z with z | ⟨a,z⟩
   ·exact .inl z
   ·split at z<;>cases z
 | undo=>
  rcases iZ h with z | ⟨a,z⟩
  ·exact .inr (.inr z)
  ·rcases iZ z with z | ⟨a,z⟩;exact .inr (.inr z);cases z
 | redo=>
  rcases iZ h with z | ⟨a,z⟩
  ·exact .inr (.inr z)
  ·rcases iZ z with z | ⟨a,z⟩;exact .inr (.inr z);cases z
 | size=>cases h
end My
end
section
namespace My
open PySem PySem.Spec PyProof.Rows L2
open PySem.W (Frag)
open Vatwva (Text Name)
open Vatwvc (Edit State Found cheaper andThen)
open VM (cG jV kD jF uG kN KD dI cT qZ NL rF MV oS uH pK qI wA gQ CB KG SG mV)
variable {P:Program} {w:World} {K:Frag} {mg:Str→Option Value} {base:Heap} {a:mI}
def Cd:List Str:=["answer_value","answer_other","answer_show","answer_edit","answer_rows","answer_try","answer_back","answer_cost","answer_diff","answer_meet","answer_commute","answer_undo","answer_redo","answer_size"]
structure OX (P:dF) (w:eV) (K:aB) (mg:Str→Option Value) (a:mI):Prop where
 ne1:a.xInapplicable≠a.xUnreadable
 ne2:a.xNoDeed≠a.xUnreadable
 ne3:a.xNoDeed≠a.xInapplicable
 tab:∃kvs,xO P w K a.dCALLS kvs∧∀k:Nat,k < 14→∃t f,qJ kvs (.inl (k:Int))=some (.ref t)∧(∀H:Hp,fE K H t [.ref f,.int (vU k:Nat)])∧mg (Cd.getD k "")=some (.ref f)
theorem Th (T:iJ K mg a) (B:sI P w K mg a):∀k,k < 14→mg (Cd.getD k "")=some (.ref f)→Te P w K mg base 31 (.ref f) (rM a K (vU k) (xP k))
 | 0,_,h=>gV.fnv ((NQ T).mono (by decide)) h
 | 1,_,h=>gV.fnv ((NP T).mono (by decide)) h
 | 2,_,h=>gV.fnv ((RM T).mono (by decide)) h
 | 3,_,h=>gV.fnv ((RI T B).mono (by decide)) h
 | 4,_,h=>gV.fnv ((RL T B).mono (by decide)) h
 | 5,_,h=>gV.fnv ((UO T B).mono (by decide)) h
 | 6,_,h=>gV.fnv ((RF T B).mono (by decide)) h
 | 7,_,h=>gV.fnv ((RG T B).mono (by decide)) h
 | 8,_,h=>gV.fnv ((RH T B).mono (by decide)) h
 | 9,_,h=>gV.fnv ((RJ T B).mono (by decide)) h
 | 10,_,h=>gV.fnv ((JR T B).mono (by decide)) h
 | 11,_,h=>gV.fnv ((RO T).mono (by decide)) h
 | 12,_,h=>gV.fnv ((RK T).mono (by decide)) h
 | 13,_,h=>gV.fnv ((RN T).mono (by decide)) h
 | _+14,hk,_=>absurd hk (by omega)
def Vx (a:mI) (K:aB) (H:Hp) (p lu lr:aQ) (n:Nat) (x:OA×Vatwvc.Answer) (Q:VK):Prop:=∀H' D lu' lr',yO a K H' p lu' lr' (n+1) x.1→Mv p lu lr H H'→(lu'=lu∨H lu'=none)→(lr'=lr∨H lr'=none)→H D=none→D≠lu'→D≠lr'→H' D=some (.lst ((zG x.2).map V.int))→Q (.ref D) H'
def Al (a:mI) (K:aB):Sp:=fun vs H Q _=>∃(p tl lu lr:aQ) (n:Nat) (st:OA) (k:Nat) (qs:List V) (ts:List bW),vs=[.ref p,.int (k:Nat),.ref tl]∧yO a K H p lu lr n st∧n≤10000∧H tl=some (.lst qs)∧YL H qs ts∧k < 14∧ts.length=vU k∧(∀t∈ts,t.length≤6000)∧Vx a K H p lu lr n (nL st (xP k ts)) Q
theorem ZJ (T:iJ K mg a) (B:sI P w K mg a) (C:OX P w K mg a):gV P w K mg base 32 "answer_of" ["desk","number","texts"] (Al a K):=by
 refine kI T.f_answer_of ["desk","number","texts","answering"] fun vs H Q E h=>?_;obtain⟨p,tl,lu,lr,n,st,k,qs,ts,rfl,hs,hn,htl,hts,hk,hl,hb,kk⟩:=h;refine⟨rfl,fun nd _ _ _ _ _ hr=>?_⟩;refine⟨_,aI (cM (i:=3) nd rfl (bP rfl) (fL fQ (BE (dM (v:=.ref a.dCALLS) (by rfl) T.d_CALLS rfl) (pv 1) (fun _ _=>rfl)) cA (fun _ _=>rfl))) (aN (Lb ⟨rfl,rfl,rfl⟩ (Uy (Sb (k:=31) ⟨rfl,rfl,rfl⟩ hr (pv 3) (aA (pv 0) (aA (pv 2) aD)))) (FC ⟨rfl,rfl,rfl⟩ rfl T.x_Unreadable.1 T.x_Unreadable.2 (fun e=>aN (bG (eJ (aA (MS EC cA) aD)))) (FC ⟨rfl,rfl,rfl⟩ rfl T.x_Inapplicable.1 T.x_Inapplicable.2 (fun e=>aN (bG (eJ (aA (MS EC cA) aD)))) (FC ⟨rfl,rfl,rfl⟩ rfl T.x_NoDeed.1 T.x_NoDeed.2 (fun e=>aN (bG (eJ (aA (MS EC cA) aD)))) Aa))))),?_⟩;obtain⟨kvs,kd,tab⟩:=C.tab;obtain⟨t,fa,hval,htup,hmg⟩:=tab k hk;have hfn:=Th (base:=base) T B k hk hmg;obtain⟨us,rs,hd,_⟩:=hs.ex;obtain⟨dx,x,y,xs,ys,h1,h2,h3,_⟩:=hd.ex;have refuse:∀(m:Nat),eX st (xP k ts)=.error m→∀H' D,aZ H H'→H' D=none→Q (.ref D) (upd H' D (.lst [.int (-(m:Int))])):=fun m hm H' D sm hD=>by
  have e:nL st (xP k ts)=(st,.refused m):=by unfold nL;rw[hm]
  rw[e]at kk;have hDH:=dW.fresh sm hD;exact kk _ D lu lr ((hs.same (sm.trans (aZ.upd hD))).up (vV _)) (Kv (sm.trans (aZ.upd hD))) (.inl rfl) (.inl rfl) hDH (fun z=>by rw[z,h2]at hDH;cases hDH) (fun z=>by rw[z,h3]at hDH;cases hDH) aG
 refine⟨_,rfl,_,kvs,.inl (k:Int),.ref t,rfl,kd,rfl,hval,t,_,_,_,rfl,rfl,htup H,fZ (j:=0) rfl,?_⟩;refine⟨_,rfl,_,⟨hfn⟩,_,rfl,_,rfl,p,tl,lu,lr,n,st,qs,ts,rfl,hs,hn,htl,hts,hl,hb,?_⟩;cases qd:eX st (xP k ts)with
 | ok x=>
  have e:nL st (xP k ts)=(x.1,.told x.2):=by unfold nL;rw[qd]
  rw[e]at kk;exact fun H' D lu' lr' a1 a2 a3 a4 a5 a6 a7 a8=>kk H' D lu' lr' a1 a2 a3 a4 a5 a6 a7 a8
 | error m=>
  intro H' sm;rcases Ql qd with rfl | rfl | rfl
  ·exact⟨_,rfl,T.x_Unreadable.2,fun _=>⟨_,rfl,(by show 1≤aU;decide),fun D hD=>refuse 1 qd H' D sm hD⟩,fun z=>absurd rfl z⟩
  ·exact⟨_,rfl,T.x_Inapplicable.2,fun z=>absurd z C.ne1,fun _=>⟨fun _=>⟨_,rfl,(by show 1≤aU;decide),fun D hD=>refuse 5 qd H' D sm hD⟩,fun z=>absurd rfl z⟩⟩
  ·exact⟨_,rfl,T.x_NoDeed.2,fun z=>absurd z C.ne2,fun _=>⟨fun z=>absurd z C.ne3,fun _=>⟨fun _=>⟨_,rfl,(by show 1≤aU;decide),fun D hD=>refuse 9 qd H' D sm hD⟩,fun z=>absurd rfl z⟩⟩⟩
def Io (K:aB):Sp:=fun vs H Q _=>∃(a:aQ) (ns:List Int),vs=[.ref a]∧gX K H a (ns.map V.int)∧VT ns=true∧∀(H':Hp) (p:aQ),H' p=some (.lst ((pO ns).map V.int))→Q (.ref p) H'
theorem To (xs:List V) (i n:Nat) (h:i+n≤xs.length):CH xs (some (i:Int)) (some ((i+n:Nat):Int))=(xs.drop i).take n:=by unfold CH;rw[HT.OL,HT.OL,EH h,EH (bI (OQ i n) h),Nat.add_sub_cancel_left]
theorem Hb (t:bW):cU t=(QM t).map V.int:=by unfold cU QM;rw[cP];rfl
theorem yO.updl {H:Hp} {p lu lr G:aQ} {n:Nat} {st:OA} {xs ys:List V} (hG:H G=some (.lst xs)) (n1:G≠lu) (n2:G≠lr) (h:yO a K H p lu lr n st):yO a K (upd H G (.lst ys)) p lu lr n st:=by obtain⟨us,rs,hd,h2⟩:=h.ex;obtain⟨dx,x,y,xs',ys',h1,h2',h3,h4,h5,h6,h7,h8⟩:=hd.ex;have tu:=oP (ys:=ys) hG;exact⟨⟨us,rs,⟨dx,x,y,xs',ys',by rw[bK (kH h1 hG (by intro z;cases z))];exact h1,by rw[bK n1.symm];exact h2',by rw[bK n2.symm];exact h3,h4,h5.tups tu,h6.tups tu,h7.tups tu,h8.tups tu⟩,h2⟩,h.vv,h.vo⟩
theorem Hm (T:iJ K mg a) (B:sI P w K mg a) (C:OX P w K mg a) (F:Gr K "answers" "answers" (top 138) f fd):vN P w K mg base (UG P w) 33 f fd ["calls"] (Io K):=by
 refine F.okY (N:=["calls","desk","given","place","number","texts","count","start","answer"]) (by exact⟨rfl,rfl,rfl,by decide+kernel,rfl,by decide+kernel,by decide+kernel⟩) fun vs H Q E h=>?_;obtain⟨cl,ns,rfl,hcl,hask,k⟩:=h;refine⟨rfl,fun nd _ _ _ _ _ hr=>?_⟩;refine⟨_,aI (cM (i:=1) nd rfl (bP rfl) (Uu (Um T B) T.k_Desk hr.m ⟨rfl,rfl,rfl⟩)) (aI (cM (i:=2) nd rfl (bP rfl) (eJ aD)) (aI (cM (i:=3) nd rfl (bP rfl) cA) (aI (zV (gH ⟨rfl,rfl,rfl⟩) (dA MR (pv 3) (cX cV rfl T.n_len cE (aA (pv 0) aD)) (dJ _)) (aI (cM (i:=4) nd rfl (bP rfl) (fL qW (pv 0) (pv 3) (fun _ _=>rfl))) (aI (Sa (i:=3) nd rfl (bP rfl) cA Qy) (aI (cM (i:=5) nd rfl (bP rfl) (eJ aD)) (aI (pI (gH ⟨rfl,rfl,rfl⟩) rfl (Nu (by rfl) T.n_range (aA (fL fQ (BE (dM (v:=.ref a.dCALLS) (by rfl) T.d_CALLS rfl) (pv 4) (fun _ _=>rfl)) cA (fun _ _=>rfl)) aD)) (eY (i:=6) nd rfl (bP rfl)) (aI (cM (i:=7) nd rfl (bP rfl) (jZ uD (pv 3) cA)) (aI (cM (i:=3) nd rfl (bP rfl) (jZ uD (pv 7) (fL qW (pv 0) (pv 3) (fun _ _=>rfl)))) (aN (dN (nG bF bR bS gF (pv 5) (aA (wX Vf (pv 0) (xY (pv 7)) (xY (pv 3))) aD))))))) (aI (cM (i:=8) nd rfl (bP rfl) (bB (ZJ T B C) hr ⟨rfl,rfl,rfl⟩ (aA (pv 1) (aA (pv 4) (aA (pv 5) aD))))) (aI (dN (nG bF bR bS gF (pv 2) (aA (cX cV rfl T.n_len cE (aA (pv 8) aD)) aD))) (aN (dN (nG bF kC lX zT (pv 2) (aA (pv 8) aD))))))))))) (aN (bG (pv 2)))))),?_⟩;have hask':∃raw,nW eP ns.length ns=some raw∧(∀c∈raw,nY c=true)∧raw.length≤60∧pO ns=vI (uR fX TR raw)∧(pO ns).length≤10000000:=by
  unfold VT at hask;cases hc:nW eP ns.length ns with
  | none=>rw[hc]at hask;cases hask
  | some raw=>rw[hc]at hask;dsimp only at hask;rw[aE,aE,aE,aE]at hask;obtain⟨⟨⟨⟨_,_⟩,_⟩,h4⟩,h5⟩:=hask;have ew:raw.map NZ=raw:=(eO fun c _=>Sz c).trans (nX _);rw[ew]at h4;unfold VatwvcNeutral.asked at h4;rw[aE,aE,cD,decide_eq_true_iff,decide_eq_true_iff]at h4;refine⟨raw,rfl,h4.1,h4.2.2,?_,of_decide_eq_true h5⟩;unfold pO PyVatwvc.calls;rw[hc];dsimp only;rw[ew]
 obtain⟨raw,hraw,hall,hlen60,hans,hshort⟩:=hask';obtain⟨kvs,kd,tab⟩:=C.tab;have hnl:(ns.map V.int).length=ns.length:=aJ _;refine fun p dx hp hdx ne=>⟨p,dx,rfl,aG,fun H1 lu lr hd keep hlu hlr=>⟨rfl,?_⟩⟩;have s1:aZ H H1:=fun b o e=>keep b o (dL e hp) (by rw[bK (dL e hp),bK (dL e hdx)];exact e);have hlu0:H lu=none:=dW.fresh (dB (aZ.upd hdx) hp) hlu;have hlr0:H lr=none:=dW.fresh (dB (aZ.upd hdx) hp) hlr;refine⟨aY _,fun G hG=>?_⟩;have hGH:=dW.fresh s1 hG;obtain⟨dx1,x1,y1,xs1,ys1,g1,g2,g3,_⟩:=id hd.ex;have vr:Vatwva.isValue (Vatwva.vRec .nil)=true:=by decide
 refine⟨fun m σ H'=>∃(p lu lr G:aQ) (pl n f:Nat) (st:OA) (cs:List (List (List Int))) (gs:List Int) (s4 s5 s6 s7 s8:Option V),σ=[some (.ref cl),some (.ref p),some (.ref G),some (.int ((pl:Nat):Int)),s4,s5,s6,s7,s8]∧aZ H H'∧yO a K H' p lu lr n st∧G≠lu∧G≠lr∧(H p=none∧H lu=none∧H lr=none∧H G=none)∧H' G=some (.lst (gs.map V.int))∧nW eP f (ns.drop pl)=some cs∧(∀c∈cs,nY c=true)∧pO ns=gs++vI (uR fX st cs)∧n+cs.length≤60∧m=cs.length,⟨raw.length,p,lu,lr,G,0,0,ns.length,TR,raw,[],none,none,none,none,none,rfl,s1.trans (aZ.upd hG),⟨⟨[],[],hd.same (aZ.upd hG),.nil _,.nil _,aR _,aR _⟩,vr,vr⟩,(fun z=>by rw[z,g2]at hG;cases hG),(fun z=>by rw[z,g3]at hG;cases hG),⟨hp,hlu0,hlr0,hGH⟩,aG,hraw,hall,hans,by omega,rfl⟩,?_⟩;clear hraw hall hans hlen60 g1 g2 g3 s1 hlu0 hlr0 hGH hlu hlr hp hdx ne hG keep hd;rintro m σ H' ⟨p,lu,lr,G,pl,n,f,st,cs,gs,s4,s5,s6,s7,s8,rfl,sm,hst,nG1,nG2,⟨hp,hlu,hlr,hGH⟩,hG,hcs,hall,hans,hn,rfl⟩;have hcl':gX K H' cl (ns.map V.int):=aZ.sqL sm hcl;refine⟨_,rfl,_,rfl,cl,_,rfl,.inl hcl',_,_,rfl,rfl,_,rfl,?_⟩;rw[hnl];by_cases hpl:pl < ns.length
 ·refine pE (decide_eq_true (by omega)) ?_;have hdr:ns.drop pl=ns[pl]::ns.drop (pl+1):=bM hpl;rw[hdr]at hcs;obtain⟨f',c,t,cs',hcall,hcs',rfl⟩:=Hd hcs;obtain⟨kn,ts,hc⟩:=Qa (hall c aM);obtain⟨ep,hrows⟩:=Mo hcall hc;obtain⟨t1,fa,hval,htup,hmg⟩:=tab kn hc.lt;refine⟨fun σ' H''=>∃(p lu lr G:aQ) (pl n f:Nat) (st:OA) (cs:List (List (List Int))) (gs:List Int) (s4 s5 s6 s7 s8:Option V),σ'=[some (.ref cl),some (.ref p),some (.ref G),some (.int ((pl:Nat):Int)),s4,s5,s6,s7,s8]∧aZ H H''∧yO a K H'' p lu lr n st∧G≠lu∧G≠lr∧(H p=none∧H lu=none∧H lr=none∧H G=none)∧H'' G=some (.lst (gs.map V.int))∧nW eP f (ns.drop pl)=some cs∧(∀c∈cs,nY c=true)∧pO ns=gs++vI (uR fX st cs)∧n+cs.length≤60∧cs'.length=cs.length,fun σ' H'' h=>⟨cs'.length,lE _,h⟩,?_⟩;have hget:(ns.map V.int)[pl]?=some (.int ((kn:Nat):Int)):=by rw[bX,bC hpl,ep];rfl
  refine⟨_,rfl,_,rfl,cl,_,_,_,rfl,rfl,hcl',fZ hget,?_⟩;refine⟨_,rfl,_,_,rfl,rfl,?_⟩;refine⟨aY _,fun tl htl=>?_⟩;have hGtl:G≠tl:=dL hG htl;refine⟨_,rfl,_,kvs,.inl (kn:Int),.ref t1,rfl,kd,rfl,hval,t1,_,_,_,rfl,rfl,htup _,fZ (j:=1) rfl,_,rfl,by omega,by unfold vU;split<;>(try split)<;>decide,Mz (lo:=0) (n:=vU kn) (fun j σ' H2=>aZ H' H2∧∃plj s6 s7 qs,σ'=[some (.ref cl),some (.ref p),some (.ref G),some (.int ((plj:Nat):Int)),some (.int ((kn:Nat):Int)),some (.ref tl),s6,s7,s8]∧H2 tl=some (.lst qs)∧UJ H2 tl qs (ts.take j)∧pN (vU kn - j) (ns.drop plj)=some ((ts.drop j).map QM,t)) ⟨aZ.upd htl,pl+1,s6,s7,[],rfl,aG,.nil,hrows⟩ ?_ ?_⟩
  ·rintro j σ' H2 hj ⟨sm2,plj,s6',s7',qs,rfl,htl2,hts2,hrw⟩;have e1:vU kn - j=(vU kn - (j+1))+1:=by omega
   rw[e1]at hrw;obtain⟨nn,r',ys,er,hnn,exs,hrw'⟩:=Ob hrw;have hjl:j < ts.length:=by rw[hc.len];exact hj
   have edr:ts.drop j=ts[j]::ts.drop (j+1):=bM hjl;rw[edr,aP,dE]at exs;have hplj:plj < ns.length:=by
    rcases Nat.lt_or_ge plj ns.length with z | z
    ·exact z
    ·rw[oH z]at er;cases er
   have hdr2:ns.drop plj=ns[plj]::ns.drop (plj+1):=bM hplj;rw[hdr2,dE]at er;obtain⟨er1,er2⟩:=er;have hrl:r'.length=ns.length - (plj+1):=by rw[←er2,cW]
   have hcl2:=aZ.sqL sm2 hcl';have hget2:(ns.map V.int)[plj]?=some (.int ((nn:Nat):Int)):=by rw[bX,bC hplj,er1];rfl
   refine⟨_,rfl,_,_,rfl,rfl,?_⟩;refine⟨_,rfl,_,rfl,_,rfl,cl,_,_,_,rfl,rfl,hcl2,fZ hget2,_,_,rfl,rfl,?_⟩;refine⟨_,rfl,.inl ⟨rfl,_,gX.of htl2⟩,_,rfl,_,rfl,_,rfl,_,rfl,_,rfl,cl,_,rfl,hcl2,fun q hq=>?_⟩;have sq:=aZ.upd (o:=.lst (CH (ns.map V.int) (some ((plj:Int)+1)) (some ((plj:Int)+1+(nn:Nat))))) hq;have hqt:q≠tl:=fun z=>by rw[z,htl2]at hq;cases hq
   have ecut:CH (ns.map V.int) (some ((plj:Int)+1)) (some ((plj:Int)+1+(nn:Nat)))=cU ts[j]:=by have:=To (ns.map V.int) (plj+1) nn (by rw[hnl];omega);rw[show((plj+1:Nat):Int)=(plj:Int)+1 from rfl,show((plj+1+nn:Nat):Int)=(plj:Int)+1+(nn:Nat)from by omega]at this;rw[this,Hb,exs.1,←rO,←rP,er2]
   refine⟨tl,_,_,rfl,rfl,sq _ _ htl2,small (by rw[hts2.length,bJ];have:=hc.len;unfold vU at this;split at this<;>(try split at this)<;>omega),?_⟩;refine⟨dB (sm2.trans sq) htl,plj+1+nn,some (.int (0+(j:Nat))),some (.int ((plj:Int)+1)),qs++[.ref q],by rw[TU (plj+1) nn];rfl,aG,?_,?_⟩
   ·rw[iY (bC hjl)];exact Paired.snoc (UJ.upd (hts2.same sq)) ⟨q,rfl,hqt,by rw[bK hqt,aG,ecut]⟩
   ·have:vU kn - (j+1)=vU kn - (j+1):=rfl;rw[exs.2,←hrw'];congr 1;rw[←er2,List.drop_drop]
  ·rintro σ' H2 ⟨sm2,plj,s6',s7',qs,rfl,htl2,hts2,hrw⟩;rw[mG]at hrw;obtain⟨_,et⟩:=Oc hrw;rw[←hc.len,cN]at hts2;refine⟨_,rfl,_,rfl,_,rfl,p,tl,lu,lr,n,st,kn,qs,ts,rfl,hst.same sm2,by omega,htl2,hts2.ts,hc.lt,hc.len,hc.small,fun H5 D lu' lr' hs5 m5 e1 e2 eD nD1 nD2 hD5=>?_⟩;have hstep:=Vh hc st;obtain⟨us,rs,hd,_⟩:=hst.ex;obtain⟨dx1,x1,y1,xs1,ys1,g1,g2,g3,_⟩:=hd.ex;have smH2:=sm.trans sm2;have hG2:=sm2 _ _ hG;have nGp:G≠p:=kH hG g1 (by intro z;cases z);have hG5:=m5.1 G _ nGp nG1 nG2 hG2;have nGD:D≠G:=fun z=>by rw[z,hG2]at eD;cases eD
   have nG1':G≠lu':=fun z=>by
    rcases e1 with q | q
    ·exact nG1 (z.trans q)
    ·rw[←z,hG2]at q;cases q
   have nG2':G≠lr':=fun z=>by
    rcases e2 with q | q
    ·exact nG2 (z.trans q)
    ·rw[←z,hG2]at q;cases q
   have hlu':H lu'=none:=by
    rcases e1 with q | q
    ·rw[q];exact hlu
    ·exact dW.fresh smH2 q
   have hlr':H lr'=none:=by
    rcases e2 with q | q
    ·rw[q];exact hlr
    ·exact dW.fresh smH2 q
   have smH5:aZ H H5:=fun b o e=>m5.1 b o (dL e hp) (dL e hlu) (dL e hlr) (smH2 b o e);generalize hx5:zG (nL st (xP kn ts)).2=an at hD5 hstep;have htold:vI (uR fX st (c::cs'))=((an.length:Int)::an)++vI (uR fX (nL st (xP kn ts)).1 cs'):=by show vI ((fX st c).2::uR fX (fX st c).1 cs')=_;rw[hstep];unfold vI;rw[dX]
   rw[htold]at hans;have hlen:=congrArg sK hans;rw[aC,aC,aK]at hlen;refine⟨_,rfl,.inl ⟨rfl,_,gX.of hG5⟩,_,rfl,D,_,rfl,.inl (gX.of hD5),G,_,_,rfl,rfl,hG5,KW (by rw[aJ];omega),?_⟩;refine⟨_,rfl,.inl ⟨rfl,_,gX.of aG⟩,_,rfl,G,D,_,_,rfl,rfl,aG,by rw[bK nGD];exact hD5,big (by rw[aC,aJ,aJ,cR];omega),?_⟩;refine⟨p,lu',lr',G,plj,n+1,f',(nL st (xP kn ts)).1,cs',gs++((an.length:Int)::an),_,_,_,_,_,rfl,dB (dB smH5 hGH) hGH,(hs5.updl hG5 nG1' nG2').updl aG nG1' nG2',nG1',nG2',⟨hp,hlu',hlr',hGH⟩,?_,?_,fun c' hc'=>hall c' (aL _ hc'),?_,?_,rfl⟩
   ·rw[aG,aW,aP,aJ,fH];rfl
   ·rw[←et];exact hcs'
   ·rw[hans,fH]
   ·rw[aK]at hn;omega
 ·refine mP (decide_eq_false (by omega)) ?_;have hdr:ns.drop pl=[]:=oH (by omega);rw[hdr]at hcs;rw[Mp hcs]at hans;refine⟨_,rfl,k H' G ?_⟩;rw[hG,hans];show some (HO.lst (gs.map V.int))=some (HO.lst ((gs++[]).map V.int));rw[cK]
theorem Yr (T:iJ K mg a) (B:sI P w K mg a) (C:OX P w K mg a) (hmg:mg "answers"=some (.ref fa)):
  ∃fd:tM,(∀(s:aV) (us:List Value),us.length=(["calls"]:List Str).length→TW s fd ⟨us,[]⟩ ((["calls"]:List Str).zip us))∧∀base:gC,K.In base→base.Ns jR mg→vN P w K mg base (UG P w) 40 fa fd ["calls"] (Io K):=by
 obtain⟨f,fd,hm,F⟩:=T.f_answers;rw[hmg]at hm;cases hm;refine⟨fd,fun s us hl=>?_,fun base _ _=>(Hm T B C F).mono (by decide)⟩;obtain⟨oc,od,kV,doc,pm,an,cdv,ct,osl,rfl,lk,hcd⟩:=F.ex;have h:bindArgs (kK "answers" "answers" (vY (top 138)) (uO (top 138)) (gW (top 138)) .none kV doc pm an cdv ct) ⟨us,[]⟩=pure ((["calls"]:List Str).zip us):=match us,hl with
  | [_],_=>rfl
 exact .of_eq h
theorem Vl (m1:mg "set_here"=some (.ref f1)) (m2:mg "put_here"=some (.ref f2)) (m3:mg "take_here"=some (.ref f3)) (m4:mg "move_here"=some (.ref f4)) (m5:mg "add_here"=some (.ref f5)) (m6:mg "drop_here"=some (.ref f6)) (m7:mg "rename_here"=some (.ref f7)) (kf:xO P w K a.dCHANGES [(.inr "set",.ref f1),(.inr "put",.ref f2),(.inr "take",.ref f3),(.inr "move",.ref f4),(.inr "add",.ref f5),(.inr "drop",.ref f6),(.inr "rename",.ref f7)]) (n1:mg "back_of_set"=some (.ref g1)) (n2:mg "back_of_put"=some (.ref g2)) (n3:mg "back_of_take"=some (.ref g3)) (n4:mg "back_of_move"=some (.ref g4)) (n5:mg "back_of_add"=some (.ref g5)) (n6:mg "back_of_drop"=some (.ref g6)) (n7:mg "back_of_rename"=some (.ref g7)) (kg:xO P w K a.dBACKS [(.inr "set",.ref g1),(.inr "put",.ref g2),(.inr "take",.ref g3),(.inr "move",.ref g4),(.inr "add",.ref g5),(.inr "drop",.ref g6),(.inr "rename",.ref g7)]) (kt:xO P w K a.dFORMS [(.inr "set",.ref t1),(.inr "put",.ref t2),(.inr "take",.ref t3),(.inr "move",.ref t4),(.inr "add",.ref t5),(.inr "drop",.ref t6),(.inr "rename",.ref t7)]) (u1:∀H:Hp,fE K H t1 [.str "value"]) (u2:∀H:Hp,fE K H t2 [.str "place",.str "value"]) (u3:∀H:Hp,fE K H t3 [.str "place"]) (u4:∀H:Hp,fE K H t4 [.str "place",.str "place"]) (u5:∀H:Hp,fE K H t5 [.str "place",.str "name",.str "value"]) (u6:∀H:Hp,fE K H t6 [.str "name"]) (u7:∀H:Hp,fE K H t7 [.str "name",.str "name"]) (e1:∀H:Hp,fE K H a.dEMPTY_RECORD [.str "record",.ref b,.ref c]) (e2:∀H:Hp,fE K H b []) (e3:∀H:Hp,fE K H c []):sI P w K mg a:=⟨⟨f1,f2,f3,f4,f5,f6,f7,⟨m1,m2,m3,m4,m5,m6,m7⟩,kf⟩,⟨g1,g2,g3,g4,g5,g6,g7,⟨n1,n2,n3,n4,n5,n6,n7⟩,kg⟩,⟨t1,t2,t3,t4,t5,t6,t7,fun H=>⟨u1 H,u2 H,u3 H,u4 H,u5 H,u6 H,u7 H⟩,kt⟩,fun H=>(OO (l:=[]) (fun x hx=>by cases hx)).mpr ⟨a.dEMPTY_RECORD,b,c,[],rfl,e1 H,e2 H,e3 H,.nil⟩⟩
theorem Qe (ne1:a.xInapplicable≠a.xUnreadable) (ne2:a.xNoDeed≠a.xUnreadable) (ne3:a.xNoDeed≠a.xInapplicable)
  (kd:xO P w K a.dCALLS [(.inl 0,.ref t0),(.inl 1,.ref t1),(.inl 2,.ref t2),(.inl 3,.ref t3),(.inl 4,.ref t4),(.inl 5,.ref t5),(.inl 6,.ref t6),(.inl 7,.ref t7),(.inl 8,.ref t8),(.inl 9,.ref t9),(.inl 10,.ref t10),(.inl 11,.ref t11),(.inl 12,.ref t12),(.inl 13,.ref t13)])
  (m0:mg "answer_value"=some (.ref f0)) (u0:∀H:Hp,fE K H t0 [.ref f0,.int 1])
  (m1:mg "answer_other"=some (.ref f1)) (u1:∀H:Hp,fE K H t1 [.ref f1,.int 1])
  (m2:mg "answer_show"=some (.ref f2)) (u2:∀H:Hp,fE K H t2 [.ref f2,.int 0])
  (m3:mg "answer_edit"=some (.ref f3)) (u3:∀H:Hp,fE K H t3 [.ref f3,.int 1])
  (m4:mg "answer_rows"=some (.ref f4)) (u4:∀H:Hp,fE K H t4 [.ref f4,.int 1])
  (m5:mg "answer_try"=some (.ref f5)) (u5:∀H:Hp,fE K H t5 [.ref f5,.int 1])
  (m6:mg "answer_back"=some (.ref f6)) (u6:∀H:Hp,fE K H t6 [.ref f6,.int 1])
  (m7:mg "answer_cost"=some (.ref f7)) (u7:∀H:Hp,fE K H t7 [.ref f7,.int 1])
  (m8:mg "answer_diff"=some (.ref f8)) (u8:∀H:Hp,fE K H t8 [.ref f8,.int 0])
  (m9:mg "answer_meet"=some (.ref f9)) (u9:∀H:Hp,fE K H t9 [.ref f9,.int 0])
  (m10:mg "answer_commute"=some (.ref f10)) (u10:∀H:Hp,fE K H t10 [.ref f10,.int 2])
  (m11:mg "answer_undo"=some (.ref f11)) (u11:∀H:Hp,fE K H t11 [.ref f11,.int 0])
  (m12:mg "answer_redo"=some (.ref f12)) (u12:∀H:Hp,fE K H t12 [.ref f12,.int 0])
  (m13:mg "answer_size"=some (.ref f13)) (u13:∀H:Hp,fE K H t13 [.ref f13,.int 0])
  :OX P w K mg a:=⟨ne1,ne2,ne3,_,kd,fun k hk=>match k,hk with
 | 0,_=>⟨t0,f0,rfl,u0,m0⟩
 | 1,_=>⟨t1,f1,rfl,u1,m1⟩
 | 2,_=>⟨t2,f2,rfl,u2,m2⟩
 | 3,_=>⟨t3,f3,rfl,u3,m3⟩
 | 4,_=>⟨t4,f4,rfl,u4,m4⟩
 | 5,_=>⟨t5,f5,rfl,u5,m5⟩
 | 6,_=>⟨t6,f6,rfl,u6,m6⟩
 | 7,_=>⟨t7,f7,rfl,u7,m7⟩
 | 8,_=>⟨t8,f8,rfl,u8,m8⟩
 | 9,_=>⟨t9,f9,rfl,u9,m9⟩
 | 10,_=>⟨t10,f10,rfl,u10,m10⟩
 | 11,_=>⟨t11,f11,rfl,u11,m11⟩
 | 12,_=>⟨t12,f12,rfl,u12,m12⟩
 | 13,_=>⟨t13,f13,rfl,u13,m13⟩
 | _+14,hk=>absurd hk (by omega)⟩
end My
end
open PySem PySem.W PyProof.Rows
set_option maxHeartbeats 0 in
theorem PySem.Challenge.cw_valueedits_s01_answers_holds : PySem.Challenge.rw_valueedits_s01_answers.Holds := by
 w_on;k_headS;(case hw=>exact⟨[.list [.int 2]],by decide+kernel,by decide+kernel⟩)
 k_fillS
 refine L2.Ow (r:=PySem.Challenge.rw_valueedits_s01_answers) (k:=40) (K:=PySem.Challenge.cw_valueedits_s01_answers_holds.heap_1) (CX:=fun w=>L2.UG PySem.Challenge.rw_valueedits_s01_answers.prog w) (ps:=["calls"]) (sp:=fun w=>My.Io (PySem.Challenge.cw_valueedits_s01_answers_holds.heap_1 w.params)) (by decide+kernel) rfl rfl ⟨rfl,by decide,by decide⟩ (fun w h Y=>PySem.W.kIn_of Y) ?F ?S (fun _ _ _ _ _ z=>by obtain⟨_,_,_,_,_,_,_,_,_,_,_,_,z⟩:=z;exact z)
 case F=>
  intro w mg fa h Y KX G hmg
  have full:∃a,My.iJ (PySem.Challenge.cw_valueedits_s01_answers_holds.heap_1 w.params) mg a∧My.sI PySem.Challenge.rw_valueedits_s01_answers.prog w (PySem.Challenge.cw_valueedits_s01_answers_holds.heap_1 w.params) mg a∧My.OX PySem.Challenge.rw_valueedits_s01_answers.prog w (PySem.Challenge.cw_valueedits_s01_answers_holds.heap_1 w.params) mg a:=by
   refine' ⟨⟨24,37,50,348,499,581,755,56,247,475,696,872⟩,?zzT,?zzB,?zzC⟩
   (case zzT=>
    constructor
    all_goals first
     | (refine' My.Wv KX G ?zze ?zzl ?zzc ?zzk;(case zze=>k_is);(case zzl=>k_is);(case zzc=>k_is);(case zzk=>k_is))
     | (refine' PySem.W.mg_of KX G ?zze;(case zze=>k_is))
     | (refine' My.Wt KX G ?zze;(case zze=>k_is))
     | (refine' My.Wu KX G ?zze ?zzr;(case zze=>k_is);(case zzr=>exact⟨_,rfl⟩))
     | (refine' ⟨PySem.W.mg_of KX G ?zze,?zzq⟩;(case zze=>k_is);(case zzq=>kernel_rfl))
     | (refine' My.Uh ?zzq1 ?zzq2 ?zzq3 ?zzq4 ?zzq5;(case zzq1=>k_is);(case zzq2=>k_is);(case zzq3=>k_is);(case zzq4=>k_is);(case zzq5=>k_is))
     | (refine' My.Ug ?zzq1 ?zzq2 ?zzq3 ?zzq4 ?zzq5 ?zzq6 ?zzq7;(case zzq1=>k_is);(case zzq2=>k_is);(case zzq3=>k_is);(case zzq4=>k_is);(case zzq5=>k_is);(case zzq6=>k_is);(case zzq7=>k_is))
     | (unfold L2.nM;k_is)
     | (refine' L2.Br.mk ?zzq1 ?zzq2 ?zzq3 ?zzq4;(case zzq1=>k_is);(case zzq2=>k_is);(case zzq3=>k_is);(case zzq4=>k_is)))
   (case zzB=>
    refine' My.Vl ?zzm1 ?zzm2 ?zzm3 ?zzm4 ?zzm5 ?zzm6 ?zzm7 ?zzkf ?zzn1 ?zzn2 ?zzn3 ?zzn4 ?zzn5 ?zzn6 ?zzn7 ?zzkg ?zzkt ?zzu1 ?zzu2 ?zzu3 ?zzu4 ?zzu5 ?zzu6 ?zzu7 ?zze1 ?zze2 ?zze3
    all_goals try (refine' PySem.W.mg_of KX G ?zze;(case zze=>k_is))
    (case zzkf=>(refine' L2.JM ?zzhl ?zzhx ?zzhd ?zzhe ?zzhn ?zznm;(case zzhl=>k_is);(case zzhx=>exact⟨rfl,rfl,rfl⟩);(case zzhd=>rfl);(case zzhe=>repeat first | exact .nil | refine' .cons (L2.EW _ _) rfl rfl ?_);(case zzhn=>decide);(case zznm=>rfl)))
    (case zzkg=>(refine' L2.JM ?zzhl ?zzhx ?zzhd ?zzhe ?zzhn ?zznm;(case zzhl=>k_is);(case zzhx=>exact⟨rfl,rfl,rfl⟩);(case zzhd=>rfl);(case zzhe=>repeat first | exact .nil | refine' .cons (L2.EW _ _) rfl rfl ?_);(case zzhn=>decide);(case zznm=>rfl)))
    (case zzkt=>(refine' L2.JM ?zzhl ?zzhx ?zzhd ?zzhe ?zzhn ?zznm;(case zzhl=>k_is);(case zzhx=>exact⟨rfl,rfl,rfl⟩);(case zzhd=>rfl);(case zzhe=>repeat first | exact .nil | refine' .cons (L2.EW _ _) rfl rfl ?_);(case zzhn=>decide);(case zznm=>rfl)))
    (case zze1=>(intro H;refine' L2.ZE ?zzhl ?zzhc ?zzhd ?zzhz ?zzhv _;(case zzhl=>k_is);(case zzhc=>exact⟨rfl,rfl⟩);(case zzhd=>rfl);(case zzhz=>decide);(case zzhv=>first | exact .nil | exact .cons ⟨_,rfl⟩ .nil | exact .cons ⟨_,rfl⟩ (.cons ⟨_,rfl⟩ .nil) | exact .cons rfl (.cons ⟨_,rfl⟩ .nil) | exact .cons ⟨_,rfl⟩ (.cons ⟨_,rfl⟩ (.cons ⟨_,rfl⟩ .nil)) | exact .cons ⟨_,rfl⟩ (.cons rfl (.cons rfl .nil)))))
    all_goals (intro H;refine' L2.ZE ?zzhl ?zzhc ?zzhd ?zzhz ?zzhv _;(case zzhl=>k_is);(case zzhc=>exact⟨rfl,rfl⟩);(case zzhd=>rfl);(case zzhz=>decide);(case zzhv=>first | exact .nil | exact .cons ⟨_,rfl⟩ .nil | exact .cons ⟨_,rfl⟩ (.cons ⟨_,rfl⟩ .nil) | exact .cons rfl (.cons ⟨_,rfl⟩ .nil) | exact .cons ⟨_,rfl⟩ (.cons ⟨_,rfl⟩ (.cons ⟨_,rfl⟩ .nil)) | exact .cons ⟨_,rfl⟩ (.cons rfl (.cons rfl .nil)))))
   (case zzC=>
    refine' My.Qe ?zzy1 ?zzy2 ?zzy3 ?zzkz ?zzx0 ?zzz0 ?zzx1 ?zzz1 ?zzx2 ?zzz2 ?zzx3 ?zzz3 ?zzx4 ?zzz4 ?zzx5 ?zzz5 ?zzx6 ?zzz6 ?zzx7 ?zzz7 ?zzx8 ?zzz8 ?zzx9 ?zzz9 ?zzx10 ?zzz10 ?zzx11 ?zzz11 ?zzx12 ?zzz12 ?zzx13 ?zzz13
    (case zzy1=>decide)
    (case zzy2=>decide)
    (case zzy3=>decide)
    all_goals try (refine' PySem.W.mg_of KX G ?zze;(case zze=>k_is))
    (case zzkz=>(refine' L2.JM ?zzhl ?zzhx ?zzhd ?zzhe ?zzhn ?zznm;(case zzhl=>k_is);(case zzhx=>exact⟨rfl,rfl,rfl⟩);(case zzhd=>rfl);(case zzhe=>repeat first | exact .nil | refine' .cons (L2.WO _ _) rfl rfl ?_);(case zzhn=>decide);(case zznm=>rfl)))
    all_goals (intro H;refine' L2.ZE ?zzhl ?zzhc ?zzhd ?zzhz ?zzhv _;(case zzhl=>k_is);(case zzhc=>exact⟨rfl,rfl⟩);(case zzhd=>rfl);(case zzhz=>decide);(case zzhv=>first | exact .nil | exact .cons ⟨_,rfl⟩ .nil | exact .cons ⟨_,rfl⟩ (.cons ⟨_,rfl⟩ .nil) | exact .cons rfl (.cons ⟨_,rfl⟩ .nil) | exact .cons ⟨_,rfl⟩ (.cons ⟨_,rfl⟩ (.cons ⟨_,rfl⟩ .nil)) | exact .cons ⟨_,rfl⟩ (.cons rfl (.cons rfl .nil)))))
  obtain⟨a,T,B,C⟩:=full
  exact My.Yr T B C hmg
 case S=>
  intro w H xs a hO hwi hask hx
  cases hx with
  | cons h1 h2=>
   cases h2
   cases h1 with
   | lst hs ha=>
    have e:=L2.Kn a.1 _ ha
    subst e
    exact⟨_,a.1,rfl,hs,hask,fun H' p hp=>.lst (L2.gX.of hp) (L2.Ki _)⟩
