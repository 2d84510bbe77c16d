import PyProof.Rows.All
import Wide.All
import OpenK.AllK
import Wide.FinOn
import PyProof.EqAt
import PyProof.EqKinds
import PyProof.TupleCall
import KE.BitLaws
import Open.SpecLaws
import KE.OsHead
import KE.OsGo
import PySem.Challenge.RW_valueedits_s01_answers
set_option Elab.async false
set_option linter.all false
set_option maxRecDepth 100000
open PySem.W renaming Frag->aB,keepIn->gJ,findIn->iE,kia_one->iH,emptyDict->iY,fnOf->kO,instObj->lL,callWith_K->nO,codeIn->sX,plainGet->zK,isFn->AO,hideAll->CJ,lookIn->DE,plainGet_of->GG,of_hideAll->IF,hasDictIn->JX,methodObj->JY,nsIn->JZ,length_le_weightAllW->QE,makesIn->QF,takerIn->QG,kitOne->RN,cellsFrom_some->An,methodCall_KW->Dh,callWith_K0->Ho,hideAll_get->Hq,kitx_dict->Kv,kitx_list->Kw,plainOver->Kx,WRecords->Nb,handedIn->Nc
open List renaming length_append->aC,length_map->aJ,length_cons->aK,mem_cons_of_mem->aL,mem_cons_self->aM,map_cons->aP,mem_cons->aS,getElem?_eq_some_iff->aT,map_append->aW,mem_map->aX,mem_of_getElem?->bB,getElem?_eq_getElem->bD,length_take->bK,drop_eq_getElem_cons->bM,size_toArray->bN,mem_singleton->bU,getElem?_map->bX,all_eq_true->cA,append_nil->cI,take_length->cN,map_map->cQ,all_cons->cR,length_singleton->cS,mem_append_right->cT,length_drop->cX,sum_cons->dW,flatMap_cons->dY,nodup_cons->dZ,eq_nil_of_length_eq_zero->eE,mem_append->eJ,map_congr_left->eQ,append_assoc->eY,mem_of_mem_drop->fQ,length_nil->fY,take_append_drop->gE,getElem?_append_right->gO,mem_of_mem_take->gP,nil_append->gR,lookup_cons->gZ,cons_append->iV,length_eq_zero_iff->iW,reverse_append->jG,find?_cons->jK,eraseIdx_eq_take_drop_succ->jM,drop_length->jT,mem_of_mem_eraseIdx->jZ,mem_filter->kM,foldl_cons->mC,forIn_cons->mD,length_reverse->nF,map_id->oB,drop_eq_nil_of_le->oN,getElem?_set_self->oO,of_mem_zip->oY,nodup_append->pD,drop_left->qG,length_eraseIdx_of_lt->qH,filterMap_cons->rC,map_drop->rW,map_take->rX,length->sQ,lookup->sR,isEmpty_iff->vP,dropLast_concat->vW,getElem?_set_ne->vX,reverse_reverse->vY,dropLast_concat_getLast->wK,toList_toArray->wP,drop_zero->xS,find?_eq_none->xT,zip_cons_cons->xU,any_cons->AH,filter_cons->CF,map_nil->CV,take_of_length_le->CW,getElem?_eq_none->FC,forIn_nil->GL,nodup_nil->GM,take_left->GN,filter_eq_self->JN,takeWhile_cons->JO,filter_append->MS,mem_filterMap->MT,range->MU,eraseIdx_append_of_length_le->MW,foldl_append->NY,set_set->NZ,length_tail->QT,all_append->WD,isPrefixOf_iff_prefix->XS,take_succ->XT,getElem?_append_left->Ai,mem_of_find?_eq_some->Aj,append_cancel_left->Dq,length_eq_one_iff->Hk,set_append_right->Ht,drop_eq_nil_iff->Kk,getElem?_of_mem->Kl,getLast?_concat->Km,mem_append_left->Kn,flatMap_append->Mu,lookup_append->Pz
open Bool renaming and_eq_true->aE,false_ne_true->cH,not_eq_true'->eX,noConfusion->fF,false_eq_true->fR,or_eq_true->gQ,eq_false_iff->iD,and_true->lE,eq_iff_iff->mB,and_eq_true_iff->Kj,not_eq_false'->Px
open PySem renaming wpAny_bind->aF,Addr->aQ,sizeLine->aU,Shared->aV,wpAny_pure->aZ,wpAny->bJ,starEach->bO,model->cC,boot_len->cE,Program->dF,mem_of_lookup->dQ,wpAny_newObj_type->eO,World->eW,wpAny_mono->fZ,Heap->gF,Paired->hU,eval->hX,wpAny_Call_Name_kw->hZ,cellsFrom->iF,wpAny_holding->iN,wpAny_seqItems->iO,wpAny_tryCatch->iP,backTo->jH,mainGlobals->jU,wpAny_field->jV,Around->jW,wpAny_callSpecial?_slot->lC,NameKind->nG,wpAny_truthy_bool->nH,plainId_quiet->nP,sysModules->pF,wpAny_pyIter_tuple->pG,codeAny_builtin->pU,wpAny_passesOwn->pV,wpAny_updateSeq->pW,compareOp->qI,compEnvC->rJ,wpAny_letGo->rK,wpAny_call_entry->sL,FuncData->tU,wpAny_execs_nil->tV,keywordEach->uV,bootBuiltins->vS,codeAny->vT,Stmt->wS,swapsWith->wT,wpAny_execs_cons->wU,sliceBounds->xO,PyData->yR,Scope->zI,codeAny_mono->zL,pushCells->AJ,seqItems?->AK,intItems->AQ,wpAny_setField_rec->AR,argBest->CZ,foldedSetIterable->DA,getItem->DB,argsOk->DF,attributeBase->DG,behindInMarks->DH,pyNext->DI,backToKw->GH,binaryOp->GI,holding->IG,letOwnedTupleGo->JP,numAt->JQ,pushCells_keeps->JR,IsPart->MX,Builtin->OB,getMethod->OC,assignEach->RO,wpAny_call->RP,BindsTo->WK,bindArgs->WO,callWith->WP,wpAny_Assign_Name->WQ,wpAny_pyIter_list->WR,DictEntry->Al,noFill_tuple_add->Ao,rawInt->Ap,tupleKind->Aq,updateSeq->Ar,wpAny_pyIter_zip->As,IsRangeIter->Dd,subscripted->Di,wpAny_of_eq->Dj,Within->Du,notedBy->Hr,atKey->Hy,call_meets->Hz,newTuple->Ia,wpAny_rule->Ib,wpAny_setField->Ic,seq_tuple_add->Nd,IsZip->Qh,bindC->Qi,bindL->Qj,cLine->Qk,setFlight->Ql
open PySem.Heap renaming get?_push_of_some->aG,get?_push_size->bQ,lt_size->bY,size_push->cF,get?_update_other->eA,get?_update_self->jO,SameBut->xK,IsTuple->CY,FlyingW->Hn,get?_none_of_le->Kt,HeldW->Qg
open Option renaming map_eq_some_iff->aO,bind_eq_some_iff->bF,bind_some->jN,map_some->kI,map_map->nE,getD_none->OA,isSome_iff_exists->XU,isSome_some->Kp
open Nat renaming le_refl->aR,zero_le->aY,le_trans->bI,lt_of_lt_of_le->bZ,ne_of_lt->eK,lt_irrefl->eZ,lt_of_le_of_lt->gS,lt_succ_self->lI,sub_self->mO,max_zero->qS,le_of_succ_le_succ->tY,le_succ->wB,strongRecOn->wQ,toDigits->xM,le_of_succ_le->AI,ne_of_gt->DC,min_eq_left->FD,le_of_eq->QB,lt_succ_of_lt->QC,add_eq_right->RL,le_add_right->RM,mod_lt->Ak,add_assoc->Dr,digitChar->Ds,toDigits_of_lt_base->Hl,le_of_lt->Hu,min_self->Hv,sub_zero->Hw,le_of_ble_eq_true->Ko,add_le_add_left->Qa
open PySem.F renaming plainAttrs_list->bG,slot_list_append->bR,type_list_append->bS,plain_min_loop->fP,plain_max_loop->iX,slot_list_extend->kF,type_list_extend->mE,slot_tuple_iterator_next->qT,entry_min_loop->sS,plainAttrs_str->sW,args_tuple_add_2->yN,slot_str_isdigit->yO,type_str_isdigit->yP,entry_tuple_add->zJ,entry_max_loop->AL,slot_tuple_add->AM,slot_zip_next->GP,slot_list_pop->IC,slot_tuple_index->WM,args_tuple_iterator_next_1->Am,entry_tuple_iterator_next->Db,type_list_pop->Dc,entry_min->Kr,plain_min->Ks,kind_min->Mx
open Or renaming inl->bP
open Vatwva renaming Text->bW,readFrom->gG,WIDE->mP,isNumber->vZ,ENTRIES->OD,digitsFrom->RQ,cutAt->WS
open Vatwvc renaming diff->cD,apply->dP,toldText->eR,does->fB,given->fD,Edit->gH,under->gX,isLoose->iG,Found->iR,wordOff->lH,step->nQ,diffFrom->rL,editsOfPlan->rM,nextRow->sM,howFar->uZ,Out->xL,Call->yS,isLooseRow->yT,cost->FH,better->IH,doRedo->II,doUndo->IJ,State->QU,one->WF,lastRow->WT,plan->WU,toldTexts->Qm
open PySem.Value renaming ref->cO,none->sK,type->xN,int->AN,str->QD,float->Hx,bool->Na
open Option.some renaming inj->cP,injEq->lJ
open PySem.PyData renaming eqvAll->dD,canLayAll0->fJ,depthAll->gM,eqv->kJ,canLay0->tR,depth->CH
open List.cons renaming injEq->dE,inj->iU
open PyVatwvc renaming shape->dI,whole->pC,answers->tW,answers_asked->XV
open VatwvcNeutral renaming text?->eM,step->iB,natural->kN,asked1->oC,callOf->zM,encode->zN,start->WG
open False renaming elim->eN
open PyProof.Rows renaming callWith_type1->fW,slot_tuple_getitem->lK,boot_ord->rH,envOfC->tZ,AllBare->IB,boot_str->WJ,subscriptTail->Mw,Call_->Qb,IsTup->Qc
open PySem.Builtin.Builtins renaming bindParams->iA
open UInt8 renaming toNat->iC,toNat_inj->lZ,ofNat->sP,le_iff_toNat_le->DJ
open ToString renaming toString->iQ
open Array renaming length_toList->jF,toList->MV,append_assoc->Ms
open PySem.Around renaming under_plainId->kC,under->Da
open PySem.Str renaming ofString->kD,join->Mz
open PyFlat renaming rows->kZ,calls->lY,told->yM,played->zH,call->FE
open PySem.Builtin.SmallTypes renaming nextOf->nN,newClass->DD,iterAll->FF
open True renaming intro->oP
open PySem.Builtin.Slice renaming slicePlaces->oZ,sliceAdjust->vR,sliceApplied->JU
open PySem.Builtin.Tuple renaming tupleExact->pE,tupleItemsOf->JV
open ForInStep renaming yield->qR
open PySem.Value.type renaming inj->rY
open PySem.Calls renaming callWith_builtin->tT,evalArgs_plain->GF,spliced_cons->JW,Name_function_global->WL,spliced_nil->Qe
open PySem.NameKind renaming free->uA,cell->WE
open Ne renaming symm->uU
open MonadExcept renaming tryCatch->vQ
open PySem.Heap.IsTuple renaming push->wC
open PySem.Builtin.List renaming listTooLong->wL
open PySem.Builtin.Range renaming rangeSize->wR
open PySem.Obj renaming data_mapFields->yQ,mapFields->Dt,isFreed_of_fields->Ku
open PySem.Heap.SameBut renaming update->CG
open PySem.Unicode renaming isDigit->CI
open PySem.Shared renaming heap->FG
open Prod.mk renaming injEq->GO
open PySem.Paired renaming length->ID
open PySem.Txt renaming isdigit->IE
open Sum renaming inr->JS,inl->QH
open PySem.Walks renaming list->KA
open Iff renaming rfl->PZ
open Int renaming toNat_natCast->QA,natCast_add->WI,negSucc->Mt
open ForIn renaming forIn->WH
open PySem.SeqAt renaming EqAt->WN
open Char renaming toNat->XR
open PySem.SeqAt.EqAt renaming int_str->Df,str_int->Dg
open Function renaming comp_apply->Do
open Sum.inl renaming inj->Dv
open PySem.Code renaming isFrame->Hm
open PySem.Data renaming seq->Kq
open Int.ofNat renaming inj->Py
section
namespace ZN
open PySem PyProof.Rows
abbrev Tu (h:gF) (a:aQ) (ys:List Value):Prop:=h.get? a=some {cls:=.type "tuple",data:=.seq ys.toArray}
noncomputable abbrev eG (ps:List (aQ×aQ)):List aQ:=ps.map (·.1)
structure Ky (z TI TO:aQ) (ps:List (aQ×aQ)):Prop where
 nd:(z::TI::TO::eG ps).Nodup
 no:∀p∈ps,p.2∉z::TO::eG ps
structure Ok (h:gF) (z TI TO:aQ) (ps:List (aQ×aQ)) (i:Nat):Prop where
 zip:Qh h z TI TO .none
 ti:Tu h TI (ps.map fun p=>cO p.1)
 to:∃ys:List Value,ys.length=ps.length/\Tu h TO ys
 it:∀p∈ps,h.IsTupleIter p.1 p.2 i
section
variable {prog:dF} {w:eW} {A:jW} {E:Value->aV->Prop} {s:aV}
theorem We (I:s.heap.IsTupleIter it l i) (L:s.heap.IsTuple l xs) (e:xs[i]?=some x)
  (q:∀h',h'.IsTupleIter it l (i+1)->xK it s.heap h'->Q x {s with heap:=h'}):bJ (cC prog w) A (nN (.ref it)) Q E s:=by
 obtain⟨u,hu,uc,ud⟩:=id I;obtain⟨t,ht,_,n,td⟩:=L;have ty:=I.typeIs;refine aF (lC (name:=kD "__next__") ty qT (sL qT ty Db ?_ (Am _)));show bJ _ _ (field (.ref it) 0 >>= _) _ _ s;refine aF (jV hu ud (x:=.ref l) rfl ?_);show bJ _ _ (ite ((cO l == sK)=true) _ _) _ _ s;rw[if_neg (by intro q;cases q)];show bJ _ _ (field (.ref it) 1 >>= _) _ _ s;refine aF (jV hu ud (x:=.int i 0) rfl (aF (iO ht td ?_)));simp only[QA,e];refine aF (Ic hu ud (by simp) (aZ ⟨x,rfl,aZ (q _ ⟨_,jO _ hu (Ku (yQ ud _)),(Obj.cls_mapFields ..).trans uc,?_⟩ (CG ..))⟩));rw[yQ ud];simp[Ap]
theorem Yn (hh:A.handled=none) (I:s.heap.IsTupleIter it l i) (L:s.heap.IsTuple l xs) (e:xs[i]?=none)
  (q:∀h' x,Heap.ExtBut it s.heap h'->(∃o,h'.get? x=some o/\o.cls=.type "StopIteration")->E (.ref x) {s with heap:=h'}):bJ (cC prog w) A (nN (.ref it)) Q E s:=by
 obtain⟨u,hu,uc,ud⟩:=id I;obtain⟨t,ht,_,n,td⟩:=L;have ty:=I.typeIs;refine aF (lC (name:=kD "__next__") ty qT (sL qT ty Db ?_ (Am _)));show bJ _ _ (field (.ref it) 0 >>= _) _ _ s;refine aF (jV hu ud (x:=.ref l) rfl ?_);show bJ _ _ (ite ((cO l == sK)=true) _ _) _ _ s;rw[if_neg (by intro q;cases q)];show bJ _ _ (field (.ref it) 1 >>= _) _ _ s;refine aF (jV hu ud (x:=.int i 0) rfl (aF (iO ht td ?_)));simp only[QA,e];refine aF (Ib (aF (Ic hu ud (by simp) (aF (m:=newExc (.type "StopIteration") []) ?_))));simp only[newExc,Ia];refine aF (eO (aF (m:=firstArgMember _ _) (Dj (a:=sK) (by first | rfl | (simp only[firstArgMember];rfl)) (eO ?_ (by size_fits)))) (by size_fits));simp only[raiseNew];refine aF (wpAny_handled ?_);first | rw[show A.in1.handled=none from hh] | rw[hh]
 exact aF (aZ (wpAny_throw (q _ _ (((CG ..).extBut.push _).push _) ⟨_,bQ _ rfl,rfl⟩)))
theorem Om {α β:Type} {M:Model} {f:α×Nat->β->Sem (ForInStep β)} {b:β} {Q:β->aV->Prop} (J:Nat->aV->Prop):∀(l:List α) (k:Nat) (s:aV),J k s->
  (∀j x s,l[j]?=some x->J (k+j) s->bJ M A (f (x,k+j) b) (fun r s'=>r=.yield b/\J (k+j+1) s') E s)->(∀s',J (k+l.length) s'->Q b s')->bJ M A (WH (l.zipIdx k) b f) Q E s
 | [],k,s,h,_,q=>by rw[List.zipIdx_nil,GL];exact aZ (q s h)
 | x::l,k,s,h,st,q=>by
  rw[List.zipIdx_cons,mD];refine aF (fZ (st 0 x s rfl h) (fun r s' ⟨e,h'⟩=>?_) fun _ _ z=>z);subst e;have e0:k+(l.length+1)=k+1+l.length:=by lia
  refine Om J l (k+1) s' h' (fun j y s2 hy hj=>?_) (fun s2 h2=>q s2 (by rw[aK,e0];exact h2));have e:k+1+j=k+(j+1):=by lia
  rw[e]at hj ⊢;exact st (j+1) y s2 hy hj
theorem Yo (h:Tu s.heap T ys) (hl:ys.length<=100) (q:∀h',Tu h' T (ys.set k x)->xK T s.heap h'->Q () {s with heap:=h'}):
  bJ (cC prog w) A (Ar T (·.setIfInBounds k x)) Q E s:=by
 have hs:ys.toArray.size<=aU:=by rw[bN];exact bI hl (by decide)
 refine pW h rfl (q _ ?_ (CG ..)) (hz:=hs) (_hz':=by rw[Array.size_setIfInBounds];exact Nat.le_succ_of_le hs);show Heap.get? _ _=_;rw[jO _ h rfl];simp[Obj.mapSeq]
noncomputable def Lr (xs:aQ->Array Value) (i:Nat) (p:aQ×aQ):Value:=((xs p.2)[i]?).getD .none
structure L7 (h0:gF) (z TI TO:aQ) (ps:List (aQ×aQ)) (xs:aQ->Array Value) (i k:Nat) (ys:List Value) (h:gF):Prop where
 zip:Qh h z TI TO .ellipsis
 to:Tu h TO ((ps.take k).map (Lr xs i)++ys.drop k)
 it:∀m p,ps[m]?=some p->h.IsTupleIter p.1 p.2 (if m < k then i+1 else i)
 sz:h.objs.size=h0.objs.size
 kept:∀c o,c∉z::TO::eG ps->h0.get? c=some o->h.get? c=some o
theorem B3 {ps:List (aQ×aQ)} (h:(eG ps).Nodup) {m n:Nat} {p q:aQ×aQ} (hp:ps[m]?=some p) (hq:ps[n]?=some q) (hne:m≠n):p.1≠q.1:=by
 intro e;obtain⟨hm,rfl⟩:=aT.mp hp;obtain⟨hn,rfl⟩:=aT.mp hq;have pw:=List.pairwise_iff_getElem.mp h;rcases Nat.lt_or_gt_of_ne hne with c | c
 ·exact pw m n (by rw[aJ];exact hm) (by rw[aJ];exact hn) c (by simpa using e)
 ·exact pw n m (by rw[aJ];exact hn) (by rw[aJ];exact hm) c (by simpa using e.symm)
theorem next {z TI TO:aQ} {ps:List (aQ×aQ)} {i:Nat} {xs:aQ->Array Value} {Q:Value->aV->Prop} (hh:A.handled=none) (D:Ky z TI TO ps) (Z:Ok s.heap z TI TO ps i) (hl:ps.length<=100) (hne:ps≠[])
  (L:∀p∈ps,s.heap.IsTuple p.2 (xs p.2))
  (hQ:(∀p∈ps,∃x,(xs p.2)[i]?=some x)->∀h',Qh h' z TI TO (Ap s.heap.objs.size)->Tu h' TO (ps.map (Lr xs i))->(∀p∈ps,h'.IsTupleIter p.1 p.2 (i+1))->Tu h' s.heap.objs.size (ps.map (Lr xs i))->h'.objs.size=s.heap.objs.size+1->(∀c o,c∉z::TO::eG ps->s.heap.get? c=some o->h'.get? c=some o)->Q (.ref s.heap.objs.size) {s with heap:=h'})
  (hE:(∃p∈ps,(xs p.2)[i]?=none)->∀h' e,(∀c o,c∉z::TO::eG ps->s.heap.get? c=some o->h'.get? c=some o)->(∃o,h'.get? e=some o/\o.cls=.type "StopIteration")->E (.ref e) {s with heap:=h'}):
  bJ (cC prog w) A (OB.«zip.__next__» ⟨[.ref z],[]⟩) (fun fin s'=>∃v,fin=.done (.ret v)/\Q v s') E s:=by
 obtain⟨ys,yl,hTO⟩:=Z.to;have nd:=D.nd;rw[dZ,dZ,dZ]at nd;obtain⟨n1,n2,n3,n4⟩:=nd;have TOz:TO≠z:=fun e=>n1 (by rw[<-e];simp);have TIz:TI≠z:=fun e=>n1 (by rw[<-e];simp);have TITO:TI≠TO:=fun e=>n2 (by rw[e];simp);have itz:∀p∈ps,p.1≠z:=fun p hp e=>n1 (by rw[<-e];simp;exact .inr (.inr ⟨_,hp⟩));have itTO:∀p∈ps,p.1≠TO:=fun p hp e=>n3 (by rw[<-e];simp;exact⟨_,hp⟩);show bJ _ _ (field (.ref z) 2 >>= _) _ _ _;refine aF (jV Z.zip rfl (x:=.bool false) rfl ?_);show bJ _ _ (field (.ref z) 3 >>= _) _ _ _;refine aF (jV Z.zip rfl (x:=.ref TI) rfl (aF (iO Z.ti rfl ?_)));dsimp only;rw[if_neg (by cases ps with | nil=>exact absurd rfl hne | cons p ps=>intro q;cases q)];refine aF ?_;unfold Builtin.SmallTypes.ownedTupleIsFree;refine aF (jV Z.zip rfl (x:=.none) rfl (aZ ?_));simp only[if_true];refine aF (Ib (aF (jV Z.zip rfl (x:=.ref TO) rfl (aF (AR Z.zip (by simp) fun g0 hz0 hs0=>?_)))));replace hz0:Qh g0 z TI TO .ellipsis:=hz0;refine aF (Om (fun k s'=>∃h,s'={s with heap:=h}/\(∀m p,m < k->ps[m]?=some p->∃x,(xs p.2)[i]?=some x)/\L7 s.heap z TI TO ps xs i k ys h) _ 0 _ ⟨g0,rfl,fun m p hm=>absurd hm (by lia),hz0,?_,?_,hs0.1,?_⟩ ?_ ?_)
 ·exact hs0.extBut _ _ TOz hTO
 ·exact fun m p hp=>(Z.it p (bB hp)).extBut hs0.extBut (itz p (bB hp))
 ·exact fun c o hc e=>hs0.extBut _ _ (fun q=>hc (by rw[q];simp)) e
 ·rintro j x s' hj ⟨h,rfl,hall,md⟩;rw[Nat.zero_add]at hall md ⊢;rw[bX]at hj;obtain⟨p,hp,rfl⟩:=aO.mp hj;have pm:=bB hp;have hit:h.IsTupleIter p.1 p.2 i:=by have:=md.it j p hp;rwa [if_neg (eZ _)]at this
  have htu:h.IsTuple p.2 (xs p.2):=by obtain⟨o,ho,c,d⟩:=L p pm;exact⟨o,md.kept _ _ (D.no p pm) ho,c,d⟩
  have hjl:=(aT.mp hp).1;cases hx:(xs p.2)[i]? with
  | none=>
   refine aF (wpAny_onRaise ?_);show bJ _ _ (nN (.ref p.1) >>= _) _ _ _;refine aF (Yn hh hit htu hx fun h2 e hs2 he=>?_);obtain⟨oe,hoe,hce⟩:=he;have hz2:Qh h2 z TI TO .ellipsis:=hs2 _ _ (itz p pm).symm md.zip;have hez:e≠z:=fun q=>by subst q;rw[hz2]at hoe;cases hoe;simp at hce
   refine AR hz2 (by simp) fun h3 _ hs3=>hE ⟨p,pm,hx⟩ h3 e (fun c o hc q=>hs3.extBut _ _ (fun q=>hc (by rw[q];simp)) (hs2 _ _ (fun q=>hc (by rw[q];simp;exact .inr (.inr ⟨_,pm⟩))) (md.kept c o hc q))) ⟨oe,hs3.extBut _ _ hez hoe,hce⟩
  | some y=>
   refine aF (wpAny_onRaise ?_);show bJ _ _ (nN (.ref p.1) >>= _) _ _ _;refine aF (We hit htu hx fun h2 hit2 hs2=>aZ ?_);have hto2:=hs2.extBut _ _ (itTO p pm).symm md.to;refine aF (iO hto2 rfl (aF (Yo hto2 ?_ fun h3 hto3 hs3=>aF (rK (aZ ⟨rfl,h3,rfl,fun m q hm hq=>?_,?_,?_,fun m q hq=>?_,?_,fun c o hc e=>?_⟩)))))
   ·rw[aC,aJ,bK,cX];lia
   ·by_cases e:m=j
    ·subst e;rw[hp]at hq;cases hq;exact⟨y,hx⟩
    ·exact hall m q (by lia) hq
   ·exact hs3.extBut _ _ TOz.symm (hs2.extBut _ _ (itz p pm).symm md.zip)
   ·have e:((ps.take j).map (Lr xs i)++ys.drop j).set j y=(ps.take (j+1)).map (Lr xs i)++ys.drop (j+1):=by
     have l1:((ps.take j).map (Lr xs i)).length=j:=by rw[aJ,bK];lia
     rw[Ht _ _ (by lia),l1,mO,bM (show j < ys.length by lia),List.set_cons_zero,XT,hp];simp[Lr,hx]
    rw[<-e];exact hto3
   ·by_cases e:m=j
    ·subst e;rw[hp]at hq;cases hq;rw[if_pos (by lia)];exact hit2.extBut hs3.extBut (itTO p pm)
    ·have hne':q.1≠p.1:=B3 n4 hq hp e;have:=((md.it m q hq).extBut hs2.extBut hne').extBut hs3.extBut (itTO q (bB hq));have e2:(if m < j+1 then i+1 else i)=(if m < j then i+1 else i):=by
      by_cases hm:m < j
      ·rw[if_pos hm,if_pos (by lia)]
      ·rw[if_neg hm,if_neg (by lia)]
     rw[e2];exact this
   ·rw[hs3.1,hs2.1,md.sz]
   ·exact hs3.extBut _ _ (fun q=>hc (by rw[q];simp)) (hs2.extBut _ _ (fun q=>hc (by rw[q];simp;exact .inr (.inr ⟨_,pm⟩))) (md.kept c o hc e))
 ·rintro s' ⟨h,rfl,hall,md⟩;have e0:0+((ps.map fun p=>cO p.1).toArray.toList).length=ps.length:=by rw[wP,aJ,Nat.zero_add]
  rw[e0]at hall md;have hto:Tu h TO (ps.map (Lr xs i)):=by
   have:=md.to
   rwa [cN,<-yl,jT,cI]at this
  have hall':∀p∈ps,∃x,(xs p.2)[i]?=some x:=fun p hp=>by obtain⟨m,hm⟩:=Kl hp;exact hall m p (aT.mp hm).1 hm
  have zlt:z < h.objs.size:=bY md.zip;refine aF (iO hto rfl (aF (wpAny_newTuple ?_)));rw[wP];refine aF ?_;unfold Builtin.SmallTypes.ownedTupleHandOut;have hz6:Qh (h.push {cls:=.type "tuple",data:=.seq (ps.map (Lr xs i)).toArray}) z TI TO .ellipsis:=aG _ md.zip;refine aF (AR hz6 (by simp) fun h7 hz7 hs7=>?_);replace hz7:Qh h7 z TI TO (Ap h.objs.size):=hz7;refine AR hz7 (by simp) fun h8 hz8 hs8=>?_;replace hz8:Qh h8 z TI TO (Ap h.objs.size):=hz8;have up:∀c o,c≠z->h.get? c=some o->h8.get? c=some o:=fun c o c1 e=>hs8.extBut _ _ c1 (hs7.extBut _ _ c1 (aG _ e));have hT:Tu h8 h.objs.size (ps.map (Lr xs i)):=hs8.extBut _ _ (DC zlt) (hs7.extBut _ _ (DC zlt) (bQ _ rfl));have s8:h8.objs.size=h.objs.size+1:=by rw[hs8.1,hs7.1,cF]
  rw[md.sz]at hz8 hT s8;refine aZ ⟨_,rfl,?_⟩;show Q (.ref h.objs.size) _;rw[md.sz];refine hQ hall' h8 hz8 (up _ _ TOz hto) (fun p hp=>?_) hT s8 fun c o hc e=>up c o (fun q=>hc (by rw[q];simp)) (md.kept c o hc e);obtain⟨m,hm⟩:=Kl hp;have:=md.it m p hm;rw[if_pos (aT.mp hm).1]at this;obtain⟨o,ho,r⟩:=this;exact⟨o,up _ _ (itz p hp) ho,r⟩
end
section
variable {prog:dF} {w:eW} {A:jW} {E:Value->aV->Prop} {s:aV}
theorem Zi (a b c d:Value):DF "object.__init__" ⟨[a,b,c,d],[]⟩:=by unfold DF;rw[signature?_of (id:="object.__init__") (n:=['_','_','t','i','n','i','_','_']) (o:=['t','c','e','j','b','o']) (by kernel_rfl) F.owner_object];kernel_rfl
theorem Yl (a b c:Value):checkTypeCall "zip" ⟨[a,b,c],[]⟩=pure ():=by kernel_rfl
theorem Xw (a b c:Value):checkBuiltinCall "zip.__new__" ⟨[.type "zip",a,b,c],[]⟩=pure ():=by kernel_rfl
noncomputable abbrev NH (l:aQ):Obj:={cls:=.type "tuple_iterator",data:=.fields #[.ref l,.int 0 0]}
noncomputable abbrev Yy (ys:List Value):Obj:={cls:=.type "tuple",data:=.seq ys.toArray}
noncomputable abbrev L4 (TI TO:aQ):Obj:={cls:=.type "zip",data:=.fields #[.none,.bool false,.bool false,.ref TI,.ref TO]}
noncomputable abbrev A9 (h:gF) (l1 l2:aQ):gF:=((((h.push (NH l1)).push (NH l2)).push (Yy [.ref h.objs.size,.ref (h.push (NH l1)).objs.size])).push (Yy [.none,.none]))
noncomputable abbrev B0 (h:gF) (l1 l2 l3:aQ):gF:=(((((h.push (NH l1)).push (NH l2)).push (NH l3)).push (Yy [.ref h.objs.size,.ref (h.push (NH l1)).objs.size,.ref ((h.push (NH l1)).push (NH l2)).objs.size])).push (Yy [.none,.none,.none]))
theorem nc (rest:List Value):DD "zip" ⟨.type "zip"::rest,[]⟩=pure (.type "zip",rest):=by unfold DD;have e:isType (.type "zip")=pure true:=rfl;show(isType (.type "zip") >>= _)=_;rw[e];show(isSubtype (.type "zip") (.type "zip") >>= _)=_;rw[sub_zip];rfl
theorem G4 (l1 l2:aQ) (xs ys:Array Value):Meets (OB.«zip.__new__» ⟨[.type "zip",.ref l1,.ref l2],[]⟩) (fun _ R s=>s.heap.IsTuple l1 xs/\s.heap.IsTuple l2 ys/\R (.ok (.ret (.ref (A9 s.heap l1 l2).objs.size))) {s with heap:=(A9 s.heap l1 l2).push (L4 ((s.heap.push (NH l1)).push (NH l2)).objs.size (((s.heap.push (NH l1)).push (NH l2)).push (Yy [.ref s.heap.objs.size,.ref (s.heap.push (NH l1)).objs.size])).objs.size)}):=.of_wp fun prog w A R s h=>by obtain⟨hp,g,d,tk,os⟩:=s;obtain⟨a1,a2,h⟩:=h;have b1:CY (FG ⟨hp,g,d,tk,os⟩) l1 xs:=a1;have b2:CY (FG ⟨hp.push (NH l1),g,d,tk,os⟩) l2 ys:=wC a2 _;unfold OB.«zip.__new__»;rw[nc];refine aF (aZ ?_);show bJ _ _ (FF [.ref l1,.ref l2] >>= fun eG=>Ia eG >>= fun x=>Ia (eG.map fun _=>.none) >>= fun y=>newObj (.type "zip") (.fields #[.none,.bool false,.bool false,x,y]) >>= ret) _ _ _;refine aF ?_;show bJ _ _ (WH [cO l1,.ref l2] #[] _ >>= _) _ _ _;refine aF ?_;rw[mD];refine aF (aF (iN (pG b1 (aZ ?_))));show bJ _ _ (WH [cO l2] _ _) _ _ _;rw[mD];refine aF (aF (iN (pG b2 (aZ ?_))));exact aZ (aZ (aF (eO (aF (eO (aF (eO (aZ ⟨_,rfl,h⟩) (show 5<=aU+2 by decide))) (show 2<=aU by decide))) (show 2<=aU by decide))))
theorem G5 (l1 l2 l3:aQ) (xs ys zs:Array Value):Meets (OB.«zip.__new__» ⟨[.type "zip",.ref l1,.ref l2,.ref l3],[]⟩) (fun _ R s=>s.heap.IsTuple l1 xs/\s.heap.IsTuple l2 ys/\s.heap.IsTuple l3 zs/\R (.ok (.ret (.ref (B0 s.heap l1 l2 l3).objs.size))) {s with heap:=(B0 s.heap l1 l2 l3).push (L4 (((s.heap.push (NH l1)).push (NH l2)).push (NH l3)).objs.size ((((s.heap.push (NH l1)).push (NH l2)).push (NH l3)).push (Yy [.ref s.heap.objs.size,.ref (s.heap.push (NH l1)).objs.size,.ref ((s.heap.push (NH l1)).push (NH l2)).objs.size])).objs.size)}):=.of_wp fun prog w A R s h=>by obtain⟨hp,g,d,tk,os⟩:=s;obtain⟨a1,a2,a3,h⟩:=h;have b1:CY (FG ⟨hp,g,d,tk,os⟩) l1 xs:=a1;have b2:CY (FG ⟨hp.push (NH l1),g,d,tk,os⟩) l2 ys:=wC a2 _;have b3:CY (FG ⟨(hp.push (NH l1)).push (NH l2),g,d,tk,os⟩) l3 zs:=wC (wC a3 _) _;unfold OB.«zip.__new__»;rw[nc];refine aF (aZ ?_);show bJ _ _ (FF [.ref l1,.ref l2,.ref l3] >>= fun eG=>Ia eG >>= fun x=>Ia (eG.map fun _=>.none) >>= fun y=>newObj (.type "zip") (.fields #[.none,.bool false,.bool false,x,y]) >>= ret) _ _ _;refine aF ?_;show bJ _ _ (WH [cO l1,.ref l2,.ref l3] #[] _ >>= _) _ _ _;refine aF ?_;rw[mD];refine aF (aF (iN (pG b1 (aZ ?_))));show bJ _ _ (WH [cO l2,.ref l3] _ _) _ _ _;rw[mD];refine aF (aF (iN (pG b2 (aZ ?_))));show bJ _ _ (WH [cO l3] _ _) _ _ _;rw[mD];refine aF (aF (iN (pG b3 (aZ ?_))));exact aZ (aZ (aF (eO (aF (eO (aF (eO (aZ ⟨_,rfl,h⟩) (show 5<=aU+2 by decide))) (show 3<=aU by decide))) (show 3<=aU by decide))))
end
section
variable {prog:dF} {w:eW} {A:jW} {E:Value->aV->Prop} {s:aV}
theorem gp {h:gF} {o:Obj} {n:Nat} (e:n=h.objs.size) (f:o.isFreed=false):(h.push o).get? n=some o:=by subst e;exact bQ _ f
theorem G2 (h:c∈(I+4)::(I+2)::(I+3)::eG [(I,l1),(I+1,l2)]):I<=c:=by simp[eG]at h;lia
theorem G3 (h:c∈(I+5)::(I+3)::(I+4)::eG [(I,l1),(I+1,l2),(I+2,l3)]):I<=c:=by simp[eG]at h;lia
theorem Ff (h:c∈z::TO::l):c∈z::TI::TO::l:=by
 simp only[aS]at h ⊢;rcases h with h | h | h
 ·exact .inl h
 ·exact .inr (.inr (.inl h))
 ·exact .inr (.inr (.inr h))
theorem Xe (I l1 l2:Nat) (h1:l1 < I) (h2:l2 < I):Ky (I+4) (I+2) (I+3) [(I,l1),(I+1,l2)]:=by
 refine⟨by simp[eG],fun p hp hm=>?_⟩;have:=G2 (Ff (TI:=I+2) hm);rcases aS.mp hp with rfl | hp
 ·exact eZ _ (bZ h1 this)
 ·obtain rfl:=bU.mp hp;exact eZ _ (bZ h2 this)
theorem Xf (I l1 l2 l3:Nat) (h1:l1 < I) (h2:l2 < I) (h3:l3 < I):Ky (I+5) (I+3) (I+4) [(I,l1),(I+1,l2),(I+2,l3)]:=by
 refine⟨by simp[eG],fun p hp hm=>?_⟩;have:=G3 (Ff (TI:=I+3) hm);rcases aS.mp hp with rfl | hp
 ·exact eZ _ (bZ h1 this)
 ·rcases aS.mp hp with rfl | hp
  ·exact eZ _ (bZ h2 this)
  ·obtain rfl:=bU.mp hp;exact eZ _ (bZ h3 this)
theorem Zm {l1 l2:aQ} {xs ys:Array Value} {Q:Value->aV->Prop} (a1:s.heap.IsTuple l1 xs) (a2:s.heap.IsTuple l2 ys)
  (h:∀h',Ok h' (s.heap.objs.size+4) (s.heap.objs.size+2) (s.heap.objs.size+3) [(s.heap.objs.size,l1),(s.heap.objs.size+1,l2)] 0->(∀c o,s.heap.get? c=some o->h'.get? c=some o)->Q (.ref (s.heap.objs.size+4)) {s with heap:=h'}):
  bJ (cC prog w) A (call (.type "zip") [.ref l1,.ref l2]) Q E s:=by
 refine callType_new F.called_zip (by decide) (F.typeCall_zip_2 _ _) (F.newCall_zip_2 _ _) (fun obj=>F.args_object_init_3 obj _ _) F.entry_zip_new (G4 l1 l2 xs ys) ⟨a1,a2,?_⟩;simp only[cF];refine⟨?_,h _ ⟨?_,?_,⟨[.none,.none],rfl,?_⟩,fun p hp=>?_⟩ fun c o e=>?_⟩
 ·exact⟨_,gp (by simp only[cF]) rfl,rfl⟩
 ·exact gp (by simp only[cF]) rfl
 ·refine aG _ (aG _ ?_);simp only[cF,aP,CV];exact gp (by simp only[cF]) rfl
 ·exact aG _ (gp (by simp only[cF]) rfl)
 ·rcases aS.mp hp with rfl | hp
  ·exact⟨_,aG _ (aG _ (aG _ (aG _ (gp rfl rfl)))),rfl,rfl⟩
  ·obtain rfl:=bU.mp hp;exact⟨_,aG _ (aG _ (aG _ (gp (by simp only[cF]) rfl))),rfl,rfl⟩
 ·exact aG _ (aG _ (aG _ (aG _ (aG _ e))))
theorem Zn {l1 l2 l3:aQ} {xs ys zs:Array Value} {Q:Value->aV->Prop} (a1:s.heap.IsTuple l1 xs) (a2:s.heap.IsTuple l2 ys) (a3:s.heap.IsTuple l3 zs)
  (h:∀h',Ok h' (s.heap.objs.size+5) (s.heap.objs.size+3) (s.heap.objs.size+4) [(s.heap.objs.size,l1),(s.heap.objs.size+1,l2),(s.heap.objs.size+2,l3)] 0->(∀c o,s.heap.get? c=some o->h'.get? c=some o)->Q (.ref (s.heap.objs.size+5)) {s with heap:=h'}):
  bJ (cC prog w) A (call (.type "zip") [.ref l1,.ref l2,.ref l3]) Q E s:=by
 refine callType_new F.called_zip (by decide) (Yl _ _ _) (Xw _ _ _) (fun obj=>Zi obj _ _ _) F.entry_zip_new (G5 l1 l2 l3 xs ys zs) ⟨a1,a2,a3,?_⟩;simp only[cF];refine⟨?_,h _ ⟨?_,?_,⟨[.none,.none,.none],rfl,?_⟩,fun p hp=>?_⟩ fun c o e=>?_⟩
 ·exact⟨_,gp (by simp only[cF]) rfl,rfl⟩
 ·exact gp (by simp only[cF]) rfl
 ·refine aG _ (aG _ ?_);simp only[cF,aP,CV];exact gp (by simp only[cF]) rfl
 ·exact aG _ (gp (by simp only[cF]) rfl)
 ·rcases aS.mp hp with rfl | hp
  ·exact⟨_,aG _ (aG _ (aG _ (aG _ (aG _ (gp rfl rfl))))),rfl,rfl⟩
  ·rcases aS.mp hp with rfl | hp
   ·exact⟨_,aG _ (aG _ (aG _ (aG _ (gp (by simp only[cF]) rfl)))),rfl,rfl⟩
   ·obtain rfl:=bU.mp hp;exact⟨_,aG _ (aG _ (aG _ (gp (by simp only[cF]) rfl))),rfl,rfl⟩
 ·exact aG _ (aG _ (aG _ (aG _ (aG _ (aG _ e)))))
end
noncomputable def cont (h:gF) (a:aQ):Array Value:=match h.get? a with
 | some o=>(match o.data with | .seq xs _=>xs | _=>#[])
 | none=>#[]
theorem Bb (t:h.IsTuple a xs):cont h a=xs:=by obtain⟨o,ho,_,n,d⟩:=t;unfold cont;rw[ho];dsimp only;rw[d]
end ZN
end
section
namespace L2
open PySem PySem.Spec PyProof.Rows
open PySem.W (Frag)
noncomputable abbrev CS:=Sum Int Str
noncomputable def TN:CS->Value->Bool
 | .inl k,v=>Value.isInt k v
 | .inr x,v=>Value.isStrOf x v
noncomputable def A7 (w:eW):CS->Int
 | .inl k=>hashInt k
 | .inr x=>hashStr w x
theorem lT:∀{k:CS} {v:Value},TN k v=true->(∃i t,k=QH i/\v=AN i t)\/(∃x t,k=JS x/\v=QD x t)
 | .inl i,v,h=>by obtain⟨t,e⟩:=Value.isInt_shape (k:=i) (v:=v) h;exact .inl ⟨i,t,rfl,e⟩
 | .inr x,v,h=>by obtain⟨t,e⟩:=Value.isStrOf_shape (x:=x) (v:=v) h;exact .inr ⟨x,t,rfl,e⟩
theorem YT (i:Int) (t:Tok):TN (.inl i) (.int i t)=true:=by simp[TN,Value.isInt]
theorem FS (x:Str) (t:Tok):TN (.inr x) (.str x t)=true:=by simp[TN,Value.isStrOf]
theorem Xo (a b:Int):decide ((QH a:CS)=QH b)=(a == b):=by
 by_cases e:a=b
 ·subst e;simp
 ·have h:¬(QH a:CS)=QH b:=fun q=>e (Dv q);rw[decide_eq_false h];exact(beq_eq_false_iff_ne.mpr e).symm
theorem Xr (a b:Str):decide ((JS a:CS)=JS b)=decide (a=b):=by
 by_cases e:a=b
 ·subst e;simp
 ·have h:¬(JS a:CS)=JS b:=fun q=>e (Sum.inr.inj q);rw[decide_eq_false h,decide_eq_false e]
theorem Xp (a:Int) (b:Str):decide ((QH a:CS)=JS b)=false:=decide_eq_false (fun q=>nomatch q)
theorem Xq (a:Str) (b:Int):decide ((JS a:CS)=QH b)=false:=decide_eq_false (fun q=>nomatch q)
noncomputable def lW (prog:dF) (w:eW):PySem.KeyKind prog w CS where
 is:=TN
 hash:=A7 w
 inj:=fun v a b ha hb=>by
  rcases lT ha with⟨i,t,rfl,rfl⟩ | ⟨x,t,rfl,rfl⟩
  ·rcases lT hb with⟨j,u,rfl,e⟩ | ⟨y,u,rfl,e⟩
   ·injection e with e1 _;rw[e1]
   ·exact nomatch e
  ·rcases lT hb with⟨j,u,rfl,e⟩ | ⟨y,u,rfl,e⟩
   ·exact nomatch e
   ·injection e with e1 _;rw[e1]
 byValue:=fun k v h=>by rcases lT h with⟨i,t,rfl,rfl⟩ | ⟨x,t,rfl,rfl⟩<;>rfl
 pyHash:=fun hv h=>by
  rcases lT hv with⟨i,t,rfl,rfl⟩ | ⟨x,t,rfl,rfl⟩
  ·exact wpAny_pyHash_int h
  ·exact wpAny_pyHash_str h
 eqBool:=fun hu hv h=>by
  rcases lT hu with⟨i,t,rfl,rfl⟩ | ⟨x,t,rfl,rfl⟩
  ·rcases lT hv with⟨j,u,rfl,rfl⟩ | ⟨y,u,rfl,rfl⟩
   ·rw[Xo]at h;exact wpAny_eqBool_int h
   ·rw[Xp]at h;exact Df i t y u _ _ _ _ h
  ·rcases lT hv with⟨j,u,rfl,rfl⟩ | ⟨y,u,rfl,rfl⟩
   ·rw[Xq]at h;exact Dg x t j u _ _ _ _ h
   ·rw[Xr]at h;exact wpAny_eqBool_str h
 «strs»:=fun k x t v h=>by
  rcases lT h with⟨i,u,rfl,e⟩ | ⟨y,u,rfl,e⟩
  ·exact nomatch e
  ·injection e with e1 _;subst e1;cases v<;>rfl
theorem Fg (prog:dF) (w:eW) (i:Int) (t:Tok):(lW prog w).is (.inl i) (.int i t)=true:=YT i t
theorem Fh (prog:dF) (w:eW) (x:Str) (t:Tok):(lW prog w).is (.inr x) (.str x t)=true:=FS x t
inductive V where
 | non | bl (b:Bool) | int (i:Int) | str (x:Str) | byt (b:Array UInt8) | flt (b:UInt64) | ref (a:aQ) | ty (n:String)
 deriving DecidableEq
noncomputable def gN:V->Value->Prop
 | .non,u=>u=sK
 | .bl b,u=>u=Na b
 | .int i,u=>∃t,u=AN i t
 | .str x,u=>∃t,u=QD x t
 | .byt b,u=>∃t,u=Value.bytes b t
 | .flt b,u=>∃t,u=Hx b t
 | .ref a,u=>u=cO a
 | .ty n,u=>u=xN n
noncomputable abbrev gB:List V->List Value->Prop:=hU gN
theorem gB.length (r:gB xs us):xs.length=us.length:=ID r
theorem gB.get:∀{xs:List V} {us:List Value} {i:Nat} {x:V},gB xs us->xs[i]?=some x->∃u,us[i]?=some u/\gN x u
 | _,_,_,_,.nil,e=>by simp at e
 | _,_,0,_,.cons r _,e=>by simp at e;subst e;exact⟨_,rfl,r⟩
 | _,_,i+1,x,.cons _ t,e=>by obtain⟨u,h1,h2⟩:=gB.get (i:=i) (x:=x) t (by simpa using e);exact⟨u,by simpa using h1,h2⟩
theorem gB.append:∀{xs ys:List V} {us ws:List Value},gB xs us->gB ys ws->gB (xs++ys) (us++ws)
 | _,_,_,_,.nil,s=>s
 | _,_,_,_,.cons r t,s=>.cons r (gB.append t s)
theorem gB.take:∀{xs:List V} {us:List Value} (n:Nat),gB xs us->gB (xs.take n) (us.take n)
 | _,_,0,_=>.nil
 | _,_,_+1,.nil=>.nil
 | _,_,n+1,.cons r t=>.cons r (gB.take n t)
theorem gB.drop:∀{xs:List V} {us:List Value} (n:Nat),gB xs us->gB (xs.drop n) (us.drop n)
 | _,_,0,r=>r
 | _,_,_+1,.nil=>.nil
 | _,_,n+1,.cons _ t=>gB.drop n t
noncomputable def DO:Option V->Option Value->Prop
 | some v,some u=>gN v u
 | none,none=>True
 | _,_=>False
noncomputable def KV {κ:Type}:List (κ×V)->List (κ×Value)->Prop:=hU fun(p:κ×V) (q:κ×Value)=>p.1=q.1/\gN p.2 q.2
noncomputable def kV:CS->V
 | .inl i=>.int i
 | .inr x=>.str x
inductive HO where
 /-- a list -/
 | lst (xs:List V)
 /-- a tuple (never changes) -/
 | tup (xs:List V)
 /-- a dict whose keys are ints and texts;one whose keys are tuples of ints and texts (the empty one is both) -/
 | dK (kvs:List (CS×V)) | dT (kvs:List (List CS×V))
 /-- a set of ints:eG members,eG size -/
 | set (S:Int->Bool) (n:Nat)
 /-- an instance of the class at C,eG dict at dx,eG attributes -/
 | ins (C dx:aQ) (fs:List (Str×V))
 /-- the dict of the instance at x -/
 | own (x:aQ)
 /-- the dict of an exception -/
 | xd (fs:List (Str×V))
 /-- a bound method,f of x -/
 | met (f x:aQ)
 /-- a range object lo,lo+1,.. below hi -/
 | rng (lo hi:Int)
 /-- a thing that is known to the object (the script;a dict while a Om walks it):read,never written while it is so -/
 | frz (o:Obj) (u:HO)
 /-- a code object's table -/
 | tbl (ps:Array Value)
 /-- any other thing,by what is true of eG one object (a def of one's own:SetO a S n:=HO.ext fun h=>..) -/
 | ext (φ:gF->Prop)
noncomputable abbrev Hp:=aQ->Option HO
noncomputable def upd (H:Hp) (a:aQ) (o:HO):Hp:=fun b=>if b=a then some o else H b
theorem aH:upd H a o a=some o:=by unfold upd;rw[if_pos rfl]
theorem bL (h:b≠a):upd H a o b=H b:=by unfold upd;rw[if_neg h]
theorem kK {H:Hp} {a b:aQ} {o u:HO} (h:H a=some o) (h':H b=some u) (d:o≠u):a≠b:=by intro e;subst e;rw[h]at h';exact d (cP h')
theorem dM {H:Hp} {a b:aQ} {o:HO} (h:H a=some o) (h':H b=none):a≠b:=by intro e;subst e;rw[h]at h';cases h'
def RX (h:gF) (a:aQ) (items:Array Value):Prop:=∃o,h.get? a=some o/\o.cls=.type "tuple"/\∃n,o.data=.seq items n/\o.dict=none
theorem RX.is (x:RX h a items):Qc h a items:=let ⟨o,e,c,n,d,_⟩:=x;⟨o,e,c,n,d⟩
theorem RX.new (h:gF) (items:Array Value):RX (h.push {cls:=.type "tuple",data:=.seq items}) h.objs.size items:=⟨_,bQ _ rfl,rfl,_,rfl,rfl⟩
theorem RX.lt (x:RX h a items):a < h.objs.size:=x.is.lt
section
variable (P:dF) (w:eW)
noncomputable def lF (H:Hp) (h:gF) (a:aQ):HO->Prop
 | .lst xs=>xs.length<=aU/\∃(eG:List Value) (n:Nat),gB xs eG/\h.get? a=some {cls:=.type "list",data:=.seq eG.toArray n}
 | .tup xs=>xs.length<=aU/\∃eG:List Value,gB xs eG/\RX h a eG.toArray
 | .dK kvs=>kvs.length<=aU/\(a == pF)=false/\∃vs,KV kvs vs/\h.DictOf (lW P w) a vs
 | .dT kvs=>kvs.length<=aU/\(a == pF)=false/\∃xs:List (List CS×aQ×Value),hU (fun(p:List CS×V) (q:List CS×aQ×Value)=>p.1=q.1/\H q.2.1=some (.tup (p.1.map kV))/\gN p.2 q.2.2) kvs xs/\∃o es ep,h.get? a=some o/\o.ExactDict/\o.data=.dict es ep/\es.toList=xs.map (entryOfKey (Aq (lW P w)))/\(xs.map (·.1)).Nodup
 | .set S n=>h.SetOf (intKind P w) a S n
 | .ins C dx fs=>H dx=some (.own a)/\fs.length<=1000/\dx≠a/\h.get? a=some (lL C dx)/\∃mA,h.Ns1 dx mA/\(∀f,DO (fs.lookup f) (mA f))/\Du mA (fs.map (·.1))
 | .own _=>∃o,h.get? a=some o
 | .xd fs=>∃mA,h.Ns1 a mA/\∀f,DO (fs.lookup f) (mA f)
 | .rng lo hi=>∃t u v,h.get? a=some {cls:=.type "range",data:=.fields #[.int lo t,.int hi u,.int 1 v]}
 | .frz o u=>h.get? a=some o/\lF H h a u
 | .tbl ps=>h.get? a=some {cls:=.none,data:=.fields ps}
 | .met f x=>h.get? a=some (JY (.ref f) (.ref x))
 | .ext φ=>φ h/\(∃o,h.get? a=some o)/\∀h1 h2:gF,φ h1->(∀o,h1.get? a=some o->h2.get? a=some o)->φ h2
def CQ (H:Hp) (h:gF):Prop:=∀a o,H a=some o->lF P w H h a o
end
section
variable {P:dF} {w:eW} {H H':Hp} {h h':gF} {a:aQ} {o:HO}
theorem lF.lt (x:lF P w H h a o):a < h.objs.size:=by
 cases o with
 | lst xs=>obtain⟨_,_,_,_,e⟩:=x;exact bY e
 | tup xs=>obtain⟨_,_,_,p⟩:=x;exact p.lt
 | dK kvs=>obtain⟨_,_,_,_,o,_,_,e,_⟩:=x;exact bY e
 | dT kvs=>obtain⟨_,_,_,_,o,_,_,e,_⟩:=x;exact bY e
 | set S n=>obtain⟨o,_,_,_,e,_⟩:=x;exact bY e
 | ins C dx fs=>obtain⟨_,_,_,e,_⟩:=x;exact bY e
 | own y=>obtain⟨_,e⟩:=x;exact bY e
 | xd fs=>obtain⟨_,⟨_,_,_,e,_⟩,_⟩:=x;exact bY e
 | rng lo hi=>obtain⟨_,_,_,e⟩:=x;exact bY e
 | frz ob u=>obtain⟨e,_⟩:=x;exact bY e
 | tbl ps=>exact bY (show h.get? a=some _ from x)
 | met f y=>exact bY (show h.get? a=some _ from x)
 | ext φ=>obtain⟨_,⟨_,e⟩,_⟩:=x;exact bY e
theorem Paired.mapP:∀{l₁:List α} {l₂:List β},hU F l₁ l₂->(∀a b,F a b->G a b)->hU G l₁ l₂
 | _,_,.nil,_=>.nil
 | _,_,.cons r t,f=>.cons (f _ _ r) (Paired.mapP t f)
theorem lF.stay (x:lF P w H h a o) (k:∀b u,(b=a\/H b=some (.own a))->h.get? b=some u->h'.get? b=some u)
  (ho:∀b,H b=some (.own a)->H' b=some (.own a)) (ht:∀b xs,H b=some (.tup xs)->H' b=some (.tup xs)):lF P w H' h' a o:=by
 induction o with
 | lst xs=>obtain⟨z,eG,n,r,e⟩:=x;exact⟨z,eG,n,r,k _ _ (.inl rfl) e⟩
 | tup xs=>obtain⟨z,eG,r,ob,e,c⟩:=x;exact⟨z,eG,r,ob,k _ _ (.inl rfl) e,c⟩
 | dK kvs=>obtain⟨z,y,vs,r,ob,es,ep,e,c⟩:=x;exact⟨z,y,vs,r,ob,es,ep,k _ _ (.inl rfl) e,c⟩
 | dT kvs=>obtain⟨z,y,xs,r,ob,es,ep,e,c⟩:=x;exact⟨z,y,xs,Paired.mapP r fun p q z=>⟨z.1,ht _ _ z.2.1,z.2.2⟩,ob,es,ep,k _ _ (.inl rfl) e,c⟩
 | set S n=>obtain⟨ob,es,ep,t,e,c⟩:=x;exact⟨ob,es,ep,t,k _ _ (.inl rfl) e,c⟩
 | ins C dx fs=>obtain⟨d,z,ne,e,mA,⟨od,es,ep,e2,c⟩,r⟩:=x;exact⟨ho _ d,z,ne,k _ _ (.inl rfl) e,mA,⟨od,es,ep,k _ _ (.inr d) e2,c⟩,r⟩
 | own y=>obtain⟨ob,e⟩:=x;exact⟨ob,k _ _ (.inl rfl) e⟩
 | xd fs=>obtain⟨mA,⟨od,es,ep,e,c⟩,r⟩:=x;exact⟨mA,⟨od,es,ep,k _ _ (.inl rfl) e,c⟩,r⟩
 | rng lo hi=>obtain⟨t,u,v,e⟩:=x;exact⟨t,u,v,k _ _ (.inl rfl) e⟩
 | frz ob u ih=>obtain⟨e,q⟩:=x;exact⟨k _ _ (.inl rfl) e,ih q⟩
 | tbl ps=>have e:h.get? a=some {cls:=.none,data:=.fields ps}:=x;show h'.get? a=some {cls:=.none,data:=.fields ps};exact k a _ (.inl rfl) e
 | met f y=>have e:h.get? a=some (JY (.ref f) (.ref y)):=x;show h'.get? a=some (JY (.ref f) (.ref y));exact k a _ (.inl rfl) e
 | ext φ=>obtain⟨p,⟨o,e⟩,st⟩:=x;exact⟨st _ _ p fun o q=>k _ _ (.inl rfl) q,⟨o,k _ _ (.inl rfl) e⟩,st⟩
theorem CQ.lt (x:CQ P w H h) (e:H a=some o):a < h.objs.size:=(x a o e).lt
theorem CQ.fresh (x:CQ P w H h) (e:h.objs.size<=a):H a=none:=by
 cases q:H a with
 | none=>rfl
 | some u=>exact absurd (bZ (x.lt q) e) (eZ _)
theorem CQ.kept (x:CQ P w H h) (k:∀b u,h.get? b=some u->h'.get? b=some u):CQ P w H h':=fun a o e=>(x a o e).stay (fun b u _ q=>k b u q) (fun _ q=>q) fun _ _ q=>q
theorem CQ.laid (x:CQ P w H h) (k:∀b u,h.get? b=some u->h'.get? b=some u) (hp:h.objs.size<=a) (new:lF P w (upd H a o) h' a o):CQ P w (upd H a o) h':=fun b u e=>by
 have hn:=x.fresh hp;by_cases hb:b=a
 ·subst hb;rw[aH]at e;cases e;exact new
 ·rw[bL hb]at e;exact(x b u e).stay (fun c v _ q=>k c v q) (fun c q=>by rw[bL (dM q hn)];exact q) fun c xs q=>by rw[bL (dM q hn)];exact q
end
def Rd (H:Hp) (a:aQ) (u:HO):Prop:=H a=some u\/∃o,H a=some (.frz o u)
theorem Rd.ok (r:Rd H a u) (x:CQ P w H h):lF P w H h a u:=by
 rcases r with r | ⟨o,r⟩
 ·exact x a u r
 ·obtain⟨_,q⟩:=x a _ r;exact q
noncomputable def Ze:Option HO->Prop
 | some (.lst _)=>True
 | some (.dK _)=>True
 | some (.dT _)=>True
 | some (.set _ _)=>True
 | some (.ins _ _ _)=>True
 | some (.ext _)=>True
 | _=>False
section
variable {P:dF} {w:eW} {H:Hp} {h h':gF} {x e:aQ} {o':HO}
theorem CQ.write (ok:CQ P w H h) (mu:Ze (H x)) (he:e=x\/H e=some (.own x)) (k:∀b u,b≠e->h.get? b=some u->h'.get? b=some u) (heo:∃u,h'.get? e=some u)
  (new:lF P w (upd H x o') h' x o'):CQ P w (upd H x o') h':=fun b u q=>by
 have nown:∀c y,H c=some (.own y)->c≠x:=fun c y r z=>by subst z;rw[r]at mu;exact mu
 have ntup:∀c xs,H c=some (.tup xs)->c≠x:=fun c xs r z=>by subst z;rw[r]at mu;exact mu
 by_cases hb:b=x
 ·subst hb;rw[aH]at q;cases q;exact new
 ·rw[bL hb]at q;by_cases hbe:b=e
  ·have q':H b=some (.own x):=by
    rcases he with z | z
    ·exact absurd (hbe.trans z) hb
    ·rw[hbe];exact z
   rw[q]at q';cases q';obtain⟨v,hv⟩:=heo;exact⟨v,by rw[hbe];exact hv⟩
  ·refine(ok b u q).stay (fun c v hc r=>k c v ?_ r) (fun c r=>by rw[bL (nown c b r)];exact r) fun c xs r=>by rw[bL (ntup c xs r)];exact r
   rcases hc with rfl | hc
   ·exact hbe
   ·rintro rfl;rcases he with z | z
    ·exact nown c b hc z
    ·rw[hc]at z;cases z;exact hb rfl
end
structure Un (fs ex:List aQ) (H H':Hp) (h h':gF):Prop where
 keep:∀b o,h.get? b=some o->H b=none->b∉fs->b∉ex->h'.get? b=some o
 slot:∀b o,h.get? b=some o->H b=none->b∈fs->b∉ex->∃sl,h'.get? b=some {o with slots:=sl}
 free:∀b o,h.get? b=some o->H b=none->b∉ex->H' b=none
 there:∀b o,h.get? b=some o->b∉ex->∃o',h'.get? b=some o'
 tups:∀b xs,H b=some (.tup xs)->H' b=some (.tup xs)
 frzs:∀b o u,H b=some (.frz o u)->H' b=some (.frz o u)
 tbls:∀b ps,H b=some (.tbl ps)->∃more,H' b=some (.tbl (ps++more))
section
variable {fs fs' ex ex':List aQ} {H H1 H2:Hp} {h h1 h2 h':gF} {a x e:aQ} {o:HO}
theorem Un.any (u:Un fs ex H H1 h h1) (q:h.get? b=some ob) (n:H b=none) (hx:b∉ex):∃sl,h1.get? b=some {ob with slots:=sl}:=by
 by_cases hb:b∈fs
 ·exact u.slot b ob q n hb hx
 ·exact⟨ob.slots,u.keep b ob q n hb hx⟩
theorem Un.kept (k:∀b u,h.get? b=some u->h'.get? b=some u):Un fs ex H H h h':=⟨fun b ob q _ _ _=>k b ob q,fun b ob q _ _ _=>⟨ob.slots,k b ob q⟩,fun _ _ _ n _=>n,fun b ob q _=>⟨ob,k b ob q⟩,fun _ _ q=>q,fun _ _ _ q=>q,fun _ ps q=>⟨#[],by rw[q];simp⟩⟩
theorem Un.refl:Un fs ex H H h h:=Un.kept fun _ _ q=>q
theorem Un.laid (k:∀b u,h.get? b=some u->h'.get? b=some u) (hp:h.objs.size<=a) (hn:H a=none):Un fs ex H (upd H a o) h h' where
 keep:=fun b u q _ _ _=>k b u q
 slot:=fun b u q _ _ _=>⟨u.slots,k b u q⟩
 free:=fun b u q n _=>by rw[bL (eK (bZ (bY q) hp))];exact n
 there:=fun b u q _=>⟨u,k b u q⟩
 tups:=fun b xs q=>by rw[bL (dM q hn)];exact q
 frzs:=fun b u xs q=>by rw[bL (dM q hn)];exact q
 tbls:=fun b ps q=>⟨#[],by rw[bL (dM q hn),q];simp⟩
theorem Un.write (mu:Ze (H x)) (he:e=x\/H e=some (.own x)) (k:∀b u,b≠e->h.get? b=some u->h'.get? b=some u) (heo:∃u,h'.get? e=some u):Un fs ex H (upd H x o) h h':=by
 have hx:∀b,H b=none->b≠x:=fun b n z=>by subst z;rw[n]at mu;exact mu
 have hb:∀b,H b=none->b≠e:=fun b n z=>by
  subst z;rcases he with r | r
  ·exact hx b n r
  ·rw[n]at r;cases r
 have hm:∀b u,H b=some u->¬Ze (some u)->b≠x:=fun b u q nm z=>by subst z;rw[q]at mu;exact nm mu
 refine⟨fun b u q n _ _=>k b u (hb b n) q,fun b u q n _ _=>⟨u.slots,k b u (hb b n) q⟩,fun b u q n _=>by rw[bL (hx b n)];exact n,fun b u q _=>?_,fun b xs q=>by rw[bL (hm b _ q fun z=>z)];exact q,fun b u xs q=>by rw[bL (hm b _ q fun z=>z)];exact q,fun b ps q=>⟨#[],by rw[bL (hm b _ q fun z=>z),q];simp⟩⟩;by_cases hbe:b=e
 ·subst hbe;exact heo
 ·exact⟨u,k b u hbe q⟩
end
noncomputable def F0 (h:gF) (H:Hp):List aQ:=(MU h.objs.size).filter fun a=>(H a).isSome
noncomputable def Bm (h:gF) (H:Hp):gF:=CJ h (F0 h H)
theorem Oh (h:gF) (H:Hp):(Bm h H).objs.size=h.objs.size:=PySem.W.hideAll_size _ _
theorem Rv (e:h.get? b=some o) (n:H b=none):(Bm h H).get? b=some o:=Hq _ e fun hm=>by have q:(H b).isSome=true:=(kM.mp hm).2;rw[n]at q;simp at q
theorem Ve (e:(Bm h H).get? b=some o):h.get? b=some o/\H b=none:=by
 have e':h.get? b=some o:=IF (F0 h H) e;refine⟨e',?_⟩;cases q:H b with
 | none=>rfl
 | some x=>have hm:b∈F0 h H:=kM.mpr ⟨List.mem_range.mpr (bY e'),by simp[q]⟩;have z:(Bm h H).get? b=none:=PySem.W.hideAll_none (F0 h H) hm;rw[z]at e;cases e
structure E4 (K:aB) (mg:Str->Option Value) (base:gF):Prop where
 kin:K.In base
 glob:base.Ns jU mg
 blt:∃mb,base.Ns builtinsNs mb/\∀x:Str,x≠"__name__"->mb x=vS x
 nolimit:base.NoLimit
structure Cx where
 prog:dF
 w:eW
 K:aB
 mg:Str->Option Value
 base:gF
 A:jW
 N:List Str
 s_0:aV
 H_0:Hp
 env:Env
 outer:List Env
 stack:List Env
 ex:List aQ
 fn:Str->Bool
 calm:Bool
 pn:List (aQ×Obj)
 xe:Value->aV->Prop
noncomputable def JT (l:List Env):List aQ:=l.filterMap (·.frame)
noncomputable abbrev Cx.fs (X:Cx):List aQ:=JT X.outer
def Yw (sc:zI) (x:Str):Prop:=sc.names.lookup x=some .local\/sc.names.lookup x=some .cell\/sc.names.lookup x=some .free
def Xa (sc:zI) (x:Str):Prop:=sc.names.lookup x=some .local\/sc.names.lookup x=some .cell
def F1 (env:Env) (h:gF) (m:Str->Option Value) (x:Str) (u:Value):Prop:=(env.kindOf x=some .local/\m x=some u)\/((env.kindOf x=some .cell\/env.kindOf x=some .free)/\∃c,env.cells.lookup x=some c/\h.IsCell c (some u))
structure Cx.Ok (X:Cx):Prop where
 mod:E4 X.K X.mg X.base
 kind:X.env.scope.kind=.function
 glob:X.env.globals=jU
 blt:X.env.builtins=builtinsNs
 above:X.s_0.heap.objs.size<=X.env.locals
 inj:∀x y c,X.env.cells.lookup x=some c->X.env.cells.lookup y=some c->x=y
 has:∀x,(X.env.kindOf x=some .cell\/X.env.kindOf x=some .free)->∃c,X.env.cells.lookup x=some c
 cab:∀x c,X.fn x=true->X.env.cells.lookup x=some c->X.s_0.heap.objs.size<=c
 hd:X.calm=true->X.A.handled=none
 frames:X.A.frames=some X.stack
 stk:X.stack=X.outer\/(X.stack=X.env::X.outer/\X.env.frame=some X.env.locals)
 exf:∀b∈X.ex,b≠X.env.locals/\∀x c,X.env.cells.lookup x=some c->c≠b
 bs:∀b o,X.base.get? b=some o->X.s_0.heap.get? b=some o/\X.H_0 b=none
 bsz:X.base.objs.size<=X.s_0.heap.objs.size
 noex:∀b o,X.base.get? b=some o->b∉X.ex
 exfs:∀b∈X.ex,b∉X.fs
 funs:X.s_0.heap.FunFrames X.base X.outer
 frf:∀b∈X.fs,X.H_0 b=none
structure dH (X:Cx) (pins:List (aQ×Obj)) (σ:List (Option V)) (H:Hp) (s:aV):Prop where
 ok:X.Ok
 os:s.os=X.s_0.os
 bare:IB s.gens
 base:Un X.fs X.ex X.H_0 H X.s_0.heap s.heap
 loc:∃m,s.heap.Ns X.env.locals m/\∀(i:Nat) (x:Str) (v:V),X.N[i]?=some x->σ[i]?=some (some v)->Yw X.env.scope x->∃u,gN v u/\F1 X.env s.heap m x u
 cell:∀x c,X.env.cells.lookup x=some c->∃v,s.heap.IsCell c v
 free:H X.env.locals=none
 freeC:∀x c,X.env.cells.lookup x=some c->H c=none
 pin:∀p∈X.pn++pins,s.heap.get? p.1=some p.2/\H p.1=none/\p.1≠X.env.locals/\p.1∉X.fs/\∀v,p.2.data≠.cell v
 hok:CQ X.prog X.w H s.heap
 len:σ.length=X.N.length
section
variable {X:Cx} {pins:List (aQ×Obj)} {σ:List (Option V)} {H H':Hp} {s:aV} {h':gF}
theorem Cx.Ok.nofr (ok:X.Ok) (e:X.base.get? b=some o):b∉X.fs:=fun hb=>by have:=(ok.funs.mem hb).1;rw[e]at this;cases this
theorem dH.bs (I:dH X pins σ H s):∀b o,X.base.get? b=some o->s.heap.get? b=some o/\H b=none:=fun b o e=>⟨I.base.keep b o (I.ok.bs b o e).1 (I.ok.bs b o e).2 (I.ok.nofr e) (I.ok.noex b o e),I.base.free b o (I.ok.bs b o e).1 (I.ok.bs b o e).2 (I.ok.noex b o e)⟩
theorem dH.bk (I:dH X pins σ H s):∀b o,X.base.get? b=some o->s.heap.get? b=some o:=fun b o e=>(I.bs b o e).1
theorem dH.mod (I:dH X pins σ H s):E4 X.K X.mg X.base:=I.ok.mod
theorem dH.kIn (I:dH X pins σ H s):X.K.In s.heap:=I.ok.mod.kin.keeps I.bk
theorem dH.lt (I:dH X pins σ H s):X.env.locals < s.heap.objs.size:=let ⟨_,hn,_⟩:=I.loc;hn.lt
theorem dH.sz (I:dH X pins σ H s):X.s_0.heap.objs.size<=s.heap.objs.size:=bI I.ok.above (Hu I.lt)
theorem dH.nofs (I:dH X pins σ H s) (h:s.heap.objs.size<=a):a∉X.fs:=fun hb=>by obtain⟨_,o,ho,_⟩:=I.ok.funs.mem hb;exact absurd (bZ (bY ho) (bI I.sz h)) (eZ _)
theorem dH.cne (I:dH X pins σ H s):∀x c,X.env.cells.lookup x=some c->c≠X.env.locals:=fun x c e z=>by obtain⟨v,o,ho,hd⟩:=I.cell x c e;obtain⟨m,⟨o',es,ep,ho',hd',_⟩,_⟩:=I.loc;rw[z,ho']at ho;cases ho;rw[hd']at hd;cases hd
theorem dH.funs (I:dH X pins σ H s):s.heap.FunFrames X.base X.outer:=by
 have all:∀(l:List Env),(∀b∈JT l,b∈X.fs)->X.s_0.heap.FunFrames X.base l->s.heap.FunFrames X.base l:=by
  intro l;induction l with
  | nil=>intro _ _;trivial
  | cons env r ih=>intro hs hl;obtain⟨hk,⟨L,o,hf,hn,ho,hd⟩,hr⟩:=hl;have hL:L∈X.fs:=hs L (by unfold JT;rw[rC,hf];exact aM);obtain⟨sl,e⟩:=I.base.slot L o ho (I.ok.frf L hL) hL fun z=>I.ok.exfs L z hL;exact⟨hk,⟨L,_,hf,hn,e,hd⟩,ih (fun b hb=>hs b (by unfold JT;rw[rC,hf];exact aL _ hb)) hr⟩
 exact all X.outer (fun _ hb=>hb) I.ok.funs
theorem dH.stack (I:dH X pins σ H s):s.heap.FunFrames X.base X.stack:=by
 rcases I.ok.stk with e | ⟨e,hf⟩
 ·rw[e];exact I.funs
 ·rw[e];obtain⟨m,hn,_⟩:=I.loc;refine .cons (by rw[I.ok.kind];decide) hf hn ?_ I.funs;exact Kt (bI I.ok.bsz I.ok.above)
theorem dH.stkSub (I:dH X pins σ H s):∀b∈JT X.stack,b∈X.env.locals::X.fs:=fun b hb=>by
 rcases I.ok.stk with e | ⟨e,hf⟩
 ·rw[e]at hb;exact aL _ hb
 ·rw[e]at hb;unfold JT at hb;rw[rC,hf]at hb;exact hb
theorem dH.stkFree (I:dH X pins σ H s):∀b∈JT X.stack,H b=none:=fun b hb=>by
 rcases aS.mp (I.stkSub b hb)with e | hb
 ·rw[e];exact I.free
 ·obtain⟨_,o,ho,_⟩:=I.ok.funs.mem hb;exact I.base.free b o ho (I.ok.frf b hb) fun z=>I.ok.exfs b z hb
theorem dH.step {g':Array GenState} {t':Nat} {d':Drawn} {ch:List aQ} (I:dH X pins σ H s)
  (hch:∀b∈ch,(b∈X.ex\/X.s_0.heap.objs.size<=b)/\b≠X.env.locals/\(∀x c,X.env.cells.lookup x=some c->c≠b)/\∀p∈X.pn++pins,p.1≠b)
  (keep:∀b o,b≠X.env.locals->b∉X.fs->b∉ch->s.heap.get? b=some o->H b=none->h'.get? b=some o)
  (slot:∀b o,b≠X.env.locals->b∈X.fs->b∉ch->s.heap.get? b=some o->H b=none->∃sl,h'.get? b=some {o with slots:=sl}) (free:∀b o,b∉ch->s.heap.get? b=some o->H b=none->H' b=none)
  (there:∀b o,b∉ch->s.heap.get? b=some o->∃o',h'.get? b=some o')
  (tups:∀b xs,H b=some (.tup xs)->H' b=some (.tup xs)) (frzs:∀b o u,H b=some (.frz o u)->H' b=some (.frz o u)) (tbls:∀b ps,H b=some (.tbl ps)->∃more,H' b=some (.tbl (ps++more)))
  (ns:∀m,s.heap.Ns X.env.locals m->h'.Ns X.env.locals m) (hok:CQ X.prog X.w H' h') (hg:IB g'):
  dH X pins σ H' {s with heap:=h',gens:=g',drawn:=d',toks:=t'}:=by
 have neL:∀b o,X.s_0.heap.get? b=some o->b≠X.env.locals:=fun b o e=>eK (bZ (bY e) I.ok.above);have neC:∀b o,X.s_0.heap.get? b=some o->b∉X.ex->b∉ch:=fun b o e hx hb=>by
  rcases(hch b hb).1 with z | z
  ·exact hx z
  ·exact absurd (bZ (bY e) z) (eZ _)
 have cellK:∀x c,X.env.cells.lookup x=some c->∀v,s.heap.IsCell c v->h'.IsCell c v:=fun x c e v ⟨o,ho,hd⟩=>by
  have nch:c∉ch:=fun z=>(hch c z).2.2.1 x c e rfl;by_cases hc:c∈X.fs
  ·obtain⟨sl,q⟩:=slot c o (I.cne x c e) hc nch ho (I.freeC x c e);exact⟨_,q,hd⟩
  ·exact⟨o,keep c o (I.cne x c e) hc nch ho (I.freeC x c e),hd⟩
 refine⟨I.ok,I.os,hg,⟨fun b o e n hb hx=>?_,fun b o e n hb hx=>?_,fun b o e n hx=>?_,fun b o e hx=>?_,fun b xs e=>tups b xs (I.base.tups b xs e),fun b o xs e=>frzs b o xs (I.base.frzs b o xs e),fun b ps e=>?_⟩,?_,fun x c e=>?_,?_,fun x c e=>?_,fun p hp=>?_,hok,I.len⟩
 ·exact keep b o (neL b o e) hb (neC b o e hx) (I.base.keep b o e n hb hx) (I.base.free b o e n hx)
 ·obtain⟨sl,e1⟩:=I.base.slot b o e n hb hx;obtain⟨sl',e2⟩:=slot b _ (neL b o e) hb (neC b o e hx) e1 (I.base.free b o e n hx);exact⟨sl',e2⟩
 ·obtain⟨o',e1⟩:=I.base.there b o e hx;exact free b o' (neC b o e hx) e1 (I.base.free b o e n hx)
 ·obtain⟨o',e1⟩:=I.base.there b o e hx;exact there b o' (neC b o e hx) e1
 ·obtain⟨m1,e1⟩:=I.base.tbls b ps e;obtain⟨m2,e2⟩:=tbls b _ e1;exact⟨m1++m2,by rw[e2,Ms]⟩
 ·obtain⟨m,hn,hl⟩:=I.loc;refine⟨m,ns m hn,fun i x v e1 e2 e3=>?_⟩;obtain⟨u,r,l⟩:=hl i x v e1 e2 e3;refine⟨u,r,?_⟩;rcases l with l | ⟨k,c,e,z⟩
  ·exact .inl l
  ·exact .inr ⟨k,c,e,cellK x c e _ z⟩
 ·obtain⟨v,z⟩:=I.cell x c e;exact⟨v,cellK x c e v z⟩
 ·obtain⟨m,⟨o,_,_,ho,_⟩,_⟩:=I.loc;exact free _ o (fun z=>(hch _ z).2.1 rfl) ho I.free
 ·obtain⟨v,o,ho,hd⟩:=I.cell x c e;exact free c o (fun z=>(hch c z).2.2.1 x c e rfl) ho (I.freeC x c e)
 ·obtain⟨e,n,ne,nf,d⟩:=I.pin p hp;have nch:p.1∉ch:=fun z=>(hch p.1 z).2.2.2 p hp rfl;exact⟨keep p.1 p.2 ne nf nch e n,free p.1 p.2 nch e n,ne,nf,d⟩
theorem dH.un {t':Nat} (I:dH X pins σ H s) (u:Un X.fs [] H H' s.heap h') (hok:CQ X.prog X.w H' h'):dH X pins σ H' {s with heap:=h',toks:=t'}:=by obtain⟨m,⟨o,es,ep,ho,r⟩,_⟩:=id I.loc;obtain⟨sl,hL⟩:=u.any ho I.free (by simp);exact I.step (g':=s.gens) (d':=s.drawn) (ch:=[]) (fun _ z=>nomatch z) (fun b o _ hb _ e n=>u.keep b o e n hb (by simp)) (fun b o _ hb _ e n=>u.slot b o e n hb (by simp)) (fun b o _ e n=>u.free b o e n (by simp)) (fun b o _ e=>u.there b o e (by simp)) u.tups u.frzs u.tbls (fun m' hm=>by obtain⟨o',es',ep',ho',r'⟩:=hm;rw[ho]at ho';cases ho';exact⟨_,es',ep',hL,r'⟩) hok I.bare
theorem dH.call {g':Array GenState} {t':Nat} {d':Drawn} {ch:List aQ} (I:dH X pins σ H s) (u:Un (JT X.stack) ch H H' s.heap h') (hok:CQ X.prog X.w H' h') (hg:IB g')
  (hch:∀b∈ch,(b∈X.ex\/X.s_0.heap.objs.size<=b)/\b≠X.env.locals/\(∀x c,X.env.cells.lookup x=some c->c≠b)/\∀p∈X.pn++pins,p.1≠b):
  dH X pins σ H' {s with heap:=h',gens:=g',drawn:=d',toks:=t'}:=by
 obtain⟨m,⟨o,es,ep,ho,r⟩,_⟩:=id I.loc;obtain⟨sl,hL⟩:=u.any ho I.free fun z=>(hch _ z).2.1 rfl;exact I.step (ch:=ch) hch (fun b o hL hb hc e n=>u.keep b o e n (fun z=>(aS.mp (I.stkSub b z)).elim hL hb) hc) (fun b o _ _ hc e n=>u.any e n hc) (fun b o hc e n=>u.free b o e n hc) (fun b o hc e=>u.there b o e hc) u.tups u.frzs u.tbls (fun m' hm=>by obtain⟨o',es',ep',ho',r'⟩:=hm;rw[ho]at ho';cases ho';exact⟨_,es',ep',hL,r'⟩) hok hg
theorem dH.turned {t':Nat} {it:aQ} (I:dH X pins σ H s) (k:∀b o,b≠it->s.heap.get? b=some o->h'.get? b=some o) (hn:H it=none) (hL:it≠X.env.locals)
  (h1:it∈X.ex\/X.s_0.heap.objs.size<=it) (h2:∀x c,X.env.cells.lookup x=some c->c≠it) (h3:∀p∈X.pn++pins,p.1≠it):dH X pins σ H {s with heap:=h',toks:=t'}:=by
 have nit:∀b u,H b=some u->b≠it:=fun b u e z=>by rw[z,hn]at e;cases e
 refine I.step (g':=s.gens) (d':=s.drawn) (ch:=[it]) (fun b hb=>?_) (fun b o _ _ hc e _=>k b o (fun z=>hc (by simp[z])) e) (fun b o _ _ hc e _=>⟨o.slots,k b o (fun z=>hc (by simp[z])) e⟩) (fun _ _ _ _ n=>n)
  (fun b o hc e=>⟨o,k b o (fun z=>hc (by simp[z])) e⟩) (fun _ _ e=>e) (fun _ _ _ e=>e) (fun b ps e=>⟨#[],by rw[e];simp⟩) (fun m hm=>?_) (fun b u e=>?_) I.bare
 ·have e:b=it:=by simpa using hb
  subst e;exact⟨h1,hL,h2,h3⟩
 ·obtain⟨o,es,ep,ho,r⟩:=hm;exact⟨o,es,ep,k _ o (uU hL) ho,r⟩
 ·refine(I.hok b u e).stay (fun c v hc q=>k c v ?_ q) (fun _ q=>q) fun _ _ q=>q;rcases hc with z | z
  ·rw[z];exact nit b u e
  ·exact nit c _ z
theorem dH.tok (I:dH X pins σ H s) (t:Nat):dH X pins σ H {s with toks:=t}:=I.un (h':=s.heap) (t':=t) Un.refl I.hok
theorem dH.kept (I:dH X pins σ H s) (k:∀b u,s.heap.get? b=some u->h'.get? b=some u):dH X pins σ H {s with heap:=h',toks:=t'}:=I.un (Un.kept k) (I.hok.kept k)
theorem dH.laid (I:dH X pins σ H s) (k:∀b u,s.heap.get? b=some u->h'.get? b=some u) (hp:s.heap.objs.size<=a) (new:lF X.prog X.w (upd H a o) h' a o):dH X pins σ (upd H a o) {s with heap:=h',toks:=t'}:=I.un (Un.laid k hp (I.hok.fresh hp)) (I.hok.laid k hp new)
theorem dH.write (I:dH X pins σ H s) (mu:Ze (H x)) (he:e=x\/H e=some (.own x)) (k:∀b u,b≠e->s.heap.get? b=some u->h'.get? b=some u) (heo:∃u,h'.get? e=some u) (new:lF X.prog X.w (upd H x o) h' x o):dH X pins σ (upd H x o) {s with heap:=h',toks:=t'}:=I.un (Un.write mu he k heo) (I.hok.write mu he k heo new)
theorem dH.weak (I:dH X pins σ H s) (hl:σ'.length=σ.length) (w:∀(i:Nat) v,σ'[i]?=some (some v)->σ[i]?=some (some v)):dH X pins σ' H s:=⟨I.ok,I.os,I.bare,I.base,let ⟨m,hn,hl'⟩:=I.loc;⟨m,hn,fun i x v e1 e2 e3=>hl' i x v e1 (w i v e2) e3⟩,I.cell,I.free,I.freeC,I.pin,I.hok,hl.trans I.len⟩
theorem dH.pins_of (I:dH X pins σ H s) (h:∀p∈pins',s.heap.get? p.1=some p.2/\H p.1=none/\p.1≠X.env.locals/\p.1∉X.fs/\∀v,p.2.data≠.cell v):dH X pins' σ H s:=⟨I.ok,I.os,I.bare,I.base,I.loc,I.cell,I.free,I.freeC,fun p hp=>(eJ.mp hp).elim (fun z=>I.pin p (Kn _ z)) (h p),I.hok,I.len⟩
theorem UC {N:List Str} (hN:N.Nodup) {i j:Nat} {x:Str} (a:N[i]?=some x) (b:N[j]?=some x):i=j:=by obtain⟨h1,e1⟩:=aT.mp a;obtain⟨h2,e2⟩:=aT.mp b;exact(List.getElem_inj hN).mp (e1.trans e2.symm)
theorem ZY {M:Model} {A:jW} {E:Value->aV->Prop} {i:Nat} {x:Str} {v:V} {u:Value} {Q:Unit->aV->Prop} (I:dH X pins σ H s) (hN:X.N.Nodup) (hi:X.N[i]?=some x) (hx:Xa X.env.scope x) (r:gN v u)
  (h:∀s',dH X pins (σ.set i (some v)) H s'->(∃a,xK a s.heap s'.heap/\(a=X.env.locals\/X.env.cells.lookup x=some a))->Q () s') (hf:X.fn x=true\/X.env.scope.names.lookup x=some .local:=by first | exact .inl rfl | exact .inr rfl | assumption):bJ M A (storeName X.env x u) Q E s:=by
 obtain⟨m,hn,hl⟩:=id I.loc;have hcls:(X.env.scope.kind == .class || (X.env.scope.kind == .module && X.env.locals != X.env.globals))=false:=by rw[I.ok.kind];rfl
 have hiσ:i < σ.length:=by rw[I.len];exact(aT.mp hi).1
 have cne:=I.cne;have tracked:∀{a:aQ} {h':gF},(∃o,s.heap.get? a=some o/\H a=none)->xK a s.heap h'->CQ X.prog X.w H h':=fun {a h'} ha hs b ob e=>by
  obtain⟨_,_,hfree⟩:=ha;refine(I.hok b ob e).stay (fun c w' hc q=>(hs.2 c ?_).trans q) (fun _ q=>q) fun _ _ q=>q;rintro rfl;rcases hc with rfl | hc
  ·rw[hfree]at e;cases e
  ·rw[hfree]at hc;cases hc
 rcases hx with hk | hk
 ·refine wpAny_storeName_local hk hn (fun h' hn' hs=>?_) hcls;obtain⟨oL,_,_,hoL,_⟩:=id hn;refine h _ ⟨I.ok,I.os,I.bare,⟨fun b o e n hb hx=>?_,fun b o e n hb hx=>?_,I.base.free,fun b o e hx=>?_,I.base.tups,I.base.frzs,I.base.tbls⟩,⟨_,hn',fun j y v' e1 e2 e3=>?_⟩,fun y c e=>?_,I.free,I.freeC,fun p hp=>?_,tracked ⟨oL,hoL,I.free⟩ hs,by simpa using I.len⟩ ⟨_,hs,.inl rfl⟩
  ·exact(hs.2 b (eK (bZ (bY e) I.ok.above))).trans (I.base.keep b o e n hb hx)
  ·obtain⟨sl,e1⟩:=I.base.slot b o e n hb hx;exact⟨sl,(hs.2 b (eK (bZ (bY e) I.ok.above))).trans e1⟩
  ·obtain⟨o',e1⟩:=I.base.there b o e hx;exact⟨o',(hs.2 b (eK (bZ (bY e) I.ok.above))).trans e1⟩
  ·by_cases hj:j=i
   ·subst hj;rw[hi]at e1;cases e1;rw[oO hiσ]at e2;cases e2;exact⟨u,r,.inl ⟨hk,by simp⟩⟩
   ·rw[vX (uU hj)]at e2;obtain⟨u',r',q⟩:=hl j y v' e1 e2 e3;refine⟨u',r',?_⟩;rcases q with⟨k,e⟩ | ⟨k,c,e,z⟩
    ·refine .inl ⟨k,?_⟩;have:y≠x:=fun e=>hj (UC hN e1 (e▸hi));simp[this,e]
    ·exact .inr ⟨k,c,e,z.sameBut hs (cne y c e)⟩
  ·obtain⟨w',z⟩:=I.cell y c e;exact⟨w',z.sameBut hs (cne y c e)⟩
  ·obtain⟨e,n,ne,nf,d⟩:=I.pin p hp;exact⟨(hs.2 p.1 ne).trans e,n,ne,nf,d⟩
 ·have hfn:X.fn x=true:=by
   rcases hf with z | z
   ·exact z
   ·rw[z]at hk;cases hk
  obtain⟨c,hc⟩:=I.ok.has x (.inl hk);obtain⟨w',z⟩:=I.cell x c hc;refine wpAny_storeName_cell I.ok.kind hk hc z (fun h' hc' hs=>?_);obtain⟨oc,hoc,hocd⟩:=id z;refine h {s with heap:=h'} ⟨I.ok,I.os,I.bare,⟨fun b o e n hb hx=>?_,fun b o e n hb hx=>?_,I.base.free,fun b o e hx=>?_,I.base.tups,I.base.frzs,I.base.tbls⟩,⟨m,hn.sameBut hs (uU (cne x c hc)),fun j y v' e1 e2 e3=>?_⟩,fun y c' e=>?_,I.free,I.freeC,fun p hp=>?_,tracked ⟨oc,hoc,I.freeC x c hc⟩ hs,by simpa using I.len⟩ ⟨c,hs,.inr hc⟩
  ·exact(hs.2 b (eK (bZ (bY e) (I.ok.cab x c hfn hc)))).trans (I.base.keep b o e n hb hx)
  ·obtain⟨sl,e1⟩:=I.base.slot b o e n hb hx;exact⟨sl,(hs.2 b (eK (bZ (bY e) (I.ok.cab x c hfn hc)))).trans e1⟩
  ·obtain⟨o',e1⟩:=I.base.there b o e hx;exact⟨o',(hs.2 b (eK (bZ (bY e) (I.ok.cab x c hfn hc)))).trans e1⟩
  ·by_cases hj:j=i
   ·subst hj;rw[hi]at e1;cases e1;rw[oO hiσ]at e2;cases e2;exact⟨u,r,.inr ⟨.inl hk,c,hc,hc'⟩⟩
   ·rw[vX (uU hj)]at e2;obtain⟨u',r',q⟩:=hl j y v' e1 e2 e3;refine⟨u',r',?_⟩;rcases q with q | ⟨k,c',e,z'⟩
    ·exact .inl q
    ·refine .inr ⟨k,c',e,z'.sameBut hs ?_⟩;rintro rfl;exact hj (UC hN e1 (I.ok.inj _ _ _ e hc▸hi))
  ·by_cases hcc:c'=c
   ·subst hcc;exact⟨_,hc'⟩
   ·obtain⟨w2,z2⟩:=I.cell y c' e;exact⟨w2,z2.sameBut hs hcc⟩
  ·obtain⟨e,n,ne,nf,d⟩:=I.pin p hp;refine⟨(hs.2 p.1 ?_).trans e,n,ne,nf,d⟩;intro q;rw[q,hoc]at e;have q':oc=p.2:=cP e;exact d w' (by rw[<-q'];exact hocd)
theorem EV (I:dH X pins σ H s) (hN:X.N.Nodup) (hi:X.N[i]?=some x) (hx:Xa X.env.scope x) (r:gN v u) (h:∀s',dH X pins (σ.set i (some v)) H s'->Q () s') (hf:X.fn x=true\/X.env.scope.names.lookup x=some .local:=by first | exact .inl rfl | exact .inr rfl | assumption):bJ M A (storeName X.env x u) Q E s:=ZY I hN hi hx r (fun s' I' _=>h s' I') hf
theorem dH.call' (I:dH X pins σ H s) (ho:s'.os=s.os) (u:Un (JT X.stack) ch H H' s.heap s'.heap) (hok:CQ X.prog X.w H' s'.heap) (hg:IB s'.gens)
  (hch:∀b∈ch,(b∈X.ex\/X.s_0.heap.objs.size<=b)/\b≠X.env.locals/\(∀x c,X.env.cells.lookup x=some c->c≠b)/\∀p∈X.pn++pins,p.1≠b):dH X pins σ H' s':=by
 obtain⟨h',g',d',t',o'⟩:=s';have e:o'=s.os:=ho;subst e;exact I.call (g':=g') (t':=t') (d':=d') u hok hg hch
end
noncomputable abbrev XK:=Value->Option aQ->Hp->Prop
noncomputable abbrev St:=List (Option V)
noncomputable abbrev VK:=V->Hp->Prop
noncomputable abbrev TE:=St->Hp->VK->Prop
noncomputable abbrev TT:=St->Hp->(Bool->Hp->Prop)->Prop
noncomputable abbrev TA:=St->Hp->(List V->Hp->Prop)->Prop
structure IL where
 nx:St->Hp->Prop
 rt:VK
 bk:St->Hp->Prop:=fun _ _=>False
 ct:St->Hp->Prop:=fun _ _=>False
noncomputable abbrev TS:=IL->St->Hp->Prop
def EP (X:Cx) (pins:List (aQ×Obj)) (σ:St) (Q:VK) (u:Value) (s':aV):Prop:=∃v H',dH X pins σ H' s'/\gN v u/\Q v H'
def TP (X:Cx) (pins:List (aQ×Obj)) (σ:St) (Q:Bool->Hp->Prop) (b:Bool) (s':aV):Prop:=∃H',dH X pins σ H' s'/\Q b H'
def AP (X:Cx) (pins:List (aQ×Obj)) (σ:St) (Q:List V->Hp->Prop) (us:List Value) (s':aV):Prop:=∃vs H',dH X pins σ H' s'/\gB vs us/\Q vs H'
def SP (X:Cx) (pins:List (aQ×Obj)) (D:IL) (f:Flow) (s':aV):Prop:=
 match f with
 | .next=>∃σ' H',dH X pins σ' H' s'/\D.nx σ' H'
 | .brk=>∃σ' H',dH X pins σ' H' s'/\D.bk σ' H'
 | .cont=>∃σ' H',dH X pins σ' H' s'/\D.ct σ' H'
 | .ret u=>∃v σ' H',dH X pins σ' H' s'/\gN v u/\D.rt v H'
def PE (X:Cx) (e:Expr) (t:TE):Prop:=∀(pins:List (aQ×Obj)) (s:aV) (σ:St) (H:Hp) (Q:VK),dH X pins σ H s->t σ H Q->bJ (cC X.prog X.w) X.A (hX e X.env) (EP X pins σ Q) X.xe s
def PT (X:Cx) (e:Expr) (t:TT):Prop:=∀(pins:List (aQ×Obj)) (s:aV) (σ:St) (H:Hp) (Q:Bool->Hp->Prop),dH X pins σ H s->t σ H Q->bJ (cC X.prog X.w) X.A (isTrue e X.env (hX e X.env)) (TP X pins σ Q) X.xe s
def PW (X:Cx) (e:Expr) (t:TT):Prop:=∀(whole:Sem Value) (pins:List (aQ×Obj)) (s:aV) (σ:St) (H:Hp) (Q:Bool->Hp->Prop),dH X pins σ H s->t σ H Q->bJ (cC X.prog X.w) X.A (isTrue e X.env whole) (TP X pins σ Q) X.xe s
theorem PW.pt (h:PW X e t):PT X e t:=h _
def PA (X:Cx) (es:List Expr) (t:TA):Prop:=∀(pos:Pos) (pins:List (aQ×Obj)) (s:aV) (σ:St) (H:Hp) (Q:List V->Hp->Prop),dH X pins σ H s->t σ H Q->bJ (cC X.prog X.w) X.A (spliced (jH pos (bO es X.env))) (AP X pins σ Q) X.xe s
def PS (X:Cx) (st:wS) (t:TS):Prop:=∀(pins:List (aQ×Obj)) (s:aV) (σ:St) (H:Hp) (D:IL),dH X pins σ H s->t D σ H->bJ (cC X.prog X.w) X.A (exec st X.env) (SP X pins D) X.xe s
def Qn (X:Cx) (st:List wS) (t:TS):Prop:=∀(pins:List (aQ×Obj)) (s:aV) (σ:St) (H:Hp) (D:IL),dH X pins σ H s->t D σ H->bJ (cC X.prog X.w) X.A (execs st X.env) (SP X pins D) X.xe s
theorem kY (h:bJ M A t Q E s) (hQ:∀a s,Q a s->Q' a s):bJ M A t Q' E s:=fZ h hQ fun _ _ x=>x
section
variable {X:Cx}
inductive Gw (i:Nat) (σ:St) (H:Hp) (Q:VK):Prop
 | mk (v:_):σ[i]?=some (some v)->Q v H->Gw i σ H Q
noncomputable def tC (v:V):TE:=fun _ H Q=>Q v H
theorem Xx (hN:X.N[i]?=some x) (hv:Yw X.env.scope x) (hd:(x == ("__debug__":Str))=false:=by decide) (hcd:(x == ("__classdict__":Str))=false:=by decide):PE X (.Name x pos) (Gw i):=by
 intro pins s σ H Q I h;obtain⟨v,e,h⟩:=h;obtain⟨m,hn,hl⟩:=I.loc;obtain⟨u,r,l⟩:=hl i x v hN e hv;have fin:EP X pins σ Q u s:=⟨v,H,I,r,h⟩;rcases l with⟨hk,hm⟩ | ⟨hk,c,hc,hcell⟩
 ·exact wpAny_Name (wpAny_loadName_local I.ok.kind hk hn hm fin) hd
 ·rcases hk with hk | hk
  ·exact wpAny_Name (wpAny_loadName_cell I.ok.kind hk hc hcell fin) hd
  ·exact wpAny_Name (wpAny_loadName_free I.ok.kind hk hc hcell fin hcd) hd
theorem cB {i j pos}:PE X (.Constant (.int i) j pos) (tC (.int i)):=fun _ _ _ H _ I h=>wpAny_Constant_int ⟨.int i,H,I.tok _,⟨_,rfl⟩,h⟩
theorem Sr {b j pos}:PE X (.Constant (.bool b) j pos) (tC (.bl b)):=fun _ _ _ H _ I h=>Constant_bool ⟨.bl b,H,I,rfl,h⟩
theorem eB {x j pos}:PE X (.Constant (.str x) j pos) (tC (.str x)):=fun _ _ _ H _ I h=>Calls.Constant_str ⟨.str x,H,I.tok _,⟨_,rfl⟩,h⟩
def Gl (X:Cx) (x:Str):Prop:=X.env.kindOf x=some .globalImplicit
theorem BH (I:dH X pins σ H s) (hg:Gl X x) (hm:X.mg x=some u) (h:Q u s) (hd:(x == ("__debug__":Str))=false:=by decide):bJ (cC X.prog X.w) X.A (hX (.Name x pos) X.env) Q E s:=WL I.ok.kind hg (Calls.loadGlobal_global (by rw[I.ok.glob];exact I.mod.glob.keeps I.bk) hm h) hd
theorem uG (I:dH X pins σ H s) (hg:Gl X x) (hm:X.mg x=none) (hv:vS x=some u) (h:Q u s)
  (hn:x≠"__name__":=by decide) (hd:(x == ("__debug__":Str))=false:=by decide):bJ (cC X.prog X.w) X.A (hX (.Name x pos) X.env) Q E s:=by
 obtain⟨mb,h1,h2⟩:=I.mod.blt;exact WL I.ok.kind hg (Calls.loadGlobal_builtin (by rw[I.ok.glob];exact I.mod.glob.keeps I.bk) hm (by rw[I.ok.blt];exact h1.keeps I.bk) ((h2 x hn).trans hv) h) hd
theorem dN (hg:Gl X x) (hm:X.mg x=some u) (r:gN v u) (hd:(x == ("__debug__":Str))=false:=by decide):PE X (.Name x pos) (tC v):=fun _ _ _ H _ I h=>BH I hg hm ⟨v,H,I,r,h⟩ hd
variable {a b:Expr} {ta tb:TE} {pos:Pos}
def PC (X:Cx) (op:CmpOp) (a b:Expr) (t:TE):Prop:=∀(pins:List (aQ×Obj)) (s:aV) (σ:St) (H:Hp) (Q:VK),dH X pins σ H s->t σ H Q->bJ (cC X.prog X.w) X.A (hX a X.env) (fun v s₁=>bJ (cC X.prog X.w) X.A (hX b X.env) (fun u s₂=>bJ (cC X.prog X.w) X.A (qI op v u) (EP X pins σ Q) X.xe s₂) X.xe s₁) X.xe s
inductive qB (Q:Bool->Hp->Prop) (x:V) (H1:Hp):Prop
 | mk (c:_):x=.bl c->Q c H1->qB Q x H1
noncomputable def tB (t:TE):TT:=fun σ H Q=>t σ H fun x H1=>qB Q x H1
theorem Xy (h:PC X op a b t) (h1:DH op b=false:=by first | exact nobehind _ (by decide) (by decide) | rfl):PT X (.Compare a [op] [b] pos) (tB t):=by intro pins s σ H Q I hw;refine wpAny_isTrue_Compare1 (kY (h pins s σ H _ I hw) fun v s1 h1=>kY h1 fun u s2 h2=>kY h2 fun c s3 ⟨x,H1,I1,r1,q1⟩=>?_) h1;obtain⟨d,rfl,q⟩:=q1;cases r1;exact nH ⟨H1,I1,q⟩
theorem mY (h:PE X e t) (he:∀whole,isTrue e X.env whole=(do let v<-whole;standAt e.pos;IG [v] (truthy v)):=by intro _;rfl):PT X e (tB t):=by intro pins s σ H Q I hw;refine isTrue_plain (kY (h pins s σ H _ I hw) fun v s1 ⟨x,H1,I1,r1,q1⟩=>?_) (he _);obtain⟨d,rfl,q⟩:=q1;cases r1;exact nH ⟨H1,I1,q⟩
variable {tA tB':TT} {rest:List Expr}
noncomputable def J6 (t u:TT):TT:=fun σ H Q=>t σ H fun c H1=>if c=true then u σ H1 Q else Q false H1
noncomputable def M6 (t u:TT):TT:=fun σ H Q=>t σ H fun c H1=>if c=true then Q true H1 else u σ H1 Q
noncomputable def K3 (t:TT):TT:=fun σ H Q=>t σ H fun c H1=>Q (!c) H1
theorem LQ (ha:PT X a tA):PW X (.BoolOp .And [a] pos) tA:=by
 intro wh pins s σ H Q I h;refine isTrue_and (kY (ha pins s σ H Q I h) fun c s1 e=>?_);cases c with
 | true=>exact isTrue_and_nil e
 | false=>exact e
theorem VE (ha:PT X a tA):PW X (.BoolOp .Or [a] pos) tA:=by
 intro wh pins s σ H Q I h;refine isTrue_or (kY (ha pins s σ H Q I h) fun c s1 e=>?_);cases c with
 | false=>exact isTrue_or_nil e
 | true=>exact e
theorem VD (ha:PT X a tA) (hb:PW X (.BoolOp .And (b::rest) pos) tB'):PW X (.BoolOp .And (a::b::rest) pos) (J6 tA tB'):=by
 intro wh pins s σ H Q I h;refine isTrue_and (kY (ha pins s σ H _ I h) fun c s1 ⟨H1,I1,q1⟩=>?_);cases c with
 | true=>exact hb wh pins s1 σ H1 Q I1 q1
 | false=>exact⟨H1,I1,q1⟩
theorem ZL (ha:PT X a tA) (hb:PW X (.BoolOp .Or (b::rest) pos) tB'):PW X (.BoolOp .Or (a::b::rest) pos) (M6 tA tB'):=by
 intro wh pins s σ H Q I h;refine isTrue_or (kY (ha pins s σ H _ I h) fun c s1 ⟨H1,I1,q1⟩=>?_);cases c with
 | true=>exact⟨H1,I1,q1⟩
 | false=>exact hb wh pins s1 σ H1 Q I1 q1
theorem xF (ha:PT X a tA):PT X (.UnaryOp .Not a pos) (K3 tA):=by intro pins s σ H Q I h;exact isTrue_not (ha pins s σ H (fun c H1=>Q (!c) H1) I h)
noncomputable def C9 (ta tb:TE):TE:=fun σ H Q=>ta σ H fun x H1=>∃c,x=.bl c/\if c=true then tb σ H1 Q else Q (.bl false) H1
noncomputable def K4 (ta tb:TE):TE:=fun σ H Q=>ta σ H fun x H1=>∃c,x=.bl c/\if c=true then Q (.bl true) H1 else tb σ H1 Q
theorem Jx {op} (h:PE X a t):PE X (.BoolOp op [a] pos) t:=fun pins s σ H Q I hw=>BoolOp_one (h pins s σ H Q I hw)
theorem Sq (ha:PE X a ta) (hb:PE X (.BoolOp .And (b::rest) pos) tb):PE X (.BoolOp .And (a::b::rest) pos) (C9 ta tb):=by
 intro pins s σ H Q I h;refine BoolOp_and (kY (ha pins s σ H _ I h) fun v s1 ⟨x,H1,I1,r1,q1⟩=>?_);obtain⟨c,rfl,q1⟩:=q1;cases r1;refine nH ?_;cases c with
 | true=>exact hb pins s1 σ H1 Q I1 q1
 | false=>exact⟨.bl false,H1,I1,rfl,q1⟩
theorem C4 (ha:PE X a ta) (hb:PE X (.BoolOp .Or (b::rest) pos) tb):PE X (.BoolOp .Or (a::b::rest) pos) (K4 ta tb):=by
 intro pins s σ H Q I h;refine BoolOp_or (kY (ha pins s σ H _ I h) fun v s1 ⟨x,H1,I1,r1,q1⟩=>?_);obtain⟨c,rfl,q1⟩:=q1;cases r1;refine nH ?_;cases c with
 | false=>exact hb pins s1 σ H1 Q I1 q1
 | true=>exact⟨.bl true,H1,I1,rfl,q1⟩
noncomputable def M5 (t:TT) (ta tb:TE):TE:=fun σ H Q=>t σ H fun c H1=>if c=true then ta σ H1 Q else tb σ H1 Q
theorem Fz (hc:PT X c tA) (ha:PE X a ta) (hb:PE X b tb):PE X (.IfExp c a b pos) (M5 tA ta tb):=by
 intro pins s σ H Q I h;refine wpAny_IfExp (kY (hc pins s σ H _ I h) fun d s1 ⟨H1,I1,q1⟩=>?_);cases d with
 | true=>exact ha pins s1 σ H1 Q I1 q1
 | false=>exact hb pins s1 σ H1 Q I1 q1
end
def hJ (K:aB) (H:Hp) (a:aQ) (xs:List V):Prop:=Rd H a (.lst xs)\/∃(o:Obj) (eG:Array Value) (n:Nat),K.lookup a=some o/\o.cls=.type "list"/\o.dict=none/\o.data=.seq eG n/\eG.size<=aU/\gB xs eG.toList
def fK (K:aB) (H:Hp) (a:aQ) (xs:List V):Prop:=Rd H a (.tup xs)\/∃(o:Obj) (eG:Array Value) (n:Nat),K.lookup a=some o/\(o.cls=.type "tuple"/\o.dict=none)/\o.data=.seq eG n/\eG.size<=aU/\gB xs eG.toList
noncomputable def F6:Value->Option V
 | .none=>some .non
 | .bool b=>some (.bl b)
 | .int i _=>some (.int i)
 | .str x _=>some (.str x)
 | .bytes b _=>some (.byt b)
 | .float b _=>some (.flt b)
 | .ref a=>some (.ref a)
 | .type n=>some (.ty n)
 | _=>none
theorem gN.abs (r:gN x u):F6 u=some x:=by
 cases x with
 | non=>cases r;rfl
 | bl _=>cases r;rfl
 | int _=>obtain⟨t,rfl⟩:=r;rfl
 | str _=>obtain⟨t,rfl⟩:=r;rfl
 | byt _=>obtain⟨t,rfl⟩:=r;rfl
 | flt _=>obtain⟨t,rfl⟩:=r;rfl
 | ref _=>cases r;rfl
 | ty _=>cases r;rfl
theorem gN.inj (r:gN x u) (q:gN y u):x=y:=cP (r.abs.symm.trans q.abs)
theorem gB.inj:∀{xs ys:List V} {us:List Value},gB xs us->gB ys us->xs=ys
 | _,_,_,.nil,.nil=>rfl
 | _,_,_,.cons r t,.cons r' t'=>by rw[r.inj r',gB.inj t t']
section
variable {X:Cx} {pins:List (aQ×Obj)} {σ:St} {H:Hp} {s:aV} {a:aQ} {xs ys:List V}
theorem hJ.of {K:aB} (h:H a=some (.lst xs)):hJ K H a xs:=.inl (.inl h)
theorem dH.list (I:dH X pins σ H s) (h:hJ X.K H a xs):∃eG:List Value,gB xs eG/\PlainL s.heap a eG.toArray/\xs.length<=aU:=by
 rcases h with h | ⟨o,eG,n,hk,hc,hd,hs,hz,r⟩
 ·obtain⟨z,eG,n,r,e⟩:=h.ok I.hok;exact⟨eG,r,⟨_,n,e,rfl,rfl,rfl⟩,z⟩
 ·refine⟨eG.toList,r,⟨o,n,I.kIn a o hk,hc,hd,by simpa using hs⟩,?_⟩;have e:=r.length;simp only[jF]at e;omega
theorem dH.tuple (I:dH X pins σ H s) (h:fK X.K H a xs):∃eG:List Value,gB xs eG/\Qc s.heap a eG.toArray/\xs.length<=aU:=by
 rcases h with h | ⟨o,eG,n,hk,hc,hs,hz,r⟩
 ·obtain⟨z,eG,r,p⟩:=h.ok I.hok;exact⟨eG,r,p.is,z⟩
 ·refine⟨eG.toList,r,⟨o,I.kIn a o hk,hc.1,n,by simpa using hs⟩,?_⟩;have e:=r.length;simp only[jF]at e;omega
theorem dH.list_inj (I:dH X pins σ H s) (h:hJ X.K H a xs) (h':hJ X.K H a ys):xs=ys:=by
 obtain⟨eG,r,⟨o,n,e,_,_,d⟩,_⟩:=I.list h;obtain⟨its',r',⟨o',n',e',_,_,d'⟩,_⟩:=I.list h';rw[e]at e';cases e';rw[d]at d';injection d' with d1 _;have:eG=its':=by simpa using congrArg MV d1
 subst this;exact r.inj r'
theorem dH.tuple_inj (I:dH X pins σ H s) (h:fK X.K H a xs) (h':fK X.K H a ys):xs=ys:=by
 obtain⟨eG,r,⟨o,e,_,n,d⟩,_⟩:=I.tuple h;obtain⟨its',r',⟨o',e',_,n',d'⟩,_⟩:=I.tuple h';rw[e]at e';cases e';rw[d]at d';injection d' with d1 _;have:eG=its':=by simpa using congrArg MV d1
 subst this;exact r.inj r'
end
noncomputable abbrev Cx.wish (X:Cx) (E:Value->aV->Prop):Cx:={X with xe:=E}
noncomputable abbrev Cx.nox (X:Cx):Cx:=X.wish fun _ _=>False
theorem Cx.Ok.wish {X:Cx} (ok:X.Ok) (E:Value->aV->Prop):(X.wish E).Ok:=⟨ok.mod,ok.kind,ok.glob,ok.blt,ok.above,ok.inj,ok.has,ok.cab,ok.hd,ok.frames,ok.stk,ok.exf,ok.bs,ok.bsz,ok.noex,ok.exfs,ok.funs,ok.frf⟩
theorem Cx.Ok.unwish {X:Cx} {E:Value->aV->Prop} (ok:(X.wish E).Ok):X.Ok:=⟨ok.mod,ok.kind,ok.glob,ok.blt,ok.above,ok.inj,ok.has,ok.cab,ok.hd,ok.frames,ok.stk,ok.exf,ok.bs,ok.bsz,ok.noex,ok.exfs,ok.funs,ok.frf⟩
section
variable {X:Cx} {pins:List (aQ×Obj)} {σ:St} {H:Hp} {s:aV} {E:Value->aV->Prop}
theorem dH.wish (I:dH X pins σ H s) (E:Value->aV->Prop):dH (X.wish E) pins σ H s:=⟨I.ok.wish E,I.os,I.bare,I.base,I.loc,I.cell,I.free,I.freeC,I.pin,I.hok,I.len⟩
theorem dH.unwish (I:dH (X.wish E) pins σ H s):dH X pins σ H s:=⟨I.ok.unwish,I.os,I.bare,I.base,I.loc,I.cell,I.free,I.freeC,I.pin,I.hok,I.len⟩
theorem SP.unwish (h:SP (X.wish E) pins D f s'):SP X pins D f s':=by
 cases f with
 | next=>obtain⟨σ',H',I,q⟩:=h;exact⟨σ',H',I.unwish,q⟩
 | brk=>obtain⟨σ',H',I,q⟩:=h;exact⟨σ',H',I.unwish,q⟩
 | cont=>obtain⟨σ',H',I,q⟩:=h;exact⟨σ',H',I.unwish,q⟩
 | ret u=>obtain⟨v,σ',H',I,r,q⟩:=h;exact⟨v,σ',H',I.unwish,r,q⟩
end
section
variable {X:Cx} {st:wS} {rest:List wS} {t u:TS} {e:Expr} {te:TE} {pos:Pos}
noncomputable def D4:TS:=fun D σ H=>D.nx σ H
noncomputable def K6 (t u:TS):TS:=fun D σ H=>t {D with nx:=u D} σ H
theorem cZ:Qn X [] D4:=fun _ _ σ H _ I h=>tV ⟨σ,H,I,h⟩
theorem aI (h1:PS X st t) (h2:Qn X rest u):Qn X (st::rest) (K6 t u):=by
 intro pins s σ H D I h;refine wU (kY (h1 pins s σ H {D with nx:=u D} I h) fun f s1 q=>?_);cases f with
 | next=>obtain⟨σ',H',I',q⟩:=q;exact h2 pins s1 σ' H' D I' q
 | ret v=>exact q
 | brk=>exact q
 | cont=>exact q
theorem aN (h1:PS X st t):Qn X [st] t:=by
 intro pins s σ H D I h;refine wU (kY (h1 pins s σ H D I h) fun f s1 q=>?_);cases f with
 | next=>exact tV q
 | ret v=>exact q
 | brk=>exact q
 | cont=>exact q
theorem dH.quiet (I:dH X pins σ H s):interactive X.env=false:=by simp[interactive,I.ok.kind]
noncomputable def D2 (te:TE):TS:=fun D σ H=>te σ H fun _ H1=>D.nx σ H1
theorem dO (he:PE X e te) (hs:wT e none pos.line X.env=pure false:=by rfl):PS X (.Expr e pos) (D2 te):=by intro pins s σ H D I h;exact wpAny_Expr_any (kY (he pins s σ H _ I h) fun v s1 ⟨x,H1,I1,r1,q1⟩=>⟨σ,H1,I1,q1⟩) I.quiet hs
noncomputable def K5 (te:TE):TS:=fun D σ H=>te σ H D.rt
theorem bH (he:PE X e te):PS X (.Return (some e) pos) (K5 te):=by intro pins s σ H D I h;exact wpAny_Return_some (kY (he pins s σ H _ I h) fun v s1 ⟨x,H1,I1,r1,q1⟩=>⟨x,σ,H1,I1,r1,q1⟩)
noncomputable def K0 (c:TT) (t u:TS):TS:=fun D σ H=>c σ H fun b H1=>if b=true then t D σ H1 else u D σ H1
theorem fE (hc:PT X c tc) (ha:Qn X a t) (hb:Qn X b u):PS X (.If c a b pos) (K0 tc t u):=by
 intro pins s σ H D I h;refine wpAny_If (kY (hc pins s σ H _ I h) fun d s1 ⟨H1,I1,q1⟩=>?_);cases d with
 | true=>exact ha pins s1 σ H1 D I1 q1
 | false=>exact hb pins s1 σ H1 D I1 q1
noncomputable def Yj:TS:=fun _ _ _=>False
theorem Oz:Qn X sts Yj:=fun _ _ _ _ _ _ h=>h.elim
end
noncomputable abbrev TG:=V->St->Hp->(St->Hp->Prop)->Prop
noncomputable abbrev Zg:=List V->St->Hp->(St->Hp->Prop)->Prop
def PG (X:Cx) (target:Expr) (t:TG):Prop:=∀(pins:List (aQ×Obj)) (s:aV) (σ:St) (H:Hp) (v:V) (u:Value) (Q:St->Hp->Prop),dH X pins σ H s->gN v u->t v σ H Q->bJ (cC X.prog X.w) X.A (assign target X.env u) (fun _ s'=>∃σ' H',dH X pins σ' H' s'/\Q σ' H') X.xe s
def E5 (X:Cx) (ts:List Expr) (t:Zg):Prop:=∀(pins:List (aQ×Obj)) (s:aV) (σ:St) (H:Hp) (vs:List V) (us:List Value) (Q:St->Hp->Prop),dH X pins σ H s->gB vs us->t vs σ H Q->bJ (cC X.prog X.w) X.A (assignInOrder ((RO ts X.env).map (·.2)) us) (fun _ s'=>∃σ' H',dH X pins σ' H' s'/\Q σ' H') X.xe s
noncomputable abbrev F4:=V->V->Hp->VK->Prop
def K9 (X:Cx) (op:Operator) (t:F4):Prop:=∀(pins:List (aQ×Obj)) (s:aV) (σ:St) (H:Hp) (x y:V) (v u:Value) (Q:VK),dH X pins σ H s->gN x v->gN y u->t x y H Q->bJ (cC X.prog X.w) X.A (inplaceOp op v u) (EP X pins σ Q) X.xe s
section
variable {X:Cx} {pos:Pos}
noncomputable def SY (i:Nat):TG:=fun v σ H Q=>Q (σ.set i (some v)) H
theorem fC (hN:X.N.Nodup) (hi:X.N[i]?=some x) (hx:Xa X.env.scope x) (hf:X.fn x=true\/X.env.scope.names.lookup x=some .local:=by first | exact .inl rfl | exact .inr rfl | assumption):PG X (.Name x pos) (SY i):=by intro pins s σ H v u Q I r h;exact wpAny_assign_Name (EV I hN hi hx r (fun s' I'=>⟨_,H,I',h⟩) hf)
noncomputable def Zu:Zg:=fun vs σ H Q=>vs=[]/\Q σ H
noncomputable def Rt (t:TG) (u:Zg):Zg:=fun vs σ H Q=>∃v r,vs=v::r/\t v σ H fun σ' H'=>u r σ' H' Q
theorem BP:E5 X [] Zu:=by intro pins s σ H vs us Q I r h;obtain⟨e,h⟩:=h;subst e;cases r;exact assignInOrder_nil ⟨σ,H,I,h⟩
theorem lG (h1:PG X e t) (h2:E5 X es u)
  (hs:(RO (e::es) X.env).map (·.2)=assign e X.env::(RO es X.env).map (·.2):=by rfl):E5 X (e::es) (Rt t u):=by
 intro pins s σ H vs us Q I r h;obtain⟨v,vr,e1,h⟩:=h;subst e1;cases r with
 | cons r rr=>rw[hs];refine assignInOrder_cons (kY (h1 pins s σ H _ _ _ I r h) fun _ s1 ⟨σ1,H1,I1,q1⟩=>?_);exact h2 pins s1 σ1 H1 _ _ Q I1 rr q1
noncomputable def Zv (K:aB) (n:Nat) (t:Zg):TG:=fun v σ H Q=>∃a xs,v=.ref a/\fK K H a xs/\xs.length=n/\t xs σ H Q
theorem JD (hc:X.calm=true) (h:E5 X es t)
  (hn:(RO es X.env).length=n:=by rfl) (hst:(RO es X.env).findIdx? (·.1)=none:=by rfl):PG X (.Tuple es k pos) (Zv X.K n t):=by
 intro pins s σ H v u Q I r hw;obtain⟨a,xs,e1,hq,hl,hw⟩:=hw;subst e1;cases r;obtain⟨eG,rv,ht,hz⟩:=I.tuple hq;refine assign_Tuple_tuple (I.ok.hd hc) ht (by simp[hn,<-hl,rv.length]) hst fun h' hx=>?_;have I1:dH X pins σ H {s with heap:=h'}:=I.kept (t':=s.toks) fun b o e=>hx b o (eK (bY e)) e;exact h pins _ σ H xs _ Q I1 (by simpa using rv) hw
noncomputable def D0 (te:TE) (g:TG):TS:=fun D σ H=>te σ H fun x H1=>g x σ H1 D.nx
theorem cM (hN:X.N.Nodup) (hi:X.N[i]?=some x) (hx:Xa X.env.scope x) (he:PE X e te) (hs:wT e (some (.Name x pos')) pos.line X.env=pure false:=by rfl) (hf:X.fn x=true\/X.env.scope.names.lookup x=some .local:=by first | exact .inl rfl | exact .inr rfl | assumption):
  PS X (.Assign [.Name x pos'] e pos) (D0 te (SY i)):=by
 intro pins s σ H D I h;refine WQ (kY (he pins s σ H _ I h) fun v s1 ⟨y,H1,I1,r1,q1⟩=>?_) hs;exact EV I1 hN hi hx r1 (fun s2 I2=>⟨_,H1,I2,q1⟩) hf
noncomputable def J7 (i:Nat) (te:TE) (ti:F4):TS:=fun D σ H=>∃x,σ[i]?=some (some x)/\te σ H fun y H1=>ti x y H1 fun z H2=>D.nx (σ.set i (some z)) H2
theorem Sz (hN:X.N.Nodup) (hi:X.N[i]?=some x) (hx:Xa X.env.scope x) (he:PE X e te) (ho:K9 X op ti) (hf:X.fn x=true\/X.env.scope.names.lookup x=some .local:=by first | exact .inl rfl | exact .inr rfl | assumption):
  PS X (.AugAssign (.Name x pos') op e pos) (J7 i te ti):=by
 intro pins s σ H D I h;obtain⟨v,e1,h⟩:=h;obtain⟨m,hn,hl⟩:=I.loc;have vis:Yw X.env.scope x:=by rcases hx with k | k;exact .inl k;exact .inr (.inl k)
 obtain⟨u,r,l⟩:=hl i x v hi e1 vis;refine wpAny_AugAssign_Name ?_;have go:bJ (cC X.prog X.w) X.A (hX e X.env) (fun w s₂=>bJ (cC X.prog X.w) X.A (inplaceOp op u w) (fun r s₃=>bJ (cC X.prog X.w) X.A (storeName X.env x r) (fun _=>SP X pins D .next) X.xe s₃) X.xe s₂) X.xe s:=by refine kY (he pins s σ H _ I h) fun w s1 ⟨y,H1,I1,r1,q1⟩=>?_;refine kY (ho pins s1 σ H1 v y u w _ I1 r r1 q1) fun z s2 ⟨zv,H2,I2,r2,q2⟩=>?_;exact EV I2 hN hi hx r2 (fun s3 I3=>⟨_,H2,I3,q2⟩) hf
 rcases l with⟨hk,hm⟩ | ⟨hk,c,hc,hcell⟩
 ·exact wpAny_loadName_local I.ok.kind hk hn hm go
 ·rcases hk with hk | hk
  ·exact wpAny_loadName_cell I.ok.kind hk hc hcell go
  ·rcases hx with k | k
   ·have:X.env.scope.names.lookup x=some .free:=hk;rw[k]at this;cases this
   ·have:X.env.scope.names.lookup x=some .free:=hk;rw[k]at this;cases this
noncomputable def L8 (f:Int->Int->Int):F4:=fun x y H Q=>∃i j,x=.int i/\y=.int j/\Q (.int (f i j)) H
theorem Rx:K9 X .Add (L8 fun i j=>i+j):=by intro pins s σ H x y v u Q I r1 r2 h;obtain⟨i,j,e1,e2,q⟩:=h;subst e1;subst e2;obtain⟨t,rfl⟩:=r1;obtain⟨t',rfl⟩:=r2;exact iadd_int ⟨.int _,H,I.tok _,⟨_,rfl⟩,q⟩
end
section
variable {X:Cx} {pos:Pos}
noncomputable def Yk (c:TT) (tb:TS):TS:=fun D σ H=>∃W:Nat->St->Hp->Prop,(∃m,W m σ H)/\∀m σ H,W m σ H->c σ H fun b H1=>if b=true then ∃N:St->Hp->Prop,(∀σ' H',N σ' H'->∃m',m' < m/\W m' σ' H')/\tb {D with nx:=N,ct:=N,bk:=D.nx} σ H1 else D.nx σ H1
theorem AD (hp:PassesOwn (cC X.prog X.w) X.A X.env X.xe) (hc:PT X c tc) (hb:Qn X body tb):PS X (.While c body [] pos) (Yk tc tb):=by
 intro pins s σ H D I h;obtain⟨W,⟨m0,w0⟩,turn⟩:=h;refine wpAny_While (codeAny_whileLoop (fun n s'=>∃σ' H',dH X pins σ' H' s'/\W n σ' H') ?_ m0 ⟨σ,H,I,w0⟩);rintro n s1 ⟨σ1,H1,I1,w1⟩;refine pV hp (kY (hc pins s1 σ1 H1 _ I1 (turn n σ1 H1 w1)) fun b s2 ⟨H2,I2,q2⟩=>?_);cases b with
 | true=>
  obtain⟨N,hN,q2⟩:=q2;rw[if_pos rfl];refine pV hp (kY (hb pins s2 σ1 H2 _ I2 q2) fun f s3 q3=>?_);cases f with
  | next=>obtain⟨σ3,H3,I3,n3⟩:=q3;obtain⟨m',hm,w3⟩:=hN σ3 H3 n3;exact⟨m',hm,σ3,H3,I3,w3⟩
  | cont=>obtain⟨σ3,H3,I3,n3⟩:=q3;obtain⟨m',hm,w3⟩:=hN σ3 H3 n3;exact⟨m',hm,σ3,H3,I3,w3⟩
  | brk=>exact q3
  | ret v=>exact q3
 | false=>rw[if_neg cH];exact tV ⟨σ1,H2,I2,q2⟩
end
structure It where
 go:Nat->Hp->Prop
 yld:Nat->Hp->V->Hp->Prop
 stop:Nat->Hp->Prop
def DN (X:Cx) (pins:List (aQ×Obj)) (H:Hp) (b:aQ):Prop:=H b=none/\b≠X.env.locals/\b∉X.fs/\(b∈X.ex\/X.s_0.heap.objs.size<=b)/\(∀x c,X.env.cells.lookup x=some c->c≠b)/\∀p∈X.pn++pins,p.1≠b
theorem dH.fpOk (I:dH X pins σ H s) (hb:s.heap.objs.size<=b) (hn:H' b=none):DN X pins H' b:=by
 refine⟨hn,DC (bZ I.lt hb),I.nofs hb,.inr (bI I.sz hb),fun x c e z=>?_,fun p hp z=>?_⟩
 ·obtain⟨v,q⟩:=I.cell x c e;exact absurd (bZ q.lt (by rw[z];exact hb)) (eZ _)
 ·exact absurd (bZ (bY (I.pin p hp).1) (by rw[z];exact hb)) (eZ _)
structure WZ (P:dF) (w:eW) (K:aB) (tg:Expr) (J:It) (fp:List aQ) (it:aQ) (tn:Nat->gF->Prop):Prop where
 mem:it∈fp
 obj:∀i h,tn i h->∀b∈fp,∃o,h.get? b=some o/\∀v,o.data≠.cell v
 keep:∀i h h',tn i h->(∀b∈fp,∀o,h.get? b=some o->h'.get? b=some o)->tn i h'
 item:∀(X:Cx),X.prog=P->X.w=w->X.K=K->X.calm=true->∀(i:Nat) (pins:List (aQ×Obj)) (s:aV) (σ:St) (H:Hp) (E:Value->aV->Prop),dH X pins σ H s->(∀b∈fp,DN X pins H b)->tn i s.heap->J.go i H->
  bJ (cC P w) X.A (DI (.ref it)) (fun r s1=>∃u,r=some u/\
   bJ (cC P w) X.A (JP tg (.ref it) u) (fun _ s2=>∃x H',dH X pins σ H' s2/\gN x u/\J.yld i H x H'/\tn (i+1) s2.heap/\∀b∈fp,H' b=none) E s1) E s
 done:∀(X:Cx),X.prog=P->X.w=w->X.K=K->X.calm=true->∀(i:Nat) (pins:List (aQ×Obj)) (s:aV) (σ:St) (H:Hp) (E:Value->aV->Prop),dH X pins σ H s->(∀b∈fp,DN X pins H b)->tn i s.heap->J.stop i H->
  bJ (cC P w) X.A (DI (.ref it)) (fun r s1=>r=none/\dH X pins σ H s1) E s
 self:∀(A:jW) (i:Nat) (s:aV) (Q:Value->aV->Prop) (E:Value->aV->Prop),tn i s.heap->Q (.ref it) s->bJ (cC P w) A (pyIter (.ref it)) Q E s
noncomputable abbrev TI:=St->Hp->(It->Hp->Prop)->Prop
def F3 (X:Cx) (pins:List (aQ×Obj)) (σ:St) (tg:Expr) (R:It->Hp->Prop) (itv:Value) (s2:aV):Prop:=∃(it:aQ) (fp:List aQ) (tn:Nat->gF->Prop) (J:It) (H':Hp),itv=.ref it/\dH X pins σ H' s2/\WZ X.prog X.w X.K tg J fp it tn/\tn 0 s2.heap/\(∀b∈fp,DN X pins H' b)/\R J H'
def PI (X:Cx) (tg iter:Expr) (wi:TI):Prop:=∀(pins:List (aQ×Obj)) (s:aV) (σ:St) (H:Hp) (R:It->Hp->Prop),dH X pins σ H s->wi σ H R->bJ (cC X.prog X.w) X.A (hX iter X.env) (fun v s1=>bJ (cC X.prog X.w) X.A (pyIter v) (F3 X pins σ tg R) X.xe s1) X.xe s
theorem YQ (ho:s.heap.get? it=some o) (hc:o.cls=.type n) (hd:o.data=.fields vs)
  (hn:["enumerate","zip","dict_itemiterator","dict_reverseitemiterator","odict_iterator","itertools.zip_longest","itertools.pairwise"].contains n=false) (hQ:Q () s):bJ M A (JP tg (.ref it) u) Q E s:=by
 unfold JP
 cases tg<;>first
  | exact aZ hQ
  | (cases u<;>first
      | exact aZ hQ
      | (refine aF (wpAny_load ho ?_)
         rw[hc,hd]
         show bJ M A (if (["enumerate","zip","dict_itemiterator","dict_reverseitemiterator","odict_iterator","itertools.zip_longest","itertools.pairwise"].contains n && vs[0]? == some (Ap _))=true then _ else _) Q E s
         rw[if_neg (by intro h;rw[hn,Bool.false_and]at h;cases h)]
         exact aZ hQ))
noncomputable def Wi (K:aB) (a:aQ):It:=⟨fun i H=>∃xs x,hJ K H a xs/\xs[i]?=some x,fun i H x H'=>H'=H/\∀xs,hJ K H a xs->xs[i]?=some x,fun i H=>∃xs,hJ K H a xs/\xs.length<=i⟩
noncomputable def Qv (K:aB) (a:aQ):It:=⟨fun i H=>∃xs x,fK K H a xs/\xs[i]?=some x,fun i H x H'=>H'=H/\∀xs,fK K H a xs->xs[i]?=some x,fun i H=>∃xs,fK K H a xs/\xs.length<=i⟩
noncomputable def Yq (lo:Int) (n:Nat):It:=⟨fun i _=>i < n,fun i H x H'=>H'=H/\x=.int (lo+i),fun i _=>n<=i⟩
theorem Pp {P:dF} {w:eW} {K:aB} {tg:Expr} (a it:aQ):WZ P w K tg (Wi K a) [it] it (fun i h=>h.IsListIter it a i) where
 mem:=by simp
 obj:=fun i h st b hb=>by
  have e:b=it:=by simpa using hb
  subst e;obtain⟨o,e,c,d⟩:=st;exact⟨o,e,fun v z=>by rw[d]at z;cases z⟩
 keep:=fun i h h' st k=>st.at fun o e=>k it (by simp) o e
 item:=by intro X hP hw hK hc i pins s σ H E I hf st hg;subst hP hw hK;obtain⟨xs,x,hq,hx⟩:=hg;obtain⟨eG,rv,p,hz⟩:=I.list hq;obtain⟨u,hu,ru⟩:=rv.get hx;obtain⟨f0,f1,f2,f3,f4,f5⟩:=hf it (by simp);refine wpAny_pyNext_list_item st p.isList (x:=u) (by simpa using hu) fun h' st' sb=>?_;have I1:dH X pins σ H {s with heap:=h'}:=I.turned (t':=s.toks) (fun b o hb e=>(sb.2 b hb).trans e) f0 f1 f3 f4 f5;obtain⟨o,e,c,d⟩:=id st';exact⟨u,rfl,YQ (s:={s with heap:=h'}) e c d (by decide) ⟨x,H,I1,ru,⟨rfl,fun ys hy=>by rw[I.list_inj hy hq];exact hx⟩,st',fun b hb=>(hf b hb).1⟩⟩
 done:=by intro X hP hw hK hc i pins s σ H E I hf st hg;subst hP hw hK;obtain⟨xs,hq,hx⟩:=hg;obtain⟨eG,rv,p,hz⟩:=I.list hq;obtain⟨f0,f1,f2,f3,f4,f5⟩:=hf it (by simp);have hl:=rv.length;exact wpAny_pyNext_list_end (I.ok.hd hc) st p.isList (by simp;omega) fun h' eb=>⟨rfl,I.turned (t':=s.toks) (fun b o hb e=>eb b o hb e) f0 f1 f3 f4 f5⟩
 self:=fun _ _ _ _ _ st h=>wpAny_pyIter_listiter st h
theorem Kg {P:dF} {w:eW} {K:aB} {tg:Expr} (a it:aQ):WZ P w K tg (Qv K a) [it] it (fun i h=>h.IsTupleIter it a i) where
 mem:=by simp
 obj:=fun i h st b hb=>by
  have e:b=it:=by simpa using hb
  subst e;obtain⟨o,e,c,d⟩:=st;exact⟨o,e,fun v z=>by rw[d]at z;cases z⟩
 keep:=fun i h h' st k=>st.at fun o e=>k it (by simp) o e
 item:=by intro X hP hw hK hc i pins s σ H E I hf st hg;subst hP hw hK;obtain⟨xs,x,hq,hx⟩:=hg;obtain⟨eG,rv,p,hz⟩:=I.tuple hq;obtain⟨u,hu,ru⟩:=rv.get hx;obtain⟨f0,f1,f2,f3,f4,f5⟩:=hf it (by simp);refine wpAny_pyNext_tuple_item st (show s.heap.IsTuple a eG.toArray from p) (x:=u) (by simpa using hu) fun h' st' sb=>?_;have I1:dH X pins σ H {s with heap:=h'}:=I.turned (t':=s.toks) (fun b o hb e=>(sb.2 b hb).trans e) f0 f1 f3 f4 f5;obtain⟨o,e,c,d⟩:=id st';exact⟨u,rfl,YQ (s:={s with heap:=h'}) e c d (by decide) ⟨x,H,I1,ru,⟨rfl,fun ys hy=>by rw[I.tuple_inj hy hq];exact hx⟩,st',fun b hb=>(hf b hb).1⟩⟩
 done:=by intro X hP hw hK hc i pins s σ H E I hf st hg;subst hP hw hK;obtain⟨xs,hq,hx⟩:=hg;obtain⟨eG,rv,p,hz⟩:=I.tuple hq;obtain⟨f0,f1,f2,f3,f4,f5⟩:=hf it (by simp);have hl:=rv.length;exact wpAny_pyNext_tuple_end (I.ok.hd hc) st (show s.heap.IsTuple a eG.toArray from p) (by simp;omega) fun h' eb=>⟨rfl,I.turned (t':=s.toks) (fun b o hb e=>eb b o hb e) f0 f1 f3 f4 f5⟩
 self:=fun _ _ _ _ _ st h=>wpAny_pyIter_tupleiter st h
theorem Kf {P:dF} {w:eW} {K:aB} {tg:Expr} (it:aQ) (lo:Int) (n:Nat):WZ P w K tg (Yq lo n) [it] it (fun i h=>Dd h it (lo+(i:Nat) * 1) ((n:Int) - (i:Nat)) 1) where
 mem:=by simp
 obj:=fun i h st b hb=>by
  have e:b=it:=by simpa using hb
  subst e;exact⟨_,st,fun v z=>by have z':Data.fields _=Data.cell v:=z;cases z'⟩
 keep:=fun i h h' st k=>k it (by simp) _ st
 item:=by intro X hP hw hK hc i pins s σ H E I hf st hg;subst hP hw hK;obtain⟨f0,f1,f2,f3,f4,f5⟩:=hf it (by simp);have W:=Walks.range (prog:=X.prog) (w:=X.w) (I.ok.hd hc) it lo 1 n;refine W.item i s _ _ hg st fun v h' tk hv st' kk=>?_;obtain⟨t,rfl⟩:=hv;have I1:dH X pins σ H {s with heap:=h',toks:=tk}:=I.turned (fun b o hb e=>kk b o (by simpa using hb) e) f0 f1 f3 f4 f5;refine⟨_,rfl,YQ (s:={s with heap:=h',toks:=tk}) (n:="range_iterator") st' rfl rfl (by decide) ⟨.int (lo+i),H,I1,⟨t,?_⟩,⟨rfl,rfl⟩,st',fun b hb=>(hf b hb).1⟩⟩;rw[Int.mul_one]
 done:=by intro X hP hw hK hc i pins s σ H E I hf st hg;subst hP hw hK;obtain⟨f0,f1,f2,f3,f4,f5⟩:=hf it (by simp);exact wpAny_pyNext_range_end (I.ok.hd hc) st (by have:n<=i:=hg;omega) fun h' eb=>⟨rfl,I.turned (t':=s.toks) (fun b o hb e=>eb b o hb e) f0 f1 f3 f4 f5⟩
 self:=fun _ _ _ _ _ st h=>wpAny_pyIter_rangeiter st h
section
variable {X:Cx} {tg:Expr}
noncomputable def Zx (K:aB) (tl:TE):TI:=fun σ H R=>tl σ H fun x H1=>∃a,x=.ref a/\(∃xs,hJ K H1 a xs)/\R (Wi K a) H1
noncomputable def G1 (K:aB) (tl:TE):TI:=fun σ H R=>tl σ H fun x H1=>∃a,x=.ref a/\(∃xs,fK K H1 a xs)/\R (Qv K a) H1
theorem RF {l:Expr} {tl:TE} (hl:PE X l tl):PI X tg l (Zx X.K tl):=by
 intro pins s σ H R I h;refine kY (hl pins s σ H _ I h) fun v s1 ⟨x,H1,I1,r1,q1⟩=>?_;obtain⟨a,e,⟨xs,hq⟩,q⟩:=q1;subst e;cases r1;obtain⟨eG,rv,p,hz⟩:=I1.list hq;refine WR p.isList ?_;refine⟨s1.heap.objs.size,[s1.heap.objs.size],_,_,H1,rfl,I1.kept (t':=s1.toks) fun b o e=>aG _ e,Pp a _,⟨_,bQ _ rfl,rfl,rfl⟩,fun b hb=>?_,q⟩;have e:b=s1.heap.objs.size:=by simpa using hb
 subst e;exact I1.fpOk (aR _) (I1.hok.fresh (aR _))
theorem BQ {l:Expr} {tl:TE} (hl:PE X l tl):PI X tg l (G1 X.K tl):=by
 intro pins s σ H R I h;refine kY (hl pins s σ H _ I h) fun v s1 ⟨x,H1,I1,r1,q1⟩=>?_;obtain⟨a,e,⟨xs,hq⟩,q⟩:=q1;subst e;cases r1;obtain⟨eG,rv,p,hz⟩:=I1.tuple hq;refine pG (show s1.heap.IsTuple a eG.toArray from p) ?_;refine⟨s1.heap.objs.size,[s1.heap.objs.size],_,_,H1,rfl,I1.kept (t':=s1.toks) fun b o e=>aG _ e,Kg a _,⟨_,bQ _ rfl,rfl,rfl⟩,fun b hb=>?_,q⟩;have e:b=s1.heap.objs.size:=by simpa using hb
 subst e;exact I1.fpOk (aR _) (I1.hok.fresh (aR _))
theorem Tb {pins:List (aQ×Obj)} {σ:St} {H:Hp} {s:aV} {R:It->Hp->Prop} {E:Value->aV->Prop} {lo hi:Int} {t u v:Tok} {tk:Nat} (I:dH X pins σ H s) (h1: -(2 ^ 62)<=lo) (h2:lo < 2 ^ 62) (h3: -(2 ^ 62)<=hi) (h4:hi < 2 ^ 62)
  (q:R (Yq lo (hi - lo).toNat) H):bJ (cC X.prog X.w) X.A (pyIter (.ref s.heap.objs.size)) (F3 X pins σ tg R) E {s with heap:=s.heap.push {cls:=.type "range",data:=.fields #[.int lo t,.int hi u,.int 1 v]},toks:=tk}:=by
 refine wpAny_pyIter_range (IsRange.new ..) (small_one h1 h2 h3 h4) ?_;have I1:dH X pins σ H {s with heap:=s.heap.push {cls:=.type "range",data:=.fields #[.int lo t,.int hi u,.int 1 v]},toks:=tk}:=I.kept fun b o e=>aG _ e;refine⟨(s.heap.push {cls:=.type "range",data:=.fields #[.int lo t,.int hi u,.int 1 v]}).objs.size,[(s.heap.push {cls:=.type "range",data:=.fields #[.int lo t,.int hi u,.int 1 v]}).objs.size],_,_,H,rfl,I1.kept (t':=tk) fun b o e=>aG _ e,Kf _ lo (hi - lo).toNat,?_,fun b hb=>?_,q⟩
 ·have e1:lo+((0:Nat):Int) * 1=lo:=by simp
  have e2:(((hi - lo).toNat:Nat):Int) - ((0:Nat):Int)=wR lo hi 1:=by rw[rangeSize_one];split<;>omega
  show Dd _ _ (lo+((0:Nat):Int) * 1) ((((hi - lo).toNat:Nat):Int) - ((0:Nat):Int)) 1;rw[e1,e2];exact bQ _ rfl
 ·have e:b=(s.heap.push {cls:=.type "range",data:=.fields #[.int lo t,.int hi u,.int 1 v]}).objs.size:=by simpa using hb
  subst e;exact I1.fpOk (aR _) (I1.hok.fresh (aR _))
noncomputable def Zy (ta:TA):TI:=fun σ H R=>ta σ H fun vs H1=>∃j:Int,vs=[.int j]/\ -(2 ^ 62)<=j/\j < 2 ^ 62/\R (Yq 0 j.toNat) H1
theorem Oy {a:Expr} {ta:TA} {p pos:Pos} (hg:Gl X "range") (hm:X.mg "range"=none) (ha:PA X [a] ta) (hs:bO [a] X.env=[(false,hX a X.env)]:=by rfl):PI X tg (.Call (.Name "range" p) [a] [] pos) (Zy ta):=by
 intro pins s σ H R I h;refine Qb (uG I hg hm boot_range (fW (kY (ha pos pins s σ H _ I h) fun us s1 ⟨vs,H1,I1,r1,q1⟩=>?_) hs rfl));obtain⟨j,e,q1,q2,q⟩:=q1;subst e;cases r1 with
 | cons r rr=>cases rr;obtain⟨t,rfl⟩:=r;exact call_range_1 (Tb I1 (by omega) (by omega) q1 q2 (by simpa using q))
noncomputable def J9 (wi:TI) (g:TG) (tb:TS):TS:=fun D σ H=>wi σ H fun J H1=>∃W:Nat->Nat->St->Hp->Prop,(∃m,W 0 m σ H1)/\∀i m σ H,W i m σ H->(J.stop i H/\D.nx σ H)\/(J.go i H/\∃N:St->Hp->Prop,(∀σ' H',N σ' H'->∃m',m' < m/\W (i+1) m' σ' H')/\∀x H',J.yld i H x H'->g x σ H' fun σ2 H2=>tb {D with nx:=N,ct:=N,bk:=D.nx} σ2 H2)
noncomputable def VB (fp:List aQ) (h:gF):List (aQ×Obj):=fp.filterMap fun b=>(h.get? b).map fun o=>(b,o)
theorem rQ (hb:b∈fp) (e:h.get? b=some o):(b,o)∈VB fp h:=MT.mpr ⟨b,hb,by rw[e];rfl⟩
theorem Os (hp:p∈VB fp h):p.1∈fp/\h.get? p.1=some p.2:=by
 obtain⟨b,hb,e⟩:=MT.mp hp;cases q:h.get? b with
 | none=>rw[q]at e;cases e
 | some o=>rw[q]at e;have e':(b,o)=p:=cP e;subst e';exact⟨hb,q⟩
theorem dH.pinned (I:dH X pins σ H s) (hf:∀b∈fp,DN X pins H b) (ho:∀b∈fp,∃o,s.heap.get? b=some o/\∀v,o.data≠.cell v):dH X (pins++VB fp s.heap) σ H s:=I.pins_of fun p hp=>(eJ.mp hp).elim (fun z=>I.pin p (cT _ z)) fun z=>by obtain⟨hb,e⟩:=Os z;obtain⟨f0,f1,f2,_⟩:=hf p.1 hb;obtain⟨o,e',d⟩:=ho p.1 hb;rw[e]at e';cases e';exact⟨e,f0,f1,f2,d⟩
theorem dH.unpinned (I:dH X (pins++pl) σ H s):dH X pins σ H s:=I.pins_of fun p hp=>I.pin p (cT _ (Kn _ hp))
theorem pP (hp:PassesOwn (cC X.prog X.w) X.A X.env X.xe) (hc:X.calm=true) (hi:PI X tg iter wi) (hg:PG X tg g) (hb:Qn X body tb)
  (hs:∀x,DA iter X.env x=pure x:=by intro _;rfl):PS X (.For tg iter body [] pos) (J9 wi g tb):=by
 intro pins s σ H D I h;refine wpAny_For (kY (hi pins s σ H _ I h) fun v s1 h1=>kY h1 fun itv s2 h2=>?_) hs;obtain⟨it,fp,tn,J,H2,e,I2,T,st2,f2,W,⟨m0,w0⟩,turn⟩:=h2;subst e;have stat:∀{H':Hp},(∀b∈fp,H' b=none)->∀b∈fp,DN X pins H' b:=fun hn b hb=>⟨hn b hb,(f2 b hb).2⟩;refine codeAny_forLoop_any (fun n s'=>∃i σ' H',dH X pins σ' H' s'/\tn i s'.heap/\(∀b∈fp,H' b=none)/\W i n σ' H') ?_ m0 ⟨0,σ,H2,I2,st2,fun b hb=>(f2 b hb).1,w0⟩;rintro n s3 ⟨i,σ3,H3,I3,st3,fr3,w3⟩;rcases turn i n σ3 H3 w3 with⟨stop,qn⟩ | ⟨go,N,hN,step⟩
 ·refine pV hp (kY (T.done X rfl rfl rfl hc i pins s3 σ3 H3 X.xe I3 (stat fr3) st3 stop) fun r s4 ⟨hr,I4⟩=>?_);subst hr;exact tV ⟨σ3,H3,I4,qn⟩
 ·refine pV hp (kY (T.item X rfl rfl rfl hc i pins s3 σ3 H3 X.xe I3 (stat fr3) st3 go) fun r s4 ⟨u,hr,h4⟩=>?_);subst hr;refine pV hp (kY h4 fun _ s5 ⟨x,H5,I5,r5,y5,st5,fr5⟩=>?_);have I5':=I5.pinned (stat fr5) (T.obj _ _ st5);refine pV hp (kY (hg _ s5 σ3 H5 x u _ I5' r5 (step x H5 y5)) fun _ s6 ⟨σ6,H6,I6,q6⟩=>?_);refine pV hp (kY (hb _ s6 σ6 H6 _ I6 q6) fun f s7 q7=>?_);have again:∀{σ7:St} {H7:Hp},dH X (pins++VB fp s5.heap) σ7 H7 s7->N σ7 H7->∃m,m < n/\∃i σ' H',dH X pins σ' H' s7/\tn i s7.heap/\(∀b∈fp,H' b=none)/\W i m σ' H':=fun {σ7 H7} I7 n7=>by obtain⟨m',hm,w7⟩:=hN σ7 H7 n7;refine⟨m',hm,i+1,σ7,H7,I7.unpinned,T.keep _ _ _ st5 fun b hb o e=>(I7.pin (b,o) (cT _ (cT _ (rQ hb e)))).1,fun b hb=>?_,w7⟩;obtain⟨o,e,d⟩:=T.obj _ _ st5 b hb;exact(I7.pin (b,o) (cT _ (cT _ (rQ hb e)))).2.1
  cases f with
  | next=>obtain⟨σ7,H7,I7,n7⟩:=q7;exact again I7 n7
  | cont=>obtain⟨σ7,H7,I7,n7⟩:=q7;exact again I7 n7
  | brk=>obtain⟨σ7,H7,I7,q7⟩:=q7;exact⟨σ7,H7,I7.unpinned,q7⟩
  | ret v=>obtain⟨x7,σ7,H7,I7,r7,q7⟩:=q7;exact⟨x7,σ7,H7,I7.unpinned,r7,q7⟩
end
theorem SW {K:aB} {a:aQ} {xs:List V} {g:TG} {tb:TS} {D:IL} {σ:St} {H:Hp} (Pv:Nat->St->Hp->Prop) (h0:Pv 0 σ H) (hl:∀i σ H,i<=xs.length->Pv i σ H->hJ K H a xs)
  (hs:∀i x σ H,xs[i]?=some x->Pv i σ H->g x σ H fun σ2 H2=>tb {D with nx:=Pv (i+1),ct:=Pv (i+1),bk:=D.nx} σ2 H2) (hd:∀σ H,Pv xs.length σ H->D.nx σ H):
  ∃W:Nat->Nat->St->Hp->Prop,(∃m,W 0 m σ H)/\∀i m σ H,W i m σ H->
   ((Wi K a).stop i H/\D.nx σ H)\/((Wi K a).go i H/\∃N:St->Hp->Prop,(∀σ' H',N σ' H'->∃m',m' < m/\W (i+1) m' σ' H')/\∀x H',(Wi K a).yld i H x H'->g x σ H' fun σ2 H2=>tb {D with nx:=N,ct:=N,bk:=D.nx} σ2 H2):=by
 refine⟨fun i m σ H=>m=xs.length - i/\i<=xs.length/\Pv i σ H,⟨xs.length,by simp,aY _,h0⟩,?_⟩;rintro i m σ H ⟨rfl,hi,p⟩;have q:=hl i σ H hi p;by_cases hlt:i < xs.length
 ·refine .inr ⟨⟨xs,xs[i],q,by simp[hlt]⟩,Pv (i+1),fun σ' H' p'=>⟨xs.length - (i+1),by omega,rfl,hlt,p'⟩,fun x H' y=>?_⟩;obtain⟨e,y⟩:=y;subst e;exact hs i x σ _ (y xs q) p
 ·have e:i=xs.length:=by omega
  subst e;exact .inl ⟨⟨xs,q,aR _⟩,hd σ H p⟩
theorem QY {K:aB} {a:aQ} {xs:List V} {g:TG} {tb:TS} {D:IL} {σ:St} {H:Hp} (Pv:Nat->St->Hp->Prop) (h0:Pv 0 σ H) (hl:∀i σ H,i<=xs.length->Pv i σ H->fK K H a xs)
  (hs:∀i x σ H,xs[i]?=some x->Pv i σ H->g x σ H fun σ2 H2=>tb {D with nx:=Pv (i+1),ct:=Pv (i+1),bk:=D.nx} σ2 H2) (hd:∀σ H,Pv xs.length σ H->D.nx σ H):
  ∃W:Nat->Nat->St->Hp->Prop,(∃m,W 0 m σ H)/\∀i m σ H,W i m σ H->
   ((Qv K a).stop i H/\D.nx σ H)\/((Qv K a).go i H/\∃N:St->Hp->Prop,(∀σ' H',N σ' H'->∃m',m' < m/\W (i+1) m' σ' H')/\∀x H',(Qv K a).yld i H x H'->g x σ H' fun σ2 H2=>tb {D with nx:=N,ct:=N,bk:=D.nx} σ2 H2):=by
 refine⟨fun i m σ H=>m=xs.length - i/\i<=xs.length/\Pv i σ H,⟨xs.length,by simp,aY _,h0⟩,?_⟩;rintro i m σ H ⟨rfl,hi,p⟩;have q:=hl i σ H hi p;by_cases hlt:i < xs.length
 ·refine .inr ⟨⟨xs,xs[i],q,by simp[hlt]⟩,Pv (i+1),fun σ' H' p'=>⟨xs.length - (i+1),by omega,rfl,hlt,p'⟩,fun x H' y=>?_⟩;obtain⟨e,y⟩:=y;subst e;exact hs i x σ _ (y xs q) p
 ·have e:i=xs.length:=by omega
  subst e;exact .inl ⟨⟨xs,q,aR _⟩,hd σ H p⟩
theorem Oe {lo:Int} {n:Nat} {g:TG} {tb:TS} {D:IL} {σ:St} {H:Hp} (Pv:Nat->St->Hp->Prop) (h0:Pv 0 σ H)
  (hs:∀i σ H,i < n->Pv i σ H->g (.int (lo+i)) σ H fun σ2 H2=>tb {D with nx:=Pv (i+1),ct:=Pv (i+1),bk:=D.nx} σ2 H2) (hd:∀σ H,Pv n σ H->D.nx σ H):
  ∃W:Nat->Nat->St->Hp->Prop,(∃m,W 0 m σ H)/\∀i m σ H,W i m σ H->
   ((Yq lo n).stop i H/\D.nx σ H)\/((Yq lo n).go i H/\∃N:St->Hp->Prop,(∀σ' H',N σ' H'->∃m',m' < m/\W (i+1) m' σ' H')/\∀x H',(Yq lo n).yld i H x H'->g x σ H' fun σ2 H2=>tb {D with nx:=N,ct:=N,bk:=D.nx} σ2 H2):=by
 refine⟨fun i m σ H=>m=n - i/\i<=n/\Pv i σ H,⟨n,by simp,aY _,h0⟩,?_⟩;rintro i m σ H ⟨rfl,hi,p⟩;by_cases hlt:i < n
 ·refine .inr ⟨hlt,Pv (i+1),fun σ' H' p'=>⟨n - (i+1),by omega,rfl,hlt,p'⟩,fun x H' y=>?_⟩;obtain⟨e,y⟩:=y;subst e y;exact hs i σ _ hlt p
 ·have e:i=n:=by omega
  subst e;exact .inl ⟨aR _,hd σ H p⟩
noncomputable abbrev R2:=V->V->Hp->VK->Prop
def Av (X:Cx) (f:Value->Value->Sem Value) (r:R2):Prop:=∀(pins:List (aQ×Obj)) (s:aV) (σ:St) (H:Hp) (x y:V) (v u:Value) (Q:VK),dH X pins σ H s->gN x v->gN y u->r x y H Q->bJ (cC X.prog X.w) X.A (f v u) (EP X pins σ Q) X.xe s
def F5 (X:Cx) (f:Value->Sem Value) (r:V->Hp->VK->Prop):Prop:=∀(pins:List (aQ×Obj)) (s:aV) (σ:St) (H:Hp) (x:V) (v:Value) (Q:VK),dH X pins σ H s->gN x v->r x H Q->bJ (cC X.prog X.w) X.A (f v) (EP X pins σ Q) X.xe s
def DK (X:Cx) (f:Value) (r:List V->Hp->VK->Prop):Prop:=∀(pins:List (aQ×Obj)) (s:aV) (σ:St) (H:Hp) (xs:List V) (us:List Value) (Q:VK),dH X pins σ H s->gB xs us->r xs H Q->bJ (cC X.prog X.w) X.A (call f us) (EP X pins σ Q) X.xe s
noncomputable def D5 (r:R2) (ta tb:TE):TE:=fun σ H Q=>ta σ H fun x H1=>tb σ H1 fun y H2=>r x y H2 Q
noncomputable def M8 (r:V->Hp->VK->Prop) (ta:TE):TE:=fun σ H Q=>ta σ H fun x H1=>r x H1 Q
noncomputable def Wu (g:Int->Int->V):R2:=fun x y H Q=>∃i j,x=.int i/\y=.int j/\Q (g i j) H
noncomputable def rU (g:Int->V):V->Hp->VK->Prop:=fun x H Q=>∃i,x=.int i/\Q (g i) H
section
variable {X:Cx} {a b c:Expr} {ta tb tc:TE} {pos:Pos}
theorem Xi (ha:PE X a ta) (hb:PE X b tb) {pins:List (aQ×Obj)} {s:aV} {σ:St} {H:Hp} {R:V->V->Hp->Prop} (I:dH X pins σ H s)
  (h:ta σ H fun x H1=>tb σ H1 fun y H2=>R x y H2) {Q:Value->aV->Prop} {f:Value->Value->Sem Value}
  (hf:∀v u s2 x y H2,dH X pins σ H2 s2->gN x v->gN y u->R x y H2->bJ (cC X.prog X.w) X.A (f v u) Q X.xe s2):
  bJ (cC X.prog X.w) X.A (hX a X.env) (fun v s₁=>bJ (cC X.prog X.w) X.A (hX b X.env) (fun u s₂=>bJ (cC X.prog X.w) X.A (f v u) Q X.xe s₂) X.xe s₁) X.xe s:=by
 refine kY (ha pins s σ H _ I h) fun v s1 ⟨x,H1,I1,r1,q1⟩=>?_;refine kY (hb pins s1 σ H1 _ I1 q1) fun u s2 ⟨y,H2,I2,r2,q2⟩=>?_;exact hf v u s2 x y H2 I2 r1 r2 q2
theorem kE {op:Operator} {r:R2} (ho:Av X (GI op) r) (ha:PE X a ta) (hb:PE X b tb):PE X (.BinOp a op b pos) (D5 r ta tb):=by intro pins s σ H Q I h;exact wpAny_BinOp (Xi ha hb I h fun v u s2 x y H2 I2 rx ry q=>ho pins s2 σ H2 x y v u Q I2 rx ry q)
theorem OU (ho:F5 X (unaryOp op) r) (ha:PE X a ta):PE X (.UnaryOp op a pos) (M8 r ta):=by intro pins s σ H Q I h;exact UnaryOp_ (kY (ha pins s σ H _ I h) fun v s1 ⟨x,H1,I1,r1,q1⟩=>ho pins s1 σ H1 x v Q I1 r1 q1)
theorem B7 {f:Value->Value->Sem Value} {g:Int->Int->Int}
  (rule:∀(i j:Int) (t u:Tok) (s:aV) (Q:Value->aV->Prop) (E:Value->aV->Prop),Q (.int (g i j) s.toks) {s with toks:=s.toks+1}->bJ (cC X.prog X.w) X.A (f (.int i t) (.int j u)) Q E s):
  Av X f (Wu fun i j=>.int (g i j)):=by
 intro pins s σ H x y v u Q I rx ry h;obtain⟨i,j,rfl,rfl,q⟩:=h;obtain⟨t,rfl⟩:=rx;obtain⟨t',rfl⟩:=ry;exact rule i j t t' s _ _ ⟨.int (g i j),H,I.tok _,⟨_,rfl⟩,q⟩
theorem Vh {f:Value->Value->Sem Value} {g:Int->Int->Bool}
  (rule:∀(i j:Int) (t u:Tok) (s:aV) (Q:Value->aV->Prop) (E:Value->aV->Prop),Q (.bool (g i j)) s->bJ (cC X.prog X.w) X.A (f (.int i t) (.int j u)) Q E s):
  Av X f (Wu fun i j=>.bl (g i j)):=by
 intro pins s σ H x y v u Q I rx ry h;obtain⟨i,j,rfl,rfl,q⟩:=h;obtain⟨t,rfl⟩:=rx;obtain⟨t',rfl⟩:=ry;exact rule i j t t' s _ _ ⟨.bl (g i j),H,I,rfl,q⟩
theorem uL:Av X (GI .Add) (Wu fun i j=>.int (i+j)):=B7 fun _ _ _ _ _ _ _ q=>add_int q
theorem Sn:Av X (GI .Sub) (Wu fun i j=>.int (i - j)):=B7 fun _ _ _ _ _ _ _ q=>sub_int q
theorem M9 {f:Value->Sem Value} {g:Int->Int}
  (rule:∀(i:Int) (t:Tok) (s:aV) (Q:Value->aV->Prop) (E:Value->aV->Prop),Q (.int (g i) s.toks) {s with toks:=s.toks+1}->bJ (cC X.prog X.w) X.A (f (.int i t)) Q E s):
  F5 X f (rU fun i=>.int (g i)):=by
 intro pins s σ H x v Q I rx h;obtain⟨i,rfl,q⟩:=h;obtain⟨t,rfl⟩:=rx;exact rule i t s _ _ ⟨.int (g i),H,I.tok _,⟨_,rfl⟩,q⟩
theorem EY:F5 X (unaryOp .USub) (rU fun i=>.int (-i)):=M9 fun _ _ _ _ _ q=>neg_int q
end
noncomputable def Yc:V->V->Bool
 | .non,.non=>true | .non,.int _=>true | .int _,.non=>true | .non,.bl _=>true | .bl _,.non=>true | .non,.str _=>true | .str _,.non=>true
 | .int _,.int _=>true | .bl _,.bl _=>true | .str _,.str _=>true | .byt _,.byt _=>true
 | .int _,.str _=>true | .str _,.int _=>true | .bl _,.str _=>true | .str _,.bl _=>true
 | _,_=>false
noncomputable def M0:R2:=fun x y H Q=>Yc x y=true/\Q (.bl (decide (x=y))) H
noncomputable def M3:R2:=fun x y H Q=>Yc x y=true/\Q (.bl (!decide (x=y))) H
theorem Lg:decide (V.int i=V.int j)=(i == j):=by rw[mB];simp
theorem Rf:decide (V.bl i=V.bl j)=(i == j):=by rw[mB];simp
theorem Lh:decide (V.str i=V.str j)=(i == j):=by rw[mB];simp
theorem Lf:decide (V.byt i=V.byt j)=(i.toList == j.toList):=by rw[mB];cases i;cases j;simp
section
variable {X:Cx} {a b c:Expr} {ta tb tc:TE} {pos:Pos}
theorem iS (I:dH X pins σ H s) (q:Q (.bl k) H) (e:k=k'):EP X pins σ Q (.bool k') s:=by subst e;exact⟨.bl k,H,I,rfl,q⟩
theorem qK:Av X (qI .Eq) M0:=by
 intro pins s σ H x y v u Q I rx ry h;obtain⟨hs,q⟩:=h;cases x with
 | non=>
  cases rx;cases y with
  | non=>cases ry;exact PySem.EqNone.eq_none_none (iS I q (by simp))
  | bl j=>cases ry;exact PySem.EqNone.eq_none_bool (iS I q (by simp))
  | int j=>obtain⟨t',rfl⟩:=ry;exact PySem.EqNone.eq_none_int (iS I q (by simp))
  | str j=>obtain⟨t',rfl⟩:=ry;exact PySem.EqNone.eq_none_str (iS I q (by simp))
  | _=>exact absurd (show false=true from hs) cH
 | bl i=>
  cases rx;cases y with
  | non=>cases ry;exact PySem.EqNone.eq_bool_none (iS I q (by simp))
  | bl j=>cases ry;exact eq_bool (iS I q Rf)
  | str j=>obtain⟨t',rfl⟩:=ry;exact PySem.EqMixed.eq_bool_str (iS I q (by simp))
  | _=>exact absurd (show false=true from hs) cH
 | int i=>
  obtain⟨t,rfl⟩:=rx;cases y with
  | non=>cases ry;exact PySem.EqNone.eq_int_none (iS I q (by simp))
  | int j=>obtain⟨t',rfl⟩:=ry;exact eq_int (iS I q Lg)
  | str j=>obtain⟨t',rfl⟩:=ry;exact PySem.EqMixed.eq_int_str (iS I q (by simp))
  | _=>exact absurd (show false=true from hs) cH
 | str i=>
  obtain⟨t,rfl⟩:=rx;cases y with
  | non=>cases ry;exact PySem.EqNone.eq_str_none (iS I q (by simp))
  | bl j=>cases ry;exact PySem.EqMixed.eq_str_bool (iS I q (by simp))
  | int j=>obtain⟨t',rfl⟩:=ry;exact PySem.EqMixed.eq_str_int (iS I q (by simp))
  | str j=>obtain⟨t',rfl⟩:=ry;exact eq_str (iS I q Lh)
  | _=>exact absurd (show false=true from hs) cH
 | byt i=>
  obtain⟨t,rfl⟩:=rx;cases y with
  | byt j=>obtain⟨t',rfl⟩:=ry;exact PySem.W.eq_bytes (iS I q Lf)
  | _=>exact absurd (show false=true from hs) cH
 | _=>cases y<;>exact absurd (show false=true from hs) cH
theorem ZF:Av X (qI .NotEq) M3:=by
 intro pins s σ H x y v u Q I rx ry h;obtain⟨hs,q⟩:=h;cases x with
 | non=>
  cases rx;cases y with
  | non=>cases ry;exact PySem.EqNone.ne_none_none (iS I q (by simp))
  | bl j=>cases ry;exact PySem.EqNone.ne_none_bool (iS I q (by simp))
  | int j=>obtain⟨t',rfl⟩:=ry;exact PySem.EqNone.ne_none_int (iS I q (by simp))
  | str j=>obtain⟨t',rfl⟩:=ry;exact PySem.EqNone.ne_none_str (iS I q (by simp))
  | _=>exact absurd (show false=true from hs) cH
 | bl i=>
  cases rx;cases y with
  | non=>cases ry;exact PySem.EqNone.ne_bool_none (iS I q (by simp))
  | bl j=>cases ry;exact ne_bool (iS I q (congrArg not Rf))
  | str j=>obtain⟨t',rfl⟩:=ry;exact PySem.EqMixed.ne_bool_str (iS I q (by simp))
  | _=>exact absurd (show false=true from hs) cH
 | int i=>
  obtain⟨t,rfl⟩:=rx;cases y with
  | non=>cases ry;exact PySem.EqNone.ne_int_none (iS I q (by simp))
  | int j=>obtain⟨t',rfl⟩:=ry;exact ne_int (iS I q (congrArg not Lg))
  | str j=>obtain⟨t',rfl⟩:=ry;exact PySem.EqMixed.ne_int_str (iS I q (by simp))
  | _=>exact absurd (show false=true from hs) cH
 | str i=>
  obtain⟨t,rfl⟩:=rx;cases y with
  | non=>cases ry;exact PySem.EqNone.ne_str_none (iS I q (by simp))
  | bl j=>cases ry;exact PySem.EqMixed.ne_str_bool (iS I q (by simp))
  | int j=>obtain⟨t',rfl⟩:=ry;exact PySem.EqMixed.ne_str_int (iS I q (by simp))
  | str j=>obtain⟨t',rfl⟩:=ry;exact ne_str (iS I q (congrArg not Lh))
  | _=>exact absurd (show false=true from hs) cH
 | byt i=>
  obtain⟨t,rfl⟩:=rx;cases y with
  | byt j=>obtain⟨t',rfl⟩:=ry;exact PySem.W.ne_bytes (iS I q (congrArg not Lf))
  | _=>exact absurd (show false=true from hs) cH
 | _=>cases y<;>exact absurd (show false=true from hs) cH
theorem OT:Av X (qI .Lt) (Wu fun i j=>.bl (decide (i < j))):=Vh fun _ _ _ _ _ _ _ q=>lt_int q
theorem OS:Av X (qI .LtE) (Wu fun i j=>.bl (decide (i<=j))):=Vh fun _ _ _ _ _ _ _ q=>le_int q
theorem CN:Av X (qI .Gt) (Wu fun i j=>.bl (decide (j < i))):=Vh fun _ _ _ _ _ _ _ q=>gt_int q
theorem B8:Av X (qI .GtE) (Wu fun i j=>.bl (decide (j<=i))):=Vh fun _ _ _ _ _ _ _ q=>ge_int q
theorem dL (b:Expr) (h:op≠.In:=by decide) (h2:op≠.NotIn:=by decide):DH op b=false:=by
 have e1:(op == CmpOp.In)=false:=by cases op<;>first | rfl | exact absurd rfl h
 have e2:(op == CmpOp.NotIn)=false:=by cases op<;>first | rfl | exact absurd rfl h2
 cases b<;>simp[DH,e1,e2]
theorem rF {op:CmpOp} {r:R2} (ho:Av X (qI op) r) (ha:PE X a ta) (hb:PE X b tb) (hm:DH op b=false):PE X (.Compare a [op] [b] pos) (D5 r ta tb):=by intro pins s σ H Q I h;exact wpAny_Compare1 (Xi ha hb I h fun v u s2 x y H2 I2 rx ry q=>ho pins s2 σ H2 x y v u Q I2 rx ry q) hm
inductive Ws (Q:Bool->Hp->Prop) (x:V) (H':Hp):Prop
 | mk (k:_):x=.bl k->Q k H'->Ws Q x H'
noncomputable def D7 (t:TE):TT:=fun σ H Q=>t σ H fun x H'=>Ws Q x H'
theorem dB (ho:Av X (qI op) r) (ha:PE X a ta) (hb:PE X b tb) (hm:DH op b=false):PT X (.Compare a [op] [b] pos) (D7 (D5 r ta tb)):=by intro pins s σ H Q I h;refine wpAny_isTrue_Compare1 (kY (ha pins s σ H _ I h) fun v s1 ⟨x,H1,I1,r1,q1⟩=>kY (hb pins s1 σ H1 _ I1 q1) fun u s2 ⟨y,H2,I2,r2,q2⟩=>kY (ho pins s2 σ H2 x y v u _ I2 r1 r2 q2) fun c s3 ⟨z,H3,I3,r3,k,e,q3⟩=>?_) hm;subst e;cases r3;exact nH ⟨H3,I3,q3⟩
theorem TY:(aU:Nat) < 2 ^ 63:=by rw[sizeLine_eq];decide
theorem VZ (r:gB [x] us):∃u,us=[u]/\gN x u:=by
 cases r with
 | cons r1 r2=>cases r2;exact⟨_,rfl,r1⟩
theorem tH:DK X (.type "str") (fun xs H Q=>∃i,xs=[.int i]/\i.natAbs.log2 < 1920/\Q (.str (iQ i)) H):=by intro pins s σ H xs us Q I r h;obtain⟨i,rfl,hz,q⟩:=h;obtain⟨u,rfl,t,rfl⟩:=VZ r;exact PySem.P.str_of_int hz ⟨.str _,H,I.tok _,⟨_,rfl⟩,q⟩
theorem mR:DK X (.builtin "ord") (fun xs H Q=>∃x,xs=[.str x]/\x.length=1/\Q (.int (x.cps.getD 0 0:Nat)) H):=by intro pins s σ H xs us Q I r h;obtain⟨x,rfl,hz,q⟩:=h;obtain⟨u,rfl,t,rfl⟩:=VZ r;exact ord_of_one hz ⟨.int _,H,I.tok _,⟨_,rfl⟩,q⟩
end
structure Io (h:gF) (x dx C:aQ) (mA:Str->Option Value):Prop where
 obj:h.get? x=some (lL C dx)
 ns:h.Ns1 dx mA
 ne:dx≠x
theorem Ol {h:gF} {dx:aQ} {mA:Str->Option Value} (n:h.Ns1 dx mA):∃od,h.get? dx=some od/\∀name,DE name od=some (mA name):=by
 obtain⟨o,es,ep,ho,hd,hk,_,hm⟩:=n;refine⟨o,ho,fun name=>?_⟩;have e:=hm name;unfold nsFind findBy at e;rw[<-Array.find?_toList]at e;unfold DE;rw[hd];dsimp only;split
 ·rename_i y q
  rw[q]at e;exact congrArg some e
 ·rename_i q
  rw[q]at e;have a:es.toList.any (·.refKey)=false:=by rw[List.any_eq_false];intro y hy;obtain⟨z,t,hkey⟩:=hk y (Array.mem_toList_iff.mp hy);simp[DictEntry.refKey,hkey]
  have a':¬es.toList.any (·.refKey)=true:=by rw[a];exact cH
  rw[if_neg a'];exact congrArg some e
theorem Io.look (I:Io h x dx C mA):∃od,PySem.W.InstAt h x (lL C dx) C (some od)/\∀name,DE name od=some (mA name):=
 let ⟨od,ho,hl⟩:=Ol I.ns
 ⟨od,⟨I.obj,rfl,rfl,ho⟩,hl⟩
section
variable {prog:dF} {w:eW} {A:jW} {E:Value->aV->Prop} {s:aV} {K:aB} {x dx C f:aQ} {mA:Str->Option Value} {name:Str} {v:Value}
theorem Ul (X:K.In s.heap) (I:Io s.heap x dx C mA) (hg:zK K C name=true) (hh:JX K C=true)
  (ha:iE K (.ref C) name=some none) (hv:mA name=some v) (hv':Nc v=true) (h:Q v {s with toks:=s.toks+1}):
  bJ (cC prog w) A (getAttr (.ref x) name expr) Q E s:=by
 obtain⟨od,J,hl⟩:=I.look;exact PySem.W.get_value X J (GG hg).1 (PySem.W.findObj_own hh ha rfl (by rw[hl,hv])) hv' h
theorem Ru (X:K.In s.heap) (I:Io s.heap x dx C mA) (hg:zK K C name=true)
  (hf:iE K (.ref C) name=some (some (.ref f))) (ht:AO K (.ref f)=true) (hv:mA name=none) (h:Q (.ref f,[.ref x]) s):
  bJ (cC prog w) A (OC (.ref x) name pl) Q E s:=by
 obtain⟨od,J,hl⟩:=I.look;exact PySem.W.method_fn X J (GG hg).1 (GG hg).2 hf (beq_iff_eq.mp ht) (by show(DE name od).map (·.isSome)=some false;rw[hl,hv];rfl) h
theorem Vv (X:K.In s.heap) (I:Io s.heap x dx C mA)
  (hs:iE K (.ref C) "__setattr__"=some (some (.builtin "object.__setattr__"))) (hp:Kx K C=true) (ht:QG K C name=some none) (hh:JX K C=true)
  (hw:Du mA ns) (hsz:ns.length<=aU)
  (h:∀h',Io h' x dx C (fun y=>if y=name then some v else mA y)->xK dx s.heap h'->Q () {s with heap:=h',toks:=s.toks+2}):
  bJ (cC prog w) A (setAttr (.ref x) name v) Q E s:=by
 obtain⟨od,J,hl⟩:=I.look;refine PySem.W.set_plain X J hs (PySem.W.osa_open (s:={s with toks:=s.toks+1}) (r:=none) X J hp ht fun b=>?_);obtain⟨cd,hc,hd'⟩:=PySem.W.any_some hh;have hx:s.heap.get? x=some ⟨.ref C,some dx,.plain,#[]⟩:=I.obj;refine aF (aZ (aF (aF (wpAny_loadPart hx (aF (PySem.W.Looks.here (s:={s with toks:=s.toks+1}) (PySem.W.looks_clsIn X hc) ?_))))));rw[hd'];refine aZ (a:=some dx) (aF (aZ (aF ?_)));refine wpAny_nsSet1 (s:={s with toks:=s.toks+1}) I.ns fun h' hn2 hs2=>?_;obtain⟨oD,esD,epD,hoD,hdD,hcD⟩:=hn2.count (PySem.Within.cons name v hw);refine aF (wpAny_lookBehind hoD (by rw[hdD];exact pastItsLine_dict (bI hcD (by rw[aK];omega))) ?_);exact aZ (h _ ⟨(hs2.2 _ (uU I.ne)).trans I.obj,hn2,I.ne⟩ hs2)
theorem Sf (X:K.In s.heap) (hm:QF K C=true)
  (hi:iE K (.ref C) "__init__"=some (some (.ref f))) (hf:PySem.W.typeIn K (.ref f)=some (.type "function"))
  (h:vT (cC prog w) (A.under (.builtin "type.__call__" ⟨.ref C::vs,kw⟩)) (.call (.ref f) ⟨.ref (s.heap.objs.size+1)::vs,kw⟩) (PySem.W.InitBack (s.heap.objs.size+1) R) {s with heap:=(s.heap.push iY).push (lL C s.heap.objs.size)}):
  vT (cC prog w) A (.call (.ref C) ⟨vs,kw⟩) R s:=by
 obtain⟨hh,g,d,t,os⟩:=s;exact PySem.W.make_core (PySem.W.makes_of X hm) (PySem.W.looks_findIn X hi) (fun self=>PySem.W.bind_fn X self hf) (.inl rfl) h
end
noncomputable def pQ (f:Str) (v:V):List (Str×V)->List (Str×V)
 | []=>[(f,v)]
 | (g,x)::r=>if g=f then (g,v)::r else (g,x)::pQ f v r
theorem ON (f g:Str) (v:V):∀fs:List (Str×V),(pQ f v fs).lookup g=if g=f then some v else fs.lookup g
 | []=>by
  show sR g [(f,v)]=_;by_cases h:g=f
  ·  have hb:(g == f)=true:=beq_iff_eq.mpr h;simp only[sR,hb,if_pos h]
  ·  have hb:(g == f)=false:=beq_eq_false_iff_ne.mpr h;simp only[sR,hb,if_neg h]
 | (k,x)::r=>by
  have ih:=ON f g v r;rw[show pQ f v ((k,x)::r)=(if k=f then (k,v)::r else (k,x)::pQ f v r)from rfl];by_cases hk:k=f
  ·  rw[if_pos hk];by_cases h:g=k
     ·have hb:(g == k)=true:=beq_iff_eq.mpr h;simp only[sR,hb,if_pos (h.trans hk)]
     ·have hb:(g == k)=false:=beq_eq_false_iff_ne.mpr h;simp only[sR,hb,if_neg (fun e:g=f=>h (e.trans hk.symm))]
  ·  rw[if_neg hk];by_cases h:g=k
     ·have hb:(g == k)=true:=beq_iff_eq.mpr h;simp only[sR,hb,if_neg (fun e:g=f=>hk (h.symm.trans e))]
     ·have hb:(g == k)=false:=beq_eq_false_iff_ne.mpr h;simp only[sR,hb];exact ih
theorem NI (f:Str) (v:V):∀fs:List (Str×V),f∈(pQ f v fs).map (·.1)/\∀g,g∈fs.map (·.1)->g∈(pQ f v fs).map (·.1)
 | []=>⟨by simp[pQ],fun g h=>by simp at h⟩
 | (k,x)::r=>by
  obtain⟨i1,i2⟩:=NI f v r;rw[show pQ f v ((k,x)::r)=(if k=f then (k,v)::r else (k,x)::pQ f v r)from rfl];by_cases hk:k=f
  ·  rw[if_pos hk];subst hk;exact⟨by simp,fun g h=>by simpa using h⟩
  ·  rw[if_neg hk];refine⟨?_,fun g h=>?_⟩
     ·rw[aP];exact aL _ i1
     ·rw[aP]at h ⊢;rcases aS.mp h with e | e
      ·exact aS.mpr (.inl e)
      ·exact aL _ (i2 g e)
theorem OL (f:Str) (v:V):∀fs:List (Str×V),(pQ f v fs).length<=fs.length+1
 | []=>by simp[pQ]
 | (k,x)::r=>by
  have ih:=OL f v r;rw[show pQ f v ((k,x)::r)=(if k=f then (k,v)::r else (k,x)::pQ f v r)from rfl];by_cases hk:k=f
  ·  rw[if_pos hk,aK,aK];omega
  ·  rw[if_neg hk,aK,aK];omega
theorem DO.some_of (r:DO (some v) o):∃u,o=some u/\gN v u:=by
 cases o with
 | none=>exact(show False from r).elim
 | some u=>exact⟨u,rfl,r⟩
theorem DO.none_of (r:DO none o):o=none:=by
 cases o with
 | none=>rfl
 | some u=>exact(show False from r).elim
theorem Of (r:gN v u):Nc u=true:=by
 cases v with
 | non=>cases(show u=sK from r);rfl
 | bl b=>cases(show u=Na b from r);rfl
 | int i=>obtain⟨t,e⟩:=(show ∃t,u=AN i t from r);cases e;rfl
 | str x=>obtain⟨t,e⟩:=(show ∃t,u=QD x t from r);cases e;rfl
 | byt b=>obtain⟨t,e⟩:=(show ∃t,u=Value.bytes b t from r);cases e;rfl
 | flt b=>obtain⟨t,e⟩:=(show ∃t,u=Hx b t from r);cases e;rfl
 | ref a=>cases(show u=cO a from r);rfl
 | ty n=>cases(show u=xN n from r);rfl
section
variable {P:dF} {w:eW} {H H':Hp} {h h':gF} {a C dx:aQ} {fs fs':List (Str×V)}
theorem QZ (hok:CQ P w H h) (e:H a=some (.ins C dx fs)):∃mA,Io h a dx C mA/\(∀f,DO (fs.lookup f) (mA f))/\Du mA (fs.map (·.1))/\fs.length<=1000/\H dx=some (.own a):=by obtain⟨d,z,ne,ob,mA,n,r,q⟩:=(show lF P w H h a (.ins C dx fs)from hok a _ e);exact⟨mA,⟨ob,n,ne⟩,r,q,z,d⟩
end
structure Dk (K:aB) (C:aQ):Prop where
 pg:zK K C Str.empty=true
 hd:JX K C=true
 po:Kx K C=true
 sa:iE K (.ref C) "__setattr__"=some (some (.builtin "object.__setattr__"))
theorem Dk.get {K:aB} {C:aQ} (c:Dk K C) (f:Str):zK K C f=true:=c.pg
def nR (K:aB) (C:aQ) (f:Str):Prop:=iE K (.ref C) f=some none
theorem nR.taker {K:aB} {C:aQ} {f:Str} (n:nR K C f):QG K C f=some none:=by unfold QG;rw[show iE K (.ref C) f=some none from n];rfl
structure Il (K:aB) (C:aQ) (m:Str) (f:aQ):Prop where
 at_:iE K (.ref C) m=some (some (.ref f))
 fn:AO K (.ref f)=true
 kp:gJ K (.ref f)=true
section
variable {X:Cx} {pins:List (aQ×Obj)} {σ:St} {H:Hp} {s:aV} {a C dx:aQ} {fs:List (Str×V)} {f:Str} {v:V} {A:jW} {E:Value->aV->Prop}
theorem SZ (I:dH X pins σ H s) (e:H a=some (.ins C dx fs)) (c:Dk X.K C) (n:nR X.K C f) (l:fs.lookup f=some v)
  (h:∀u s',dH X pins σ H s'->gN v u->Q u s'):bJ (cC X.prog X.w) A (getAttr (.ref a) f b) Q E s:=by
 obtain⟨mA,O,r,_,_,_⟩:=QZ I.hok e;obtain⟨u,hu,ru⟩:=DO.some_of (v:=v) (o:=mA f) (by rw[<-l];exact r f);exact Ul I.kIn O (c.get f) c.hd n hu (Of ru) (h u _ (I.tok _) ru)
theorem TB (I:dH X pins σ H s) (e:H a=some (.ins C dx fs)) (c:Dk X.K C) (k:Il X.K C m g) (l:fs.lookup m=none)
  (h:Q (.ref g,[.ref a]) s):bJ (cC X.prog X.w) A (OC (.ref a) m pl) Q E s:=by
 obtain⟨mA,O,r,_,_,_⟩:=QZ I.hok e;have hn:mA m=none:=DO.none_of (by rw[<-l];exact r m);exact Ru I.kIn O (c.get m) k.at_ k.fn hn h
theorem VH (I:dH X pins σ H s) (e:H a=some (.ins C dx fs)) (c:Dk X.K C) (n:nR X.K C f) (hl:fs.length < 1000) (ry:gN y u)
  (h:∀s',dH X pins σ (upd H a (.ins C dx (pQ f y fs))) s'->Q () s'):bJ (cC X.prog X.w) A (setAttr (.ref a) f u) Q E s:=by
 obtain⟨mA,O,r,wi,_,ho⟩:=QZ I.hok e;have hz:(fs.map (·.1)).length<=aU:=by rw[aJ,sizeLine_eq];omega
 refine Vv I.kIn O c.sa c.po n.taker c.hd wi hz fun h' O' sb=>h _ ?_;have hd:∃o,h'.get? dx=some o:=let ⟨o,_,_,e',_⟩:=O'.ns;⟨o,e'⟩;refine I.write (x:=a) (e:=dx) (by rw[e];exact oP) (.inr ho) (fun b q hb z=>(sb.2 b hb).trans z) hd ?_;refine⟨by rw[bL O.ne];exact ho,?_,O.ne,O'.obj,_,O'.ns,fun g=>?_,fun g hg=>?_⟩
 ·have:=OL f y fs;omega
 ·show DO ((pQ f y fs).lookup g) (if g=f then some u else mA g);rw[ON];by_cases q:g=f
  ·rw[if_pos q,if_pos q];exact ry
  ·rw[if_neg q,if_neg q];exact r g
 ·by_cases q:g=f
  ·rw[q];exact(NI f y fs).1
  ·refine(NI f y fs).2 g (wi g fun z=>hg ?_);show(if g=f then some u else mA g)=none;rw[if_neg q];exact z
theorem dH.made (I:dH X pins σ H s):dH X pins σ (upd (upd H s.heap.objs.size (.own (s.heap.objs.size+1))) (s.heap.objs.size+1) (.ins C s.heap.objs.size []))
  {s with heap:=(s.heap.push iY).push (lL C s.heap.objs.size)}:=by
 have e1:(s.heap.push iY).get? s.heap.objs.size=some iY:=bQ s.heap rfl;have e2:((s.heap.push iY).push (lL C s.heap.objs.size)).get? (s.heap.objs.size+1)=some (lL C s.heap.objs.size):=by
  have:=bQ (s.heap.push iY) (o:=lL C s.heap.objs.size) rfl
  rwa [cF]at this
 have e3:(s.heap.push iY).Ns s.heap.objs.size (fun _=>none):=⟨iY,#[],_,e1,rfl,(fun e he=>absurd he (by simp)),fun _=>rfl⟩;have I1:=I.laid (a:=s.heap.objs.size) (o:=.own (s.heap.objs.size+1)) (h':=s.heap.push iY) (t':=s.toks) (fun b u q=>aG _ q) (aR _) ⟨_,e1⟩;refine I1.laid (a:=s.heap.objs.size+1) (o:=.ins C s.heap.objs.size []) (t':=s.toks) (fun b u q=>aG _ q) (QB (cF _ _)) ?_;have ne:s.heap.objs.size≠s.heap.objs.size+1:=eK (lI _);refine⟨by rw[bL ne,aH],aY _,ne,e2,fun _=>none,(Heap.Ns1.of_empty e3).at fun o q=>aG _ q,fun _=>oP,fun y hy=>absurd rfl hy⟩
theorem Ug (hb:DG e f env (hX e env)=hX e env) (h:bJ (cC prog w) A (hX e env) (fun o s₁=>bJ (cC prog w) A (getAttr o f true) Q E s₁) E s):bJ (cC prog w) A (hX (.Attribute e f pos) env) Q E s:=Attribute_any_ h (by rw[arm_eval_Attribute,hb])
end
inductive C5 (K:aB) (f:Str) (Q:VK) (x:V) (H1:Hp):Prop
 | mk (a:_) (C:_) (dx:_) (fs:_) (v:_):x=.ref a->H1 a=some (.ins C dx fs)->Dk K C->nR K C f->fs.lookup f=some v->Q v H1->C5 K f Q x H1
noncomputable def Wb (K:aB) (ta:TE) (f:Str):TE:=fun σ H Q=>ta σ H fun x H1=>C5 K f Q x H1
noncomputable def J5 (K:aB) (ta tv:TE) (f:Str):TS:=fun D σ H=>tv σ H fun y H1=>ta σ H1 fun x H2=>∃a C dx fs,x=.ref a/\H2 a=some (.ins C dx fs)/\Dk K C/\nR K C f/\fs.length < 1000/\D.nx σ (upd H2 a (.ins C dx (pQ f y fs)))
def Yz (X:Cx) (op:Operator) (rd:V->V->Hp->VK->Prop):Prop:=∀(pins:List (aQ×Obj)) (s:aV) (σ:St) (H:Hp) (x y:V) (u v:Value) (Q:VK),dH X pins σ H s->gN x u->gN y v->rd x y H Q->bJ (cC X.prog X.w) X.A (inplaceOp op u v) (EP X pins σ Q) X.xe s
noncomputable def Vu (K:aB) (ta tv:TE) (rd:V->V->Hp->VK->Prop) (f:Str):TS:=fun D σ H=>ta σ H fun x H1=>∃a C dx fs v,x=.ref a/\H1 a=some (.ins C dx fs)/\Dk K C/\nR K C f/\fs.lookup f=some v/\tv σ H1 fun y H2=>rd v y H2 fun z H3=>∃dx' fs',H3 a=some (.ins C dx' fs')/\fs'.length < 1000/\D.nx σ (upd H3 a (.ins C dx' (pQ f z fs')))
section
variable {X:Cx} {o e value:Expr} {f:Str} {pos pos' tpos:Pos} {ta tv:TE}
theorem cK (he:PE X e ta) (hb:DG e f X.env (hX e X.env)=hX e X.env):PE X (.Attribute e f pos) (Wb X.K ta f):=by intro pins s σ H Q I h;refine Ug hb (kY (he pins s σ H _ I h) fun u s1 ⟨x,H1,I1,rx,a,C,dx,fs,v,ex,ea,c,n,l,q⟩=>?_);subst ex;obtain rfl:u=cO a:=rx;exact SZ I1 ea c n l fun u' s2 I2 ru=>⟨v,H1,I2,ru,q⟩
theorem nY (ha:PE X o ta) (hv:PE X value tv) (hs:wT value (some (.Attribute o f pos')) pos.line X.env=pure false):PS X (.Assign [.Attribute o f pos'] value pos) (J5 X.K ta tv f):=by intro pins s σ H D I h;refine plainObj_wpAny_Assign_Attribute (kY (hv pins s σ H _ I h) fun u s1 ⟨y,H1,I1,ry,q⟩=>kY (ha pins s1 σ H1 _ I1 q) fun ov s2 ⟨x,H2,I2,rx,a,C,dx,fs,ex,ea,c,n,l,q2⟩=>?_) hs;subst ex;obtain rfl:ov=cO a:=rx;exact VH I2 ea c n l ry fun s3 I3=>⟨σ,_,I3,q2⟩
theorem NQ (ha:PE X o ta) (hv:PE X value tv) (hop:Yz X op rd):PS X (.AugAssign (.Attribute o f tpos) op value pos) (Vu X.K ta tv rd f):=by intro pins s σ H D I h;refine wpAny_AugAssign_AttributeAny (kY (ha pins s σ H _ I h) fun ov s1 ⟨x,H1,I1,rx,a,C,dx,fs,v,ex,ea,c,n,l,q⟩=>?_);subst ex;obtain rfl:ov=cO a:=rx;refine SZ I1 ea c n l fun u s2 I2 ru=>kY (hv pins s2 σ H1 _ I2 q) fun w3 s3 ⟨y,H2,I3,ry,q3⟩=>kY (hop pins s3 σ H2 v y u w3 _ I3 ru ry q3) fun w4 s4 ⟨z,H3,I4,rz,dx',fs',ea',l',q4⟩=>?_;exact VH I4 ea' c n l' rz fun s5 I5=>⟨σ,_,I5,q4⟩
noncomputable def G6:V->V->Hp->VK->Prop:=fun x y H Q=>∃i j,x=.int i/\y=.int j/\Q (.int (i+j)) H
theorem Jh:Yz X .Add G6:=by rintro pins s σ H x y u v Q I rx ry ⟨i,j,rfl,rfl,q⟩;obtain⟨t,rfl⟩:=(show ∃t,u=AN i t from rx);obtain⟨t',rfl⟩:=(show ∃t',v=AN j t' from ry);exact PyProof.Rows.iadd_int ⟨.int (i+j),H,I.tok _,⟨_,rfl⟩,q⟩
end
section
variable {X:Cx} {pins:List (aQ×Obj)} {σ:St} {H:Hp} {s:aV} {A:jW} {E:Value->aV->Prop} {Q:Value->aV->Prop} {c:Value} {b:Bool}
inductive QJ (K:aB) (H:Hp):V->Value->Prop where
 | non:QJ K H .non (.type "NoneType")
 | bl (x:Bool):QJ K H (.bl x) (.type "bool")
 | int (i:Int):QJ K H (.int i) (.type "int")
 | str (x:Str):QJ K H (.str x) (.type "str")
 | flt (x:UInt64):QJ K H (.flt x) (.type "float")
 | lst {a:aQ} {xs:List V} (e:H a=some (.lst xs)):QJ K H (.ref a) (.type "list")
 | frz {a:aQ} {o:Obj} {xs:List V} (e:H a=some (.frz o (.lst xs))):QJ K H (.ref a) (.type "list")
 | tup {a:aQ} {xs:List V} (e:H a=some (.tup xs)):QJ K H (.ref a) (.type "tuple")
 | dK {a:aQ} {kvs:List (CS×V)} (e:H a=some (.dK kvs)):QJ K H (.ref a) (.type "dict")
 | dT {a:aQ} {kvs:List (List CS×V)} (e:H a=some (.dT kvs)):QJ K H (.ref a) (.type "dict")
 | ins {a C dx:aQ} {fs:List (Str×V)} (e:H a=some (.ins C dx fs)) (cl:Dk K C) (ha:iE K (.ref C) "__class__"=some (some (.builtin "object.__class__")))
  (hn:PySem.W.specialIn K (.builtin "object.__class__") "__get__"=some (some (.builtin "getset_descriptor.__get__"))) (htk:PySem.W.takesIn K (.builtin "object.__class__")=some true)
  (hm:PySem.W.mroIn K C (.type "object")=some true):QJ K H (.ref a) (.ref C)
theorem YR (I:dH X pins σ H s) (rx:gN x u) (ty:QJ X.K H x t) (e:RN X.K t c=some b) (h:∀tk,Q (.bool b) {s with toks:=tk}):
  bJ (cC X.prog X.w) A (call (.builtin "isinstance") [u,c]) Q E s:=by
 cases ty with
 | non=>cases(show u=sK from rx);exact iH PySem.W.kitx_none I.kIn oP e (fun z=>nomatch z) h
 | bl y=>cases(show u=Na y from rx);exact iH PySem.W.kitx_bool I.kIn oP e (fun z=>nomatch z) h
 | int i=>obtain⟨t,q⟩:=(show ∃t,u=AN i t from rx);cases q;exact iH PySem.W.kitx_int I.kIn oP e (fun z=>nomatch z) h
 | str y=>obtain⟨t,q⟩:=(show ∃t,u=QD y t from rx);cases q;exact iH PySem.W.kitx_str I.kIn oP e (fun z=>nomatch z) h
 | flt y=>obtain⟨t,q⟩:=(show ∃t,u=Hx y t from rx);cases q;exact iH PySem.W.kitx_float I.kIn oP e (fun z=>nomatch z) h
 | @lst a xs ea=>cases(show u=cO a from rx);obtain⟨_,_,n,_,h1⟩:=(show lF X.prog X.w H s.heap a (.lst xs)from I.hok a _ ea);exact iH Kw I.kIn ⟨_,h1,rfl⟩ e (fun z=>nomatch z) h
 | @frz a ob xs ea=>cases(show u=cO a from rx);obtain⟨_,_,_,n,_,h1⟩:=(show lF X.prog X.w H s.heap a (.frz ob (.lst xs))from I.hok a _ ea);exact iH Kw I.kIn ⟨_,h1,rfl⟩ e (fun z=>nomatch z) h
 | @tup a xs ea=>cases(show u=cO a from rx);obtain⟨_,_,_,p⟩:=(show lF X.prog X.w H s.heap a (.tup xs)from I.hok a _ ea);obtain⟨o,h1,h2,_⟩:=p;exact iH PySem.W.kitx_tuple I.kIn ⟨o,h1,h2⟩ e (fun z=>nomatch z) h
 | @dK a kvs ea=>cases(show u=cO a from rx);obtain⟨_,_,vs,_,p⟩:=(show lF X.prog X.w H s.heap a (.dK kvs)from I.hok a _ ea);obtain⟨o,es,ep,h1,h2,_⟩:=p;exact iH Kv I.kIn ⟨o,h1,h2.1⟩ e (fun z=>nomatch z) h
 | @dT a kvs ea=>cases(show u=cO a from rx);obtain⟨_,_,xs,_,o,es,ep,h1,h2,_⟩:=(show lF X.prog X.w H s.heap a (.dT kvs)from I.hok a _ ea);exact iH Kv I.kIn ⟨o,h1,h2.1⟩ e (fun z=>nomatch z) h
 | @ins a C dx fs ea cl ha hn htk hm=>cases(show u=cO a from rx);obtain⟨mA,O,_⟩:=QZ I.hok ea;obtain⟨od,J,_⟩:=O.look;exact iH (PySem.W.kitx_own (cl.get _) cl.hd ha hn htk hm) I.kIn J e (fun z=>nomatch z) h
end
structure jI (k:Nat) (A:jW):Prop where
 hd:A.handled=none
 dp:A.depth+3 * k+5 < recursionLimit
 un:A.units+16 * k+200 < Qk
theorem jI.mono (r:jI k A) (h:j<=k):jI j A:=⟨r.hd,by have:=r.dp;omega,by have:=r.un;omega⟩
theorem jI.deeper (r:jI (k+1) A) (env:Env):jI k (A.deeper env):=⟨r.hd,by have:=r.dp;show A.depth+1+3 * k+5 < _;omega,by have:=r.un;show A.units+3+16 * k+200 < _;omega⟩
theorem jI.in1 (r:jI (k+1) A):jI k A.in1:=⟨r.hd,by have:=r.dp;show A.depth+3 * k+5 < _;omega,by have:=r.un;show A.units+1+16 * k+200 < _;omega⟩
theorem Jr {A:jW} {C:aQ} {us:List Value} {kw:List (Str×Value)}:(A.under (.builtin "type.__call__" ⟨.ref C::us,kw⟩)).depth=A.depth+1:=by first | rfl | simp[Da,Code.weight,Code.isCreation,Code.isGuard,Code.isCaller,Code.frames,Hm,guardIds]
theorem Js {A:jW} {C:aQ} {us:List Value} {kw:List (Str×Value)}:(A.under (.builtin "type.__call__" ⟨.ref C::us,kw⟩)).units=A.units+1:=by first | rfl | simp[Da,Code.cUnits,Code.frames,Hm]
theorem jI.make (r:jI (k+1) A) (C:aQ) (us:List Value) (kw:List (Str×Value)):jI k (A.under (.builtin "type.__call__" ⟨.ref C::us,kw⟩)):=⟨r.hd,by have:=r.dp;rw[Jr];omega,by have:=r.un;rw[Js];omega⟩
theorem jI.depth (r:jI k A):A.depth < recursionLimit:=by have:=r.dp;omega
theorem jI.units (r:jI k A):A.units+64 < Qk:=by have:=r.un;omega
noncomputable def Gv:TA:=fun _ H Q=>Q [] H
noncomputable def Aa (ta:TE) (tr:TA):TA:=fun σ H Q=>ta σ H fun x H1=>tr σ H1 fun xs H2=>Q (x::xs) H2
section
variable {X:Cx} {e:Expr} {es:List Expr} {te:TE} {t:TA} {pos:Pos}
theorem aD:PA X [] Gv:=fun _ _ _ _ H Q I h=>Qe ⟨[],H,I,.nil,h⟩
theorem aA (ha:PE X e te) (hr:PA X es t) (hs:bO (e::es) X.env=(false,hX e X.env)::bO es X.env:=by rfl):PA X (e::es) (Aa te t):=by intro pos pins s σ H Q I h;rw[hs];show bJ _ _ (spliced ((false,hX e X.env)::jH pos (bO es X.env))) _ _ s;refine JW (kY (ha pins s σ H _ I h) fun u s1 ⟨x,H1,I1,r1,q1⟩=>?_);exact kY (hr pos pins s1 σ H1 _ I1 q1) fun us s2 ⟨xs,H2,I2,r2,q2⟩=>⟨x::xs,H2,I2,.cons r1 r2,q2⟩
noncomputable def D8 (t:TA):TE:=fun σ H Q=>t σ H fun xs H1=>xs.length<=aU/\∀p,H1 p=none->Q (.ref p) (upd H1 p (.tup xs))
noncomputable def K2 (t:TA):TE:=fun σ H Q=>t σ H fun xs H1=>xs.length<=aU/\∀p,H1 p=none->Q (.ref p) (upd H1 p (.lst xs))
theorem iT {x1} (h:PA X es t):PE X (.Tuple es x1 pos) (D8 t):=by intro pins s σ H Q I hq;refine wpAny_Tuple_spliced (kY (h pos pins s σ H _ I hq) fun us s1 ⟨xs,H1,I1,r,z,q⟩=>⟨by rw[<-r.length];exact z,?_⟩);have hf:H1 s1.heap.objs.size=none:=I1.hok.fresh (aR _);refine⟨.ref s1.heap.objs.size,upd H1 s1.heap.objs.size (.tup xs),I1.laid (t':=s1.toks) (fun b u e=>aG _ e) (aR _) ?_,rfl,q _ hf⟩;exact⟨z,us,r,⟨_,bQ _ rfl,rfl,_,rfl,rfl⟩⟩
theorem eL (h:PA X es t):PE X (.List es pos) (K2 t):=by intro pins s σ H Q I hq;refine wpAny_List_spliced (kY (h pos pins s σ H _ I hq) fun us s1 ⟨xs,H1,I1,r,z,q⟩=>⟨by rw[<-r.length];exact z,?_⟩);have hf:H1 s1.heap.objs.size=none:=I1.hok.fresh (aR _);refine⟨.ref s1.heap.objs.size,upd H1 s1.heap.objs.size (.lst xs),I1.laid (t':=s1.toks) (fun b u e=>aG _ e) (aR _) ?_,rfl,q _ hf⟩;exact⟨z,us,0,r,bQ _ rfl⟩
end
noncomputable abbrev Sp:=List V->Hp->VK->XK->Prop
noncomputable abbrev Qr:=List Env->Hp->aV->XK->Value->aV->Prop
structure Ig (P:dF) (w:eW) (K:aB) (mg:Str->Option Value) (base:gF) (A:jW) (outer:List Env) (s:aV) (H:Hp):Prop where
 frames:A.frames=some outer
 mod:E4 K mg base
 bs:∀b o,base.get? b=some o->s.heap.get? b=some o/\H b=none
 bsz:base.objs.size<=s.heap.objs.size
 funs:s.heap.FunFrames base outer
 frf:∀b∈JT outer,H b=none
 hok:CQ P w H s.heap
 bare:IB s.gens
def CE (outer:List Env) (P:dF) (w:eW) (H:Hp) (s:aV) (Q:VK) (u:Value) (s':aV):Prop:=∃v H',s'.os=s.os/\IB s'.gens/\Un (JT outer) [] H H' s.heap s'.heap/\CQ P w H' s'.heap/\gN v u/\Q v H'
def CR (CX:Qr) (outer:List Env) (P:dF) (w:eW) (H:Hp) (s:aV) (Q:VK) (E:XK) (r:Result) (s':aV):Prop:=
 match r with
 | .ok (.ret u)=>CE outer P w H s Q u s'
 | .ok _=>False
 | .error e=>CX outer H s E e s'
structure vU (P:dF) (w:eW) (K:aB) (mg:Str->Option Value) (base:gF) (CX:Qr) (k:Nat) (f:aQ) (fd:tU) (ps:List Str) (sp:Sp):Prop where
 len:∀vs H Q E,sp vs H Q E->vs.length=ps.length
 run:∀(A:jW) (outer:List Env) (s:aV) (H:Hp) (args:Args) (us:List Value) (vs:List V) (Q:VK) (E:XK),jI k A->Ig P w K mg base A outer s H->WK s fd args (ps.zip us)->gB vs us->sp vs H Q E->
  vT (cC P w) A (.call (.ref f) args) (CR CX outer P w H s Q E) s
theorem vU.mono {P:dF} {w:eW} {K:aB} {mg:Str->Option Value} {base:gF} {CX:Qr} {j k:Nat} {f:aQ} {fd:tU} {ps:List Str} {sp:Sp} (F:vU P w K mg base CX j f fd ps sp) (h:j<=k):vU P w K mg base CX k f fd ps sp:=⟨F.len,fun A outer s H args us vs Q E hr=>F.run A outer s H args us vs Q E (hr.mono h)⟩
theorem Ig.make {P:dF} {w:eW} {K:aB} {mg:Str->Option Value} {base:gF} {A:jW} {outer:List Env} {s:aV} {H:Hp} (e:Ig P w K mg base A outer s H) (C:aQ) (us:List Value) (kw:List (Str×Value)):Ig P w K mg base (A.under (.builtin "type.__call__" ⟨.ref C::us,kw⟩)) outer s H:=⟨by first | exact e.frames | (simpa [Da,Code.envs,Hm,pushEnvs] using e.frames),e.mod,e.bs,e.bsz,e.funs,e.frf,e.hok,e.bare⟩
section
variable {X:Cx} {pins:List (aQ×Obj)} {σ:St} {H:Hp} {s s':aV}
theorem dH.env0 (I:dH X pins σ H s):Ig X.prog X.w X.K X.mg X.base X.A X.stack s H:=⟨I.ok.frames,I.ok.mod,I.bs,bI I.ok.bsz I.sz,I.stack,I.stkFree,I.hok,I.bare⟩
theorem dH.after (I:dH X pins σ H s) (h:CE X.stack X.prog X.w H s Q u s'):EP X pins σ Q u s':=by obtain⟨v,H',os,bare,un,hok,r,q⟩:=h;obtain⟨hh,g,d,t,os'⟩:=s';obtain rfl:os'=s.os:=os;exact⟨v,H',I.call (h':=hh) (g':=g) (d':=d) (t':=t) (ch:=[]) un hok bare (fun b z=>absurd z (by simp)),r,q⟩
end
noncomputable def Mn (sp:Sp) (dvs:List V) (E:XK) (t:TA):TE:=fun σ H Q=>t σ H fun vs H1=>sp (vs++dvs) H1 Q E
inductive Wq (C:aQ) (m:Str) (sp:Sp) (dvs:List V) (E:XK) (t:TA) (σ:St) (Q:VK) (x:V) (H1:Hp):Prop
 | mk (a:_) (dx:_) (fs:_):x=.ref a->H1 a=some (.ins C dx fs)->fs.lookup m=none->(t σ H1 fun vs H2=>sp (x::(vs++dvs)) H2 Q E)->Wq C m sp dvs E t σ Q x H1
noncomputable def Mo (C:aQ) (m:Str) (sp:Sp) (dvs:List V) (E:XK) (ta:TE) (t:TA):TE:=fun σ H Q=>ta σ H fun x H1=>Wq C m sp dvs E t σ Q x H1
noncomputable def Ab (C:aQ) (sp:Sp) (dvs:List V) (E:XK) (t:TA):TE:=fun σ H Q=>t σ H fun vs H1=>∀x dx,H1 x=none->H1 dx=none->dx≠x->sp (.ref x::(vs++dvs)) (upd (upd H1 dx (.own x)) x (.ins C dx [])) (fun v H2=>v=.non/\Q (.ref x) H2) E
def sY (K:aB) (fd:tU) (ps:List Str) (ds:List Value):Prop:=∀(s:aV) (us:List Value),K.In s.heap->(us++ds).length=ps.length->WK s fd ⟨us,[]⟩ (ps.zip (us++ds))
theorem sY.all {K:aB} {fd:tU} {ps:List Str} (h:∀us:List Value,us.length=ps.length->WO fd ⟨us,[]⟩=pure (ps.zip us)):sY K fd ps []:=fun s us _ hl=>by rw[cI]at hl ⊢;exact .of_eq (h us hl)
def AU (CX:Qr) (X:Cx) (E:XK):Prop:=∀(pins:List (aQ×Obj)) (σ:St) (H:Hp) (s:aV) (e:Value) (s':aV),dH X pins σ H s->CX X.stack H s E e s'->X.xe e s'
section
variable {X:Cx} {CX:Qr} {k:Nat} {f C:aQ} {fd:tU} {ps:List Str} {sp:Sp} {dvs:List V} {ds:List Value} {E:XK} {x m:Str} {p pos apos:Pos} {e o:Expr} {es:List Expr} {ta:TE} {t:TA}
theorem Cs (F:vU X.prog X.w X.K X.mg X.base CX k f fd ps sp) (hr:jI k X.A) (hb:sY X.K fd ps ds) (hd:gB dvs ds) (hx:AU CX X E)
  (I:dH X pins σ H s) (r:gB vs us) (h:sp (vs++dvs) H Q E):bJ (cC X.prog X.w) X.A (call (.ref f) us) (EP X pins σ Q) X.xe s:=by
 have r2:gB (vs++dvs) (us++ds):=r.append hd;have hl:(us++ds).length=ps.length:=by rw[<-r2.length];exact F.len _ _ _ _ h
 refine RP (zL (F.run X.A X.stack s H ⟨us,[]⟩ (us++ds) (vs++dvs) Q E hr I.env0 (hb s us I.kIn hl) r2 h) fun r s' hq=>?_);cases r with
 | error e=>exact hx pins σ H s e s' I hq
 | ok fl=>
  cases fl with
  | ret u=>exact I.after hq
  | next=>exact eN hq
  | brk=>exact eN hq
  | cont=>exact eN hq
theorem Ma (F:vU X.prog X.w X.K X.mg X.base CX k f fd ps sp) (hr:jI k X.A) (hg:Gl X x) (hm:X.mg x=some (.ref f)) (hk:gJ X.K (.ref f)=true) (hb:sY X.K fd ps ds) (hd:gB dvs ds) (hx:AU CX X E)
  (ha:PA X (e::es) t) (hdb:(x == ("__debug__":Str))=false:=by decide) (he:bO (e::es) X.env=(false,hX e X.env)::bO es X.env:=by rfl) (hpl:(jH pos (bO es X.env)).any (·.1)=false:=by rfl):
  PE X (.Call (.Name x p) (e::es) [] pos) (Mn sp dvs E t):=by
 intro pins s σ H Q I h;refine hZ (BH I hg hm ?_ hdb);refine nO (h₀:=X.base) I.ok.mod.kin hk (kY (ha pos pins s σ H _ I h) fun us s1 ⟨vs,H1,I1,r,q⟩=>⟨I1.kIn,?_⟩) he hpl;exact Cs F hr hb hd hx I1 r q
theorem Vl (he:PE X o ta) (c:Dk X.K C) (hm:Il X.K C m f) (F:vU X.prog X.w X.K X.mg X.base CX k f fd ps sp) (hr:jI k X.A) (hb:sY X.K fd ps ds) (hd:gB dvs ds) (hx:AU CX X E) (ha:PA X (e::es) t)
  (hst:bO (e::es) X.env=(false,hX e X.env)::bO es X.env:=by rfl) (hpl:(jH pos (bO es X.env)).any (·.1)=false:=by rfl)
  (ht:hX (.Call (.Attribute o m apos) (e::es) [] pos) X.env=(do
   let ov<-hX o X.env
   standAt apos.atName
   let (f,first)<-IG [ov] (OC ov m pl)
   WP pos f first (jH pos (bO (e::es) X.env)) (GH pos (uV [] X.env))):=by rfl):
  PE X (.Call (.Attribute o m apos) (e::es) [] pos) (Mo C m sp dvs E ta t):=by
 intro pins s σ H Q I h;refine Dh (pl:=pl) (kY (he pins s σ H _ I h) fun u s1 ⟨x,H1,I1,rx,a,dx,fs,ex,ea,l,q⟩=>?_) ht;subst ex;obtain rfl:u=cO a:=rx;refine TB I1 ea c hm l ?_;refine nO (first:=[.ref a]) (h₀:=X.base) I.ok.mod.kin hm.kp (kY (ha pos pins s1 σ H1 _ I1 q) fun us s2 ⟨vs,H2,I2,r,q2⟩=>⟨I2.kIn,?_⟩) hst hpl;exact Cs (us:=.ref a::us) (vs:=.ref a::vs) F hr hb hd hx I2 (.cons rfl r) q2
theorem Sv (he:PE X o ta) (c:Dk X.K C) (hm:Il X.K C m f) (F:vU X.prog X.w X.K X.mg X.base CX k f fd ps sp) (hr:jI k X.A) (hb:sY X.K fd ps ds) (hd:gB dvs ds) (hx:AU CX X E)
  (ht:hX (.Call (.Attribute o m apos) [] [] pos) X.env=(do
   let ov<-hX o X.env
   standAt apos.atName
   let (f,first)<-IG [ov] (OC ov m pl)
   WP pos f first (jH pos (bO [] X.env)) (GH pos (uV [] X.env))):=by rfl):
  PE X (.Call (.Attribute o m apos) [] [] pos) (Mo C m sp dvs E ta Gv):=by
 intro pins s σ H Q I h;refine Dh (pl:=pl) (kY (he pins s σ H _ I h) fun u s1 ⟨x,H1,I1,rx,a,dx,fs,ex,ea,l,q⟩=>?_) ht;subst ex;obtain rfl:u=cO a:=rx;refine TB I1 ea c hm l ?_;exact Ho (first:=[.ref a]) I1.kIn hm.kp (Cs (us:=[.ref a]) (vs:=[.ref a]) F hr hb hd hx I1 (.cons rfl .nil) q)
structure Mk (K:aB) (C f:aQ):Prop where
 makes:QF K C=true
 init:iE K (.ref C) "__init__"=some (some (.ref f))
 fn:AO K (.ref f)=true
 kp:gJ K (.ref C)=true
theorem Gn (M:Mk X.K C f) (F:vU X.prog X.w X.K X.mg X.base CX k f fd ps sp) (hr:jI (k+1) X.A) (hb:sY X.K fd ps ds) (hd:gB dvs ds)
  (hx:AU CX X E) (I:dH X pins σ H s) (r:gB vs us)
  (h:∀x dx,H x=none->H dx=none->dx≠x->sp (.ref x::(vs++dvs)) (upd (upd H dx (.own x)) x (.ins C dx [])) (fun v H2=>v=.non/\Q (.ref x) H2) E):
  bJ (cC X.prog X.w) X.A (call (.ref C) us) (EP X pins σ Q) X.xe s:=by
 have hq:=h (s.heap.objs.size+1) s.heap.objs.size (I.hok.fresh (wB _)) (I.hok.fresh (aR _)) (eK (lI _));have I2:=dH.made (C:=C) I;have r2:gB (V.ref (s.heap.objs.size+1)::(vs++dvs)) (cO (s.heap.objs.size+1)::(us++ds)):=.cons rfl (r.append hd);have hl:(cO (s.heap.objs.size+1)::us++ds).length=ps.length:=by have e:=r2.length;rw[F.len _ _ _ _ hq]at e;exact e.symm
 refine RP (Sf (f:=f) I.kIn M.makes M.init (beq_iff_eq.mp M.fn) (zL (F.run _ X.stack _ _ ⟨cO (s.heap.objs.size+1)::us,[]⟩ (cO (s.heap.objs.size+1)::(us++ds)) _ _ E (hr.make C us []) (I2.env0.make C us []) (hb _ (cO (s.heap.objs.size+1)::us) I2.kIn hl) r2 hq) fun r s' hq'=>?_));cases r with
 | error e=>exact hx pins σ _ _ e s' I2 hq'
 | ok fl=>
  cases fl with
  | ret u=>obtain⟨v,H',I3,rv,ev,q3⟩:=I2.after hq';subst ev;exact⟨rv,⟨V.ref (s.heap.objs.size+1),H',I3,rfl,q3⟩⟩
  | next=>exact eN hq'
  | brk=>exact eN hq'
  | cont=>exact eN hq'
theorem Mb (M:Mk X.K C f) (F:vU X.prog X.w X.K X.mg X.base CX k f fd ps sp) (hr:jI (k+1) X.A) (hg:Gl X x) (hm:X.mg x=some (.ref C)) (hb:sY X.K fd ps ds) (hd:gB dvs ds) (hx:AU CX X E)
  (ha:PA X (e::es) t) (hdb:(x == ("__debug__":Str))=false:=by decide) (he:bO (e::es) X.env=(false,hX e X.env)::bO es X.env:=by rfl) (hpl:(jH pos (bO es X.env)).any (·.1)=false:=by rfl):
  PE X (.Call (.Name x p) (e::es) [] pos) (Ab C sp dvs E t):=by
 intro pins s σ H Q I h;refine hZ (BH I hg hm ?_ hdb);refine nO (h₀:=X.base) I.ok.mod.kin M.kp (kY (ha pos pins s σ H _ I h) fun us s1 ⟨vs,H1,I1,r,q⟩=>⟨I1.kIn,?_⟩) he hpl;exact Gn M F hr hb hd hx I1 r q
theorem Su (M:Mk X.K C f) (F:vU X.prog X.w X.K X.mg X.base CX k f fd ps sp) (hr:jI (k+1) X.A) (hg:Gl X x) (hm:X.mg x=some (.ref C)) (hb:sY X.K fd ps ds) (hd:gB dvs ds) (hx:AU CX X E)
  (hdb:(x == ("__debug__":Str))=false:=by decide):PE X (.Call (.Name x p) [] [] pos) (Ab C sp dvs E Gv):=by
 intro pins s σ H Q I h;refine hZ (BH I hg hm ?_ hdb);exact Ho I.kIn M.kp (Gn (us:=[]) M F hr hb hd hx I .nil h)
end
structure QV (N P:List Str) (sc:zI):Prop where
 kind:sc.kind=.function
 co:sc.isCoroutine=false
 gen:sc.isGenerator=false
 nd:N.Nodup
 pre:N.take P.length=P
 par:∀x∈P,sc.names.lookup x=some .local\/sc.names.lookup x=some .cell
 nofree:∀y∈sc.names,y.2≠.free
theorem YF {kindOf:Str->Option nG} {x:Str}:∀{binds:List (Str×Value)} {m:Str->Option Value},(∀v,(x,v)∉binds)->Qj kindOf binds m x=m x
 | [],_,_=>rfl
 | (n,v)::r,m,h=>by
  unfold Qj;rw[YF fun w hw=>h w (aL _ hw)];split
  ·  have:x≠n:=by rintro rfl;exact h v aM
     simp[this]
  ·  rfl
theorem YD {kindOf:Str->Option nG} {x:Str}:∀{binds:List (Str×Value)} {m:Str->Option Value},(∀v,(x,v)∉binds)->Qi kindOf binds m x=m x
 | [],_,_=>rfl
 | (n,v)::r,m,h=>by
  unfold Qi;rw[YD fun w hw=>h w (aL _ hw)];split
  ·  rfl
  ·  have:x≠n:=by rintro rfl;exact h v aM
     simp[this]
theorem YE {kindOf:Str->Option nG} {x:Str} {v:Value}:∀{P:List Str} {vs:List Value} {i:Nat} {m:Str->Option Value},P.Nodup->P[i]?=some x->vs[i]?=some v->kindOf x=some .local->
  Qj kindOf (P.zip vs) m x=some v
 | [],_,_,_,_,h,_,_=>by simp at h
 | _::_,[],_,_,_,_,h,_=>by simp at h
 | p::P,w::vs,0,m,nd,h1,h2,hk=>by simp at h1 h2;subst h1;subst h2;show Qj kindOf ((p,w)::P.zip vs) m p=_;unfold Qj;rw[YF fun v hv=>(dZ.mp nd).1 (oY hv).1,if_pos hk];simp
 | p::P,w::vs,i+1,m,nd,h1,h2,hk=>by show Qj kindOf ((p,w)::P.zip vs) m x=_;unfold Qj;exact YE (i:=i) (dZ.mp nd).2 (by simpa using h1) (by simpa using h2) hk
theorem YC {kindOf:Str->Option nG} {x:Str} {v:Value}:∀{P:List Str} {vs:List Value} {i:Nat} {m:Str->Option Value},P.Nodup->P[i]?=some x->vs[i]?=some v->kindOf x≠some .local->
  Qi kindOf (P.zip vs) m x=some v
 | [],_,_,_,_,h,_,_=>by simp at h
 | _::_,[],_,_,_,_,h,_=>by simp at h
 | p::P,w::vs,0,m,nd,h1,h2,hk=>by simp at h1 h2;subst h1;subst h2;show Qi kindOf ((p,w)::P.zip vs) m p=_;unfold Qi;rw[YD fun v hv=>(dZ.mp nd).1 (oY hv).1,if_neg hk];simp
 | p::P,w::vs,i+1,m,nd,h1,h2,hk=>by show Qi kindOf ((p,w)::P.zip vs) m x=_;unfold Qi;exact YC (i:=i) (dZ.mp nd).2 (by simpa using h1) (by simpa using h2) hk
noncomputable def start (N:List Str) (vs:List V):St:=vs.map some++List.replicate (N.length - vs.length) none
noncomputable def XA (CX:Qr) (P:dF) (w:eW) (K:aB) (mg:Str->Option Value) (base:gF) (N:List Str) (qual:Str) (scope:zI) (f:aQ) (cd:Value) (A:jW) (outer:List Env) (s:aV) (H:Hp) (E:XK):Cx where
 prog:=P
 w:=w
 K:=K
 mg:=mg
 base:=base
 A:=A.deeper (tZ qual scope s.heap.objs.size f cd)
 N:=N
 s_0:=s
 H_0:=H
 env:=tZ qual scope s.heap.objs.size f cd
 outer:=outer
 stack:=tZ qual scope s.heap.objs.size f cd::outer
 ex:=[]
 calm:=true
 fn:=fun _=>true
 pn:=[]
 xe:=fun e s'=>bJ (cC P w) (A.deeper (tZ qual scope s.heap.objs.size f cd)) (leaving (tZ qual scope s.heap.objs.size f cd) e) (fun _ s''=>CX outer H s E e s'') (fun e' s''=>CX outer H s E e' s'') s'
theorem Ed {sc:zI} {n:Nat} {x:Str} (h:sc.names.lookup x=some .cell):∃c,(iF n sc.names []).lookup x=some c:=by have q:=An sc.names n [] (.inl h);exact XU.mp q
theorem Oi {CX:Qr} {P:dF} {w:eW} {K:aB} {mg:Str->Option Value} {base:gF} {N ps:List Str} {qual:Str} {scope:zI} {f:aQ} {cd:Value} {A:jW} {outer:List Env} {s s1:aV} {H:Hp} {E:XK} {us:List Value} {vs:List V}
  (S:QV N ps scope) (hd:A.handled=none) (e0:Ig P w K mg base A outer s H) (hl:vs.length=ps.length) (r:gB vs us)
  (x:InCallC s s.heap.objs.size (Qj (tZ qual scope s.heap.objs.size f cd).kindOf (ps.zip us) fun _=>none) (iF (s.heap.objs.size+1) scope.names []) (Qi (tZ qual scope s.heap.objs.size f cd).kindOf (ps.zip us) fun _=>none) s1):
  dH (XA CX P w K mg base N qual scope f cd A outer s H E) [] (start N vs) H s1:=by
 have hpl:ps.length<=N.length:=by have:=congrArg sQ S.pre;rw[bK]at this;omega
 obtain⟨h1,tk,rfl,hk⟩:=x.done;have noA:∀b:aQ,b∉(XA CX P w K mg base N qual scope f cd A outer s H E).ex:=fun b z=>absurd (show b∈([]:List aQ)from z) (by simp);refine⟨⟨e0.mod,S.kind,rfl,rfl,aR _,fun y z c h1 h2=>?_,fun y hy=>?_,fun y c _ h=>?_,fun _=>hd,Around.frames_deeper e0.frames,.inr ⟨rfl,rfl⟩,fun b z=>absurd z (noA b),e0.bs,e0.bsz,fun b _ _=>noA b,fun b z=>absurd z (noA b),e0.funs,e0.frf⟩,rfl,e0.bare,Un.kept hk,⟨_,x.toInCall.ns,fun i y v h1 h2 h3=>?_⟩,fun y c h=>⟨_,x.cell y c h⟩,e0.hok.fresh (aR _),fun y c h=>?_,fun p hp=>absurd (show p∈([]:List (aQ×Obj))from hp) (by simp),e0.hok.kept hk,?_⟩
 ·exact name_of_addr x.apart (dQ h1) (dQ h2)
 ·have hy:scope.names.lookup y=some .cell\/scope.names.lookup y=some .free:=hy;rcases hy with hy | hy
  ·exact Ed hy
  ·exact absurd rfl (S.nofree _ (dQ hy))
 ·exact Hu (x.above y c (dQ h))
 ·have hi:i < vs.length:=by
   unfold start at h2;by_cases hi:i < vs.length
   ·exact hi
   ·rw[gO (by simpa using hi)]at h2;rw[List.getElem?_replicate]at h2;split at h2<;>cases h2
  have ha:vs[i]?=some v:=by
   unfold start at h2;rw[Ai (by simpa using hi),bX]at h2;cases e:vs[i]? with
   | none=>rw[e]at h2;cases h2
   | some a=>rw[e]at h2;cases h2;rfl
  obtain⟨u,hu,rv⟩:=r.get ha;have hp:ps[i]?=some y:=by rw[<-S.pre,List.getElem?_take_of_lt (by omega)];exact h1
  have ndP:ps.Nodup:=by rw[<-S.pre];exact S.nd.sublist (List.take_sublist _ _)
  refine⟨u,rv,?_⟩;rcases S.par y (bB hp)with k | k
  ·exact .inl ⟨k,YE ndP hp hu k⟩
  ·obtain⟨c,e⟩:=Ed (n:=s.heap.objs.size+1) k;refine .inr ⟨.inl k,c,e,?_⟩;have q:=x.cell y c e;rw[YC ndP hp hu (by show scope.names.lookup y≠_;rw[k];decide)]at q;exact q
 ·exact e0.hok.fresh (Hu (x.above y c (dQ h)))
 ·unfold start;show _=N.length;rw[aC,aJ,List.length_replicate];omega
theorem Zt {CX:Qr} {P:dF} {w:eW} {K:aB} {mg:Str->Option Value} {base:gF} {k:Nat} {f:aQ} {name qual:Str} {params:Arguments} {body:List wS} {scope:zI} {dV kV doc pm cdv ct oc:Value} {an od:Option aQ}
  {osl:Array (Option Value)} {N ps:List Str} {sp:Sp} (lk:K.lookup f=some ⟨oc,od,.func (kO name qual params body scope dV kV doc pm an cdv ct),osl⟩) (hcd:sX K cdv qual=true) (S:QV N ps scope)
  (len:∀vs H Q E,sp vs H Q E->vs.length=ps.length)
  (hbody:∀(A:jW) (outer:List Env) (s:aV) (H:Hp) (vs:List V) (Q:VK) (E:XK),jI k (A.deeper (tZ qual scope s.heap.objs.size f cdv))->sp vs H Q E->∃t,Qn (XA CX P w K mg base N qual scope f cdv A outer s H E) body t/\t {nx:=fun _ H'=>Q .non H',rt:=Q} (start N vs) H):
  vU P w K mg base CX (k+1) f (kO name qual params body scope dV kV doc pm an cdv ct) ps sp:=by
 refine⟨len,fun A outer s H args us vs Q E hr e0 hb r hsp=>?_⟩;have hl:=len _ _ _ _ hsp;have KX:K.In s.heap:=e0.mod.kin.keeps fun b o e=>(e0.bs b o e).1;have lim:s.heap.NoLimit:=e0.mod.nolimit.keeps fun b o e=>(e0.bs b o e).1;have hkind:∀y∈ps.zip us,scope.names.lookup y.1=some .local\/(scope.names.lookup y.1=some .cell/\((iF (s.heap.objs.size+1) scope.names []).lookup y.1).isSome=true):=fun⟨n,v⟩ hy=>by
  rcases S.par n (oY hy).1 with q | q
  ·exact .inl q
  ·exact .inr ⟨q,An _ _ _ (.inl q)⟩
 refine codeAny_call_function hr.depth (KX _ _ lk) rfl S.co S.gen rfl (PySem.W.codeRec_of KX hcd) (hb _ _ _ _ ?_);refine wpAny_newFunctionEnv_cells S.kind hkind fun env he s1 x=>?_;subst he;refine⟨lim.keeps x.toInCall.keep,codeAny_func ?_⟩;obtain⟨t,ht,hq⟩:=hbody A outer s H vs Q E (hr.deeper _) hsp;have I:dH (XA CX P w K mg base N qual scope f cdv A outer s H E) [] (start N vs) H s1:=Oi S hr.hd e0 hl r x;refine fZ (ht [] s1 (start N vs) H _ I hq) (fun fl s' hs=>?_) fun e s' hs=>hs;have fin:∀{σ':St} {H':Hp} {v:V} {u:Value},dH (XA CX P w K mg base N qual scope f cdv A outer s H E) [] σ' H' s'->gN v u->Q v H'->CE outer P w H s Q u s':=fun {σ' H' v u} J rv q=>⟨v,H',J.os,J.bare,J.base,J.hok,rv,q⟩;cases fl with
 | ret u=>obtain⟨v,σ',H',J,rv,q⟩:=hs;exact fin J rv q
 | next=>obtain⟨σ',H',J,q⟩:=hs;exact fin (v:=V.non) (u:=sK) J rfl q
 | brk=>obtain⟨_,_,_,q⟩:=hs;exact eN q
 | cont=>obtain⟨_,_,_,q⟩:=hs;exact eN q
section
variable {X:Cx} {x:Str} {p pos:Pos} {e:Expr} {es:List Expr} {t:TA} {id T:String} {r:List V->Hp->VK->Prop}
noncomputable def L3 (r:List V->Hp->VK->Prop) (t:TA):TE:=fun σ H Q=>t σ H fun vs H1=>r vs H1 Q
theorem cY (hc:DK X (.builtin id) r) (hg:Gl X x) (hm:X.mg x=none) (hv:vS x=some (.builtin id)) (ha:PA X (e::es) t) (hn:x≠"__name__":=by decide) (hdb:(x == ("__debug__":Str))=false:=by decide)
  (he:bO (e::es) X.env=(false,hX e X.env)::bO es X.env:=by rfl) (hpl:(jH pos (bO es X.env)).any (·.1)=false:=by rfl):PE X (.Call (.Name x p) (e::es) [] pos) (L3 r t):=by
 intro pins s σ H Q I h;refine hZ (uG I hg hm hv ?_ hn hdb);exact PyProof.Rows.callWith_builtin1 (kY (ha pos pins s σ H _ I h) fun us s1 ⟨vs,H1,I1,r1,q1⟩=>hc pins s1 σ H1 vs us Q I1 r1 q1) he hpl
theorem lO (hc:DK X (.type T) r) (hg:Gl X x) (hm:X.mg x=none) (hv:vS x=some (.type T)) (ha:PA X (e::es) t) (hn:x≠"__name__":=by decide) (hdb:(x == ("__debug__":Str))=false:=by decide)
  (he:bO (e::es) X.env=(false,hX e X.env)::bO es X.env:=by rfl) (hpl:(jH pos (bO es X.env)).any (·.1)=false:=by rfl):PE X (.Call (.Name x p) (e::es) [] pos) (L3 r t):=by
 intro pins s σ H Q I h;refine hZ (uG I hg hm hv ?_ hn hdb);exact fW (kY (ha pos pins s σ H _ I h) fun us s1 ⟨vs,H1,I1,r1,q1⟩=>hc pins s1 σ H1 vs us Q I1 r1 q1) he hpl
end
end L2
section
namespace HT
open PySem PyProof.Rows
section
variable {prog:dF} {w:eW} {A:jW} {E:Value->aV->Prop} {s:aV}
theorem Uh (ht:Qc s.heap t vs.toArray) (hb:Qc s.heap b ws.toArray) (hv:vs≠[])
  (h1:ws=[]->Q (.ref t) s) (h2:ws≠[]->Q (.ref s.heap.objs.size) {s with heap:=s.heap.push {cls:=.type "tuple",data:=.seq (vs++ws).toArray}})
  (hsz:vs.length+ws.length<=aU):bJ (cC prog w) A (GI .Add (.ref t) (.ref b)) Q E s:=by
 obtain⟨⟨cls,dd,data,sl⟩,ho,hc,n,hd⟩:=id ht;obtain⟨⟨cls2,dd2,data2,sl2⟩,ho2,hc2,n2,hd2⟩:=id hb;simp only at hc hd hc2 hd2;subst hc hd hc2 hd2;have e:vs.toArray++ws.toArray=(vs++ws).toArray:=by simp
 by_cases hw:ws=[]
 ·exact concat_meets ⟨_,ho,rfl⟩ ⟨_,ho2,rfl⟩ Ao Nd AM zJ (yN _ _)
   (tuple_addW1 t b vs.toArray ws.toArray n n2 dd dd2 sl sl2 (by simpa using hv) (by simp[hw])) ⟨ho,ho2,h1 hw⟩
 ·refine concat_meets ⟨_,ho,rfl⟩ ⟨_,ho2,rfl⟩ Ao Nd AM zJ (yN _ _)
   (tuple_addW2 t b vs.toArray ws.toArray n n2 dd dd2 sl sl2 (by simpa using hv) (by simpa using hw) (by rw[bN,bN];exact hsz)) ⟨ho,ho2,?_⟩
  rw[e];exact h2 hw
noncomputable def rT (n d:Nat):Option Int->Nat
 | none=>d
 | some v=>if v < 0 then (v+(n:Int)).toNat else min v.toNat n
theorem Go (n d:Nat):rT n d none=d:=rfl
theorem RG (n d k:Nat):rT n d (some (k:Int))=min k n:=by show(if (k:Int) < 0 then ((k:Int)+(n:Int)).toNat else min (k:Int).toNat n)=min k n;rw[if_neg (by omega),QA]
theorem Yb (n d:Nat) (hd:d<=n) (o:Option Int):rT n d o<=n:=by
 cases o with
 | none=>exact hd
 | some v=>
  show(if v < 0 then (v+(n:Int)).toNat else min v.toNat n)<=n;by_cases hv:v < 0
  ·rw[if_pos hv];omega
  ·rw[if_neg hv];exact Nat.min_le_right _ _
theorem Ld (v:Int) (n d:Nat):(if v < 0 then max (v+(n:Int)) 0 else min v (n:Int))=((rT n d (some v):Nat):Int):=by
 show(if v < 0 then max (v+(n:Int)) 0 else min v (n:Int))=(((if v < 0 then (v+(n:Int)).toNat else min v.toNat n):Nat):Int);by_cases hv:v < 0
 ·simp only[if_pos hv];omega
 ·simp only[if_neg hv];omega
theorem Ir (lo hi:Option Int) (n:Nat):vR lo hi 1 (n:Int)=(((rT n 0 lo:Nat):Int),((rT n n hi:Nat):Int)):=by
 have h1:¬((1:Int) < 0):=by omega
 unfold vR;simp only[h1,if_false];refine Prod.ext ?_ ?_
 ·cases lo with
  | none=>rfl
  | some v=>exact Ld v n 0
 ·cases hi with
  | none=>rfl
  | some v=>exact Ld v n n
theorem Jy (i j:Nat):oZ (i:Int) (j:Int) 1=j - i:=by
 unfold oZ;have h1:(1:Int) > 0:=by omega
 simp only[h1,if_true,Int.ediv_one];split<;>omega
theorem VI (p:MX v o) (h:Q o s):bJ (cC prog w) A (Builtin.Slice.slicePartIndex v) Q E s:=by
 cases p with
 | none=>exact slicePart_none h
 | int i t=>exact slicePart_int h
theorem AE {sl:aQ} {vl vu:Value} {lo hi:Option Int} {n:Nat} {Q:Int×Int×Nat->aV->Prop} (hs:s.heap.IsSliceOf sl vl vu .none) (pl:MX vl lo) (pu:MX vu hi)
  (h:Q (((rT n 0 lo:Nat):Int),1,rT n n hi - rT n 0 lo) s):bJ (cC prog w) A (JU (.ref sl) (pure (n:Int))) Q E s:=by
 obtain⟨os,hos,hcs,hds⟩:=id hs;unfold JU Builtin.Slice.sliceFields;refine aF (aF (jV hos hds (x:=vl) rfl (aF (jV hos hds (x:=vu) rfl (aF (jV hos hds (x:=.none) rfl (aZ ?_)))))));refine aF (slicePart_none ?_);show bJ _ _ (if ((1:Int) == 0)=true then _ else _) _ _ s;rw[if_neg (by decide)];refine aF (VI pl (aF (VI pu (aF (aZ ?_)))));show bJ _ _ (match vR lo hi 1 (n:Int)with | (lo,hi)=>pure (lo,(1:Int),oZ lo hi 1)) _ _ s;rw[Ir lo hi n];show bJ _ _ (pure (((rT n 0 lo:Nat):Int),(1:Int),oZ ((rT n 0 lo:Nat):Int) ((rT n n hi:Nat):Int) 1)) _ _ s;rw[Jy];exact aZ h
theorem Sy (xs:Array Value) (i k:Nat):((MU k).filterMap fun(m:Nat)=>xs[((i:Int)+(m:Int) * 1).toNat]?).toArray=((xs.toList.drop i).take k).toArray:=by
 have e:(fun(m:Nat)=>xs[((i:Int)+(m:Int) * 1).toNat]?)=fun m=>xs[i+m]?:=by
  funext m;have:((i:Int)+(m:Int) * 1).toNat=i+m:=by omega
  rw[this]
 rw[e];have:=pick_run xs i k;rw[List.filterMap_map]at this;have e2:((fun x=>xs[x]?)∘fun x=>i+x)=fun m=>xs[i+m]?:=rfl;rw[e2]at this;rw[this]
theorem KU {t sl:aQ} {items:Array Value} {vl vu:Value} {lo hi:Option Int} {Q:Value->aV->Prop} (ht:Qc s.heap t items) (hs:s.heap.IsSliceOf sl vl vu .none) (pl:MX vl lo) (pu:MX vu hi)
  (hw:¬(rT items.size 0 lo=0/\rT items.size items.size hi=items.size))
  (h:Q (.ref s.heap.objs.size) {s with heap:=s.heap.push {cls:=.type "tuple",data:=.seq ((items.toList.drop (rT items.size 0 lo)).take (rT items.size items.size hi - rT items.size 0 lo)).toArray}})
  (hsz:items.size<=aU):bJ (cC prog w) A (DB (.ref t) (.ref sl)) Q E s:=by
 have htake:sizeOk (.seq ((items.toList.drop (rT items.size 0 lo)).take (rT items.size items.size hi - rT items.size 0 lo)).toArray):=by show((items.toList.drop (rT items.size 0 lo)).take (rT items.size items.size hi - rT items.size 0 lo)).toArray.size<=aU;rw[bN,bK,cX,jF];omega
 have hj:rT items.size items.size hi<=items.size:=Yb _ _ (aR _) hi;obtain⟨os,hos,hcs,hds⟩:=id hs;have hTs:s.TypeIs (.ref sl) "slice":=⟨os,hos,hcs⟩;unfold DB;try with_reducible refine iN ?_
 first | refine aF (aZ ?_) | skip
 refine aF (wpAny_sequenceKey ht.typeIs (by decide) ?_);refine aF (lC (name:=kD "__getitem__") ht.typeIs lK (sL lK ht.typeIs entry_tuple_getitem ?_ (args_tuple_getitem _ _)));show bJ _ _ (JV (.ref t) >>= _) _ _ s;refine aF (tupleItemsOf_ ht ?_);refine aF (wpAny_typeOf hTs ?_);rw[if_pos (by decide)];refine aF (AE hs pl pu ?_);have hno:¬((((rT items.size 0 lo:Nat):Int) == 0 && (1:Int) == 1 && (rT items.size items.size hi - rT items.size 0 lo) == items.size)=true):=by intro q;rw[aE,aE]at q;have q1:((rT items.size 0 lo:Nat):Int)=0:=eq_of_beq q.1.1;have q2:rT items.size items.size hi - rT items.size 0 lo=items.size:=eq_of_beq q.2;exact hw ⟨by omega,by omega⟩
 show bJ _ _ (if (((rT items.size 0 lo:Nat):Int) == 0 && (1:Int) == 1 && (rT items.size items.size hi - rT items.size 0 lo) == items.size)=true then _ else _) _ _ s;rw[if_neg hno,Sy];first
  | exact aF (m:=pE _) (eO (aZ ⟨_,rfl,aZ h⟩) htake)
  | exact aF (m:=pE _) (eO (aF (aZ (aZ ⟨_,rfl,aZ h⟩))) htake)
  | exact aF (aF (m:=pE _) (eO (aZ (aZ ⟨_,rfl,aZ h⟩)) htake))
  | exact aF (aF (m:=pE _) (eO (aZ ⟨_,rfl,aZ h⟩) htake))
end
end HT
end
namespace L2
open PySem PySem.Spec PyProof.Rows
open PySem.W (Frag)
noncomputable abbrev TO:=St->Hp->(Option Int->Hp->Prop)->Prop
def PO (X:Cx) (e:Option Expr) (t:TO):Prop:=∀(pins:List (aQ×Obj)) (s:aV) (σ:St) (H:Hp) (Q:Option Int->Hp->Prop),dH X pins σ H s->t σ H Q->bJ (cC X.prog X.w) X.A (evalPart e X.env) (fun u s'=>∃o H',dH X pins σ H' s'/\MX u o/\Q o H') X.xe s
noncomputable def Wc:TO:=fun _ H Q=>Q none H
inductive Wr (Q:Option Int->Hp->Prop) (x:V) (H1:Hp):Prop
 | mk (i:_):x=.int i->Q (some i) H1->Wr Q x H1
noncomputable def D6 (t:TE):TO:=fun σ H Q=>t σ H fun x H1=>Wr Q x H1
theorem Ji:∀{us:List Value},gB (ns.map V.int) us->IntsAre us ns:=by
 induction ns with
 | nil=>intro us r;rw[CV]at r;cases r;exact .nil
 | cons n ns ih=>
  intro us r;rw[aP]at r;cases r with
  | cons r1 r2=>obtain⟨t,e⟩:=r1;subst e;exact .cons n t (ih r2)
section
variable {X:Cx} {e:Expr} {te:TE} {lo hi:Option Expr} {tl th:TO} {pos p2:Pos}
theorem GA:PO X none Wc:=by intro pins s σ H Q I h;rw[evalPart_none];exact aZ ⟨none,H,I,.none,h⟩
theorem yG (h:PE X e te):PO X (some e) (D6 te):=by intro pins s σ H Q I hw;rw[evalPart_some];refine kY (h pins s σ H _ I hw) fun u s1 ⟨x,H1,I1,r1,q1⟩=>?_;obtain⟨i,rfl,q⟩:=q1;obtain⟨t,rfl⟩:=r1;exact⟨some i,H1,I1,.int i t,q⟩
def E7 (X:Cx) (r:V->Option Int->Option Int->Hp->VK->Prop):Prop:=∀(pins:List (aQ×Obj)) (s:aV) (σ:St) (H:Hp) (x:V) (v vl vu:Value) (lo hi:Option Int) (sl:aQ) (Q:VK),dH X pins σ H s->gN x v->s.heap.IsSliceOf sl vl vu .none->MX vl lo->MX vu hi->r x lo hi H Q->∃T id,typeLookup (.type T) "__getitem__"=pure (some (.builtin id))/\s.TypeIs v T/\bJ (cC X.prog X.w) X.A (DB v (.ref sl)) (EP X pins σ Q) X.xe s
noncomputable def M7 (r:V->Option Int->Option Int->Hp->VK->Prop) (te:TE) (tl th:TO):TE:=fun σ H Q=>te σ H fun x H1=>tl σ H1 fun l H2=>th σ H2 fun u H3=>r x l u H3 Q
theorem xE (hr:E7 X r) (he:PE X e te) (hl:PO X lo tl) (hu:PO X hi th):PE X (.Subscript e (.Slice lo hi none p2) pos) (M7 r te tl th):=by intro pins s σ H Q I h;refine Subscript_ (kY (he pins s σ H _ I h) fun v s1 ⟨x,H1,I1,r1,q1⟩=>?_);refine wpAny_Slice (kY (hl pins s1 σ H1 _ I1 q1) fun vl s2 ⟨l,H2,I2,pl,q2⟩=>kY (hu pins s2 σ H2 _ I2 q2) fun vu s3 ⟨u,H3,I3,pu,q3⟩=>?_);rw[evalPart_none];refine aZ ?_;have I4:dH X pins σ H3 {s3 with heap:=s3.heap.push {cls:=.type "slice",data:=.fields #[vl,vu,.none]}}:=I3.kept (t':=s3.toks) fun b ob q=>aG _ q;obtain⟨T,id,hT,ht,hg⟩:=hr pins {s3 with heap:=s3.heap.push {cls:=.type "slice",data:=.fields #[vl,vu,.none]}} σ H3 x v vl vu l u s3.heap.objs.size Q I4 r1 (Heap.IsSliceOf.new ..) pl pu q3;show bJ (cC X.prog X.w) X.A (Mw e (.Slice lo hi none p2) v (.ref s3.heap.objs.size)) (EP X pins σ Q) X.xe {s3 with heap:=s3.heap.push {cls:=.type "slice",data:=.fields #[vl,vu,.none]}};exact tail_any (ops:=[.ref s3.heap.objs.size,v]) ht hT hg (by with_unfolding_all rfl)
noncomputable def CT (xs:List V) (lo hi:Option Int):List V:=(xs.drop (HT.rT xs.length 0 lo)).take (HT.rT xs.length xs.length hi - HT.rT xs.length 0 lo)
theorem OG (xs:List V) (lo hi:Option Int):(CT xs lo hi).length<=xs.length:=by unfold CT;rw[bK,cX];omega
noncomputable def J2 (K:aB):V->Option Int->Option Int->Hp->VK->Prop:=fun x lo hi H Q=>∃a xs,x=.ref a/\fK K H a xs/\¬(HT.rT xs.length 0 lo=0/\HT.rT xs.length xs.length hi=xs.length)/\∀p,H p=none->Q (.ref p) (upd H p (.tup (CT xs lo hi)))
theorem Ye:E7 X (J2 X.K):=by
 intro pins s σ H x v vl vu lo hi sl Q I rx hs pl pu h;obtain⟨a,xs,rfl,hx,hw,q⟩:=h;cases rx;obtain⟨eG,r,ht,hz⟩:=I.tuple hx;have hlen:eG.toArray.size=xs.length:=by rw[bN];exact r.length.symm
 refine⟨"tuple",_,PyProof.Rows.slot_tuple_getitem.lookup,ht.typeIs,?_⟩;refine HT.KU ht hs pl pu (by rw[hlen];exact hw) ?_ (by rw[hlen];exact hz);rw[hlen];refine⟨.ref s.heap.objs.size,_,I.laid (t':=s.toks) (o:=.tup (CT xs lo hi)) (fun b ob q=>aG _ q) (aR _) ?_,rfl,q _ (I.hok.fresh (aR _))⟩;exact⟨bI (OG xs lo hi) hz,_,(r.drop (HT.rT xs.length 0 lo)).take (HT.rT xs.length xs.length hi - HT.rT xs.length 0 lo),RX.new _ _⟩
noncomputable def C7 (K:aB):R2:=fun x y H Q=>∃a b xs ys,x=.ref a/\y=.ref b/\fK K H a xs/\fK K H b ys/\xs≠[]/\xs.length+ys.length<=aU/\(ys=[]->Q (.ref a) H)/\(ys≠[]->∀p,H p=none->Q (.ref p) (upd H p (.tup (xs++ys))))
theorem gB.nil_iff (r:gB xs us):us=[]↔xs=[]:=by
 cases r with
 | nil=>simp
 | cons _ _=>simp
theorem Vi:Av X (GI .Add) (C7 X.K):=by intro pins s σ H x y v u Q I rx ry h;obtain⟨a,b,xs,ys,rfl,rfl,ha,hb,hx,hz,q1,q2⟩:=h;cases rx;cases ry;obtain⟨eG,r1,p1,_⟩:=I.tuple ha;obtain⟨its2,r2,p2,_⟩:=I.tuple hb;refine HT.Uh p1 p2 (fun z=>hx (r1.nil_iff.mp z)) (fun z=>⟨.ref a,H,I,rfl,q1 (r2.nil_iff.mp z)⟩) (fun z=>?_) (by rw[<-r1.length,<-r2.length];exact hz);refine⟨.ref s.heap.objs.size,_,I.laid (t':=s.toks) (o:=.tup (xs++ys)) (fun b ob q=>aG _ q) (aR _) ?_,rfl,q2 (fun w=>z (r2.nil_iff.mpr w)) _ (I.hok.fresh (aR _))⟩;exact⟨by rw[aC];exact hz,_,r1.append r2,RX.new _ _⟩
end
noncomputable def Yx (n:Nat) (i:Int):Option Nat:=if 0<=i then (if i < n then some i.toNat else none)else if -(n:Int)<=i then some (i+n).toNat else none
noncomputable def Ue {α:Type} (xs:List α) (i:Int):Option α:=(Yx xs.length i).bind fun j=>xs[j]?
theorem Uq (h:Yx n i=some j):seqIndex? i n=some j/\j < n/\ -(n:Int)<=i/\i < n:=by
 unfold Yx at h;by_cases h0:0<=i
 ·rw[if_pos h0]at h;by_cases h1:i < n
  ·rw[if_pos h1]at h;have e:i.toNat=j:=cP h;exact⟨by rw[seqIndex_of h0 h1,e],by omega,by omega,h1⟩
  ·rw[if_neg h1]at h;cases h
 ·rw[if_neg h0]at h;by_cases h1: -(n:Int)<=i
  ·rw[if_pos h1]at h;have e:(i+n).toNat=j:=cP h;exact⟨by rw[seqIndex_neg (by omega) h1,e],by omega,h1,by omega⟩
  ·rw[if_neg h1]at h;cases h
theorem Ax (h:Ue xs i=some v):∃j,seqIndex? i xs.length=some j/\xs[j]?=some v/\j < xs.length/\ -(xs.length:Int)<=i/\i < xs.length:=by
 unfold Ue at h;cases e:Yx xs.length i with
 | none=>rw[e]at h;cases h
 | some j=>rw[e]at h;obtain⟨h1,h2,h3,h4⟩:=Uq e;exact⟨j,h1,h,h2,h3,h4⟩
theorem gC {α:Type} {xs:List α} {j:Nat} {v:α} (h:xs[j]?=some v):Ue xs (j:Int)=some v:=by
 have hj:j < xs.length:=(aT.mp h).1;have e:Yx xs.length (j:Int)=some j:=by unfold Yx;rw[if_pos (by omega),if_pos (by omega)];simp
 unfold Ue;rw[e];exact h
def Ub (b:Expr):Prop:=∀o i,Di b false o i=operate [o,i] (DB o i)
def E3 (X:Cx) (r:R2):Prop:=∀(value slice:Expr) (pins:List (aQ×Obj)) (s:aV) (σ:St) (H:Hp) (x y:V) (v u:Value) (Q:VK),dH X pins σ H s->gN x v->gN y u->r x y H Q->Di slice false v u=operate [v,u] (DB v u)->bJ (cC X.prog X.w) X.A (Mw value slice v u) (EP X pins σ Q) X.xe s
def Yr (X:Cx) (id:String) (r:V->List V->Hp->VK->Prop):Prop:=∀(pins:List (aQ×Obj)) (s:aV) (σ:St) (H:Hp) (x:V) (xs:List V) (v:Value) (us:List Value) (Q:VK),dH X pins σ H s->gN x v->gB xs us->r x xs H Q->bJ (cC X.prog X.w) X.A (call (.builtin id) (v::us)) (EP X pins σ Q) X.xe s
section
variable {X:Cx} {a b:Expr} {ta tb:TE} {pos:Pos}
theorem fN (hr:E3 X r) (ha:PE X a ta) (hb:PE X b tb) (hs:Ub b):PE X (.Subscript a b pos) (D5 r ta tb):=by intro pins s σ H Q I h;exact Subscript_ (Xi ha hb I h fun v u s2 x y H2 I2 rx ry q=>hr a b pins s2 σ H2 x y v u Q I2 rx ry q (hs _ _))
noncomputable def G8 (K:aB):R2:=fun x y H Q=>∃p xs i v,x=.ref p/\y=.int i/\hJ K H p xs/\Ue xs i=some v/\Q v H
noncomputable def I0 (K:aB):R2:=fun x y H Q=>∃p xs i v,x=.ref p/\y=.int i/\fK K H p xs/\Ue xs i=some v/\Q v H
noncomputable def G9:R2:=fun x y H Q=>∃z i c,x=.str z/\y=.int i/\z.length<=aU/\Ue z.cps.toList i=some c/\Q (.str ⟨#[c]⟩) H
theorem rD:E3 X (G8 X.K):=by
 intro value slice pins s σ H x y v u Q I rx ry h hs;obtain⟨p,xs,i,z,rfl,rfl,hq,he,q⟩:=h;cases rx;obtain⟨t,rfl⟩:=ry;obtain⟨eG,r,pl,hz⟩:=I.list hq;obtain⟨j,h1,h2,h3,h4,h5⟩:=Ax he;obtain⟨w,ew,rw'⟩:=r.get h2;have hl:=r.length;have hn:=TY;have fin:EP X pins σ Q w s:=⟨z,H,I,rw',q⟩;by_cases h0:0<=i
 ·have hj:i.toNat=j:=by rw[seqIndex_of h0 h5]at h1;exact cP h1
  exact item_listR pl.isList h0 (by omega) (by rw[hj];simpa using ew) fin hs
 ·have hj:(i+(eG.toArray.size:Int)).toNat=j:=by rw[seqIndex_neg (by omega) h4]at h1;rw[bN,<-hl];exact cP h1
  exact subscriptTail_builtinR (x:=w) pl.isList.typeIs slot_list_getitem.lookup
   (wpAny_getItem_list_neg (Q:=fun r s'=>r=w/\EP X pins σ Q r s') pl.isList (by omega) (by rw[bN]<;>omega) (by omega) (by rw[hj];simpa using ew) ⟨rfl,fin⟩) hs
theorem fV:E3 X (I0 X.K):=by
 intro value slice pins s σ H x y v u Q I rx ry h hs;obtain⟨p,xs,i,z,rfl,rfl,hq,he,q⟩:=h;cases rx;obtain⟨t,rfl⟩:=ry;obtain⟨eG,r,pl,hz⟩:=I.tuple hq;obtain⟨j,h1,h2,h3,h4,h5⟩:=Ax he;obtain⟨w,ew,rw'⟩:=r.get h2;have hl:=r.length;have hn:=TY;have fin:EP X pins σ Q w s:=⟨z,H,I,rw',q⟩;exact subscriptTail_builtinR (x:=w) pl.typeIs slot_tuple_getitem.lookup
  (getItem_tuple (j:=j) (Q:=fun r s'=>r=w/\EP X pins σ Q r s') pl (by omega) (by omega) (by rw[bN,<-hl];exact h1) (by simpa using ew) ⟨rfl,fin⟩) hs
theorem Jn:E3 X G9:=by
 intro value slice pins s σ H x y v u Q I rx ry h hs;obtain⟨z,i,c,rfl,rfl,hz,he,q⟩:=h;obtain⟨t,rfl⟩:=rx;obtain⟨t',rfl⟩:=ry;obtain⟨j,h1,h2,h3,h4,h5⟩:=Ax he;have hl:z.cps.toList.length=z.length:=by simp[Str.length]
 rw[hl]at h1 h4 h5;have hn:=TY;exact tail_any (typeIs_str s z t) slot_str_getitem.lookup (getItem_str (c:=c) (by have e1:decide (i < -(2 ^ 63:Int))=false:=decide_eq_false (by omega);have e2:decide (i ≥ 2 ^ 63)=false:=decide_eq_false (by omega);rw[e1,e2,Bool.or_false]) (by rw[h1];simpa using h2) ⟨.str ⟨#[c]⟩,H,I.tok _,⟨_,rfl⟩,q⟩) hs
theorem Ct (lo hi:Option Int) (n:Nat):(xO lo hi none n).1=((HT.rT n 0 lo:Nat):Int)/\(xO lo hi none n).2.1=((HT.rT n n hi:Nat):Int)/\(xO lo hi none n).2.2=1:=by
 refine⟨?_,?_,rfl⟩
 ·cases lo with
  | none=>simp[xO,HT.rT]
  | some i=>
   simp only[xO,HT.rT,OA,show(1:Int) > 0 by decide,if_true];by_cases h:i < 0
   ·simp only[h,if_true]<;>omega
   ·simp only[h,if_false]<;>omega
 ·cases hi with
  | none=>simp[xO,HT.rT]
  | some i=>
   simp only[xO,HT.rT,OA,show(1:Int) > 0 by decide,if_true];by_cases h:i < 0
   ·simp only[h,if_true]<;>omega
   ·simp only[h,if_false]<;>omega
theorem XM (eG:List Value) (lo hi:Option Int):slicePick eG.toArray lo hi none=((eG.drop (HT.rT eG.length 0 lo)).take (HT.rT eG.length eG.length hi - HT.rT eG.length 0 lo)).toArray:=by obtain⟨h1,h2,h3⟩:=Ct lo hi eG.toArray.size;unfold slicePick;rw[h1,h2,h3];simp only[sliceRange_one,pick_run,bN]<;>rfl
noncomputable def J1 (K:aB):V->Option Int->Option Int->Hp->VK->Prop:=fun x lo hi H Q=>∃a xs,x=.ref a/\hJ K H a xs/\∀p,H p=none->Q (.ref p) (upd H p (.lst (CT xs lo hi)))
theorem Vx:E7 X (J1 X.K):=by intro pins s σ H x v vl vu lo hi sl Q I rx hs pl pu h;obtain⟨a,xs,rfl,hx,q⟩:=h;cases rx;obtain⟨eG,r,ht,hz⟩:=I.list hx;have hlen:=r.length;refine⟨"list",_,slot_list_getitem.lookup,ht.isList.typeIs,?_⟩;refine wpAny_getItem_list_slice ht.isList hs pl pu .none (by simp) ?_ (by rw[bN]<;>omega);rw[XM,<-hlen];refine⟨.ref s.heap.objs.size,_,I.laid (t':=s.toks) (o:=.lst (CT xs lo hi)) (fun b ob q=>aG _ q) (aR _) ?_,rfl,q _ (I.hok.fresh (aR _))⟩;exact⟨bI (OG xs lo hi) hz,_,0,(r.drop (HT.rT xs.length 0 lo)).take (HT.rT xs.length xs.length hi - HT.rT xs.length 0 lo),bQ _ rfl⟩
noncomputable def zV:V->Bool
 | .non=>true
 | .bl _=>true
 | .int _=>true
 | .str _=>true
 | _=>false
noncomputable def Qp:V->V->Bool
 | .non,.non=>true
 | .bl a,.bl b=>a == b
 | .bl a,.int b=>(if a then 1 else 0) == b
 | .int a,.bl b=>a == (if b then 1 else 0)
 | .int a,.int b=>a == b
 | .str a,.str b=>a == b
 | _,_=>false
theorem Xm (ry:gN y u) (rx:gN x v) (fy:zV y=true) (fx:zV x=true):WN A s u v (Qp y x):=by
 cases y with
 | non=>
  cases ry;cases x with
  | non=>cases rx;exact SeqAt.EqAt.same _
  | bl b=>cases rx;exact SeqAt.EqAt.none_bool b
  | int b=>obtain⟨t,rfl⟩:=rx;exact SeqAt.EqAt.none_int b t
  | str b=>obtain⟨t,rfl⟩:=rx;exact SeqAt.EqAt.none_str b t
  | _=>exact absurd (show false=true from fx) cH
 | bl a=>
  cases ry;cases x with
  | non=>cases rx;exact SeqAt.EqAt.bool_none a
  | bl b=>cases rx;exact SeqAt.EqAt.bool_bool a b
  | int b=>obtain⟨t,rfl⟩:=rx;exact SeqAt.EqAt.bool_int a b t
  | str b=>obtain⟨t,rfl⟩:=rx;exact SeqAt.EqAt.bool_str a b t
  | _=>exact absurd (show false=true from fx) cH
 | int a=>
  obtain⟨t',rfl⟩:=ry;cases x with
  | non=>cases rx;exact SeqAt.EqAt.int_none a t'
  | bl b=>cases rx;exact SeqAt.EqAt.int_bool a t' b
  | int b=>obtain⟨t,rfl⟩:=rx;exact SeqAt.EqAt.int_int a t' b t
  | str b=>obtain⟨t,rfl⟩:=rx;exact Df a t' b t
  | _=>exact absurd (show false=true from fx) cH
 | str a=>
  obtain⟨t',rfl⟩:=ry;cases x with
  | non=>cases rx;exact SeqAt.EqAt.str_none a t'
  | bl b=>cases rx;exact SeqAt.EqAt.str_bool a t' b
  | int b=>obtain⟨t,rfl⟩:=rx;exact Dg a t' b t
  | str b=>obtain⟨t,rfl⟩:=rx;exact SeqAt.EqAt.str_str a t' b t
  | _=>exact absurd (show false=true from fx) cH
 | _=>exact absurd (show false=true from fy) cH
noncomputable def Hs (x:V) (u:Value):Bool:=match u with
 | .none=>Qp .non x
 | .bool b=>Qp (.bl b) x
 | .int i _=>Qp (.int i) x
 | .str z _=>Qp (.str z) x
 | _=>false
theorem Bh (r:gN y u) (f:zV y=true):Hs x u=Qp y x:=by
 cases y with
 | non=>cases r;rfl
 | bl b=>cases r;rfl
 | int i=>obtain⟨t,rfl⟩:=r;rfl
 | str z=>obtain⟨t,rfl⟩:=r;rfl
 | _=>exact absurd (show false=true from f) cH
theorem KE:∀{xs:List V} {us:List Value},gB xs us->xs.all zV=true->us.any (Hs x)=xs.any fun y=>Qp y x
 | _,_,.nil,_=>rfl
 | y::xs,u::us,.cons r t,f=>by rw[cR,aE]at f;rw[AH,AH,Bh r f.1,KE t f.2]
theorem AA (rx:gN x v) (fx:zV x=true):∀{xs:List V} {us:List Value},gB xs us->xs.all zV=true->∀u∈us,WN A s u v (Hs x u)
 | _,_,.nil,_=>fun u hu=>by cases hu
 | y::xs,u::us,.cons r t,f=>fun u' hu=>by
  rw[cR,aE]at f;rcases aS.mp hu with rfl | hu
  ·rw[Bh r f.1];exact Xm r rx f.1 fx
  ·exact AA rx fx t f.2 u' hu
noncomputable def Tz (x:V) (xs:List V):Bool:=xs.any fun y=>Qp y x
noncomputable def L0 (K:aB) (neg:Bool):R2:=fun x y H Q=>∃p xs,y=.ref p/\(hJ K H p xs\/fK K H p xs)/\zV x=true/\xs.all zV=true/\Q (.bl (if neg then !Tz x xs else Tz x xs)) H
theorem ZE:Av X (qI .In) (L0 X.K false):=by
 intro pins s σ H x y v u Q I rx ry h;obtain⟨p,xs,rfl,hq,fx,fs,q⟩:=h;cases ry;rcases hq with hq | hq
 ·obtain⟨eG,r,pl,hz⟩:=I.list hq;refine SeqAt.in_listAt (Hs x) pl.isList (fun w hw=>AA rx fx r fs w (by simpa using hw)) ⟨.bl _,H,I,rfl,?_⟩;rw[show eG.toArray.any (Hs x)=eG.any (Hs x)by simp,KE r fs];exact q
 ·obtain⟨eG,r,pl,hz⟩:=I.tuple hq;refine SeqAt.in_tupleAt (Hs x) pl (fun w hw=>AA rx fx r fs w (by simpa using hw)) ⟨.bl _,H,I,rfl,?_⟩;rw[show eG.toArray.any (Hs x)=eG.any (Hs x)by simp,KE r fs];exact q
theorem LN:Av X (qI .NotIn) (L0 X.K true):=by
 intro pins s σ H x y v u Q I rx ry h;obtain⟨p,xs,rfl,hq,fx,fs,q⟩:=h;cases ry;rcases hq with hq | hq
 ·obtain⟨eG,r,pl,hz⟩:=I.list hq;refine SeqAt.notIn_listAt (Hs x) pl.isList (fun w hw=>AA rx fx r fs w (by simpa using hw)) ⟨.bl _,H,I,rfl,?_⟩;rw[show eG.toArray.any (Hs x)=eG.any (Hs x)by simp,KE r fs];exact q
 ·obtain⟨eG,r,pl,hz⟩:=I.tuple hq;refine SeqAt.notIn_tupleAt (Hs x) pl (fun w hw=>AA rx fx r fs w (by simpa using hw)) ⟨.bl _,H,I,rfl,?_⟩;rw[show eG.toArray.any (Hs x)=eG.any (Hs x)by simp,KE r fs];exact q
theorem cW:DK X (.builtin "len") (fun xs H Q=>∃p ys,xs=[.ref p]/\(hJ X.K H p ys\/fK X.K H p ys)/\Q (.int ys.length) H):=by
 intro pins s σ H xs us Q I r h;obtain⟨p,ys,rfl,hq,q⟩:=h;obtain⟨u,rfl,rx⟩:=VZ r;cases rx;have hn:=TY;rcases hq with hq | hq
 ·obtain⟨eG,r',pl,hz⟩:=I.list hq;have hlen:=r'.length;exact Calls.call_len_list pl.isList (by simp only[bN]<;>omega) ⟨.int ys.length,H,I.tok _,⟨s.toks+1,by rw[bN,hlen]⟩,q⟩
 ·obtain⟨eG,r',pl,hz⟩:=I.tuple hq;have hlen:=r'.length;exact len_tuple pl (by simp only[bN]<;>omega) ⟨.int ys.length,H,I.tok _,⟨s.toks+1,by rw[bN,hlen]⟩,q⟩
theorem AY:DK X (.builtin "len") (fun xs H Q=>∃z,xs=[.str z]/\z.length<=aU/\Q (.int z.length) H):=by intro pins s σ H xs us Q I r h;obtain⟨z,rfl,hz,q⟩:=h;obtain⟨u,rfl,t,rfl⟩:=VZ r;have hn:=TY;exact len_str (by omega) ⟨.int z.length,H,I.tok _,⟨_,rfl⟩,q⟩
theorem GR:DK X (.type "tuple") (fun xs H Q=>∃p ys,xs=[.ref p]/\((hJ X.K H p ys/\∀l,H l=none->Q (.ref l) (upd H l (.tup ys)))\/(fK X.K H p ys/\Q (.ref p) H))):=by
 intro pins s σ H xs us Q I r h;obtain⟨p,ys,rfl,h⟩:=h;obtain⟨u,rfl,rx⟩:=VZ r;cases rx;rcases h with⟨hq,q⟩ | ⟨hq,q⟩
 ·obtain⟨eG,r',pl,hz⟩:=I.list hq;have hlen:=r'.length;refine call_tuple_list pl.isList (fun h' kp=>?_) (by simp only[bN]<;>omega);have I1:dH X pins σ H {s with heap:=h'}:=I.kept (t':=s.toks) kp;have I2:dH X pins σ (upd H h'.objs.size (.tup ys)) {s with heap:=h'.push {cls:=.type "tuple",data:=.seq eG.toArray}}:=I1.laid (t':=s.toks) (fun b o e=>aG _ e) (aR _) (show lF X.prog X.w _ _ _ (.tup ys)from⟨hz,eG,r',RX.new _ _⟩);exact⟨.ref h'.objs.size,_,I2,rfl,q _ (I1.hok.fresh (aR _))⟩
 ·obtain⟨eG,r',pl,hz⟩:=I.tuple hq;exact call_tuple_same pl ⟨.ref p,H,I,rfl,q⟩
def K8 (K:aB) (T:String) (x:V) (H:Hp):Prop:=match x with
 | .str _=>T="str"
 | .int _=>T="int"
 | .ref p=>(T="list"/\∃xs,hJ K H p xs)\/(T="tuple"/\∃o,K.lookup p=some o/\o.cls=.type "tuple"/\o.dict=none)\/(T="dict"/\((∃kvs,H p=some (.dK kvs))\/∃kvs,H p=some (.dT kvs)))\/(T="set"/\∃S n,H p=some (.set S n))
 | _=>False
theorem Tr (I:dH X pins σ H s) (r:gN x v) (ty:K8 X.K T x H):
  s.TypeIs v T/\∀a,v=.ref a->∃ob,s.heap.get? a=some ob/\ob.dict=none:=by
 cases x with
 | str z=>obtain⟨t,rfl⟩:=r;cases(show T="str" from ty);exact⟨typeIs_str s z t,fun _ e=>nomatch e⟩
 | int i=>obtain⟨t,rfl⟩:=r;cases(show T="int" from ty);exact⟨typeIs_int s i t,fun _ e=>nomatch e⟩
 | ref p=>
  cases r;rcases ty with⟨rfl,xs,hq⟩ | ⟨rfl,o,hk,hc,hd⟩ | ⟨rfl,hk⟩ | ⟨rfl,S,n,hk⟩
  ·obtain⟨eG,_,pl,_⟩:=I.list hq;refine⟨pl.isList.typeIs,fun a e=>?_⟩;cases e;obtain⟨o,n,e,c,hd,_⟩:=pl;exact⟨o,e,hd⟩
  ·refine⟨⟨o,I.kIn p o hk,hc⟩,fun a e=>?_⟩;cases e;exact⟨o,I.kIn _ o hk,hd⟩
  ·have z:∃o,s.heap.get? p=some o/\o.ExactDict:=by
    rcases hk with⟨kvs,hk⟩ | ⟨kvs,hk⟩
    ·obtain⟨_,_,_,_,o,_,_,e,ex,_⟩:=I.hok p _ hk;exact⟨o,e,ex⟩
    ·obtain⟨_,_,_,_,o,_,_,e,ex,_⟩:=I.hok p _ hk;exact⟨o,e,ex⟩
   obtain⟨o,e,ex⟩:=z;refine⟨⟨o,e,ex.1⟩,fun a e2=>?_⟩;cases e2;exact⟨o,e,ex.2.1⟩
  ·obtain⟨o,_,_,_,e,ex,_⟩:=I.hok p _ hk;refine⟨⟨o,e,ex.1⟩,fun a e2=>?_⟩;cases e2;exact⟨o,e,ex.2.1⟩
 | _=>exact eN ty
noncomputable def J8 (K:aB) (T:String) (r:V->List V->Hp->VK->Prop) (to:TE):TE:=fun σ H Q=>to σ H fun x H1=>K8 K T x H1/\r x [] H1 Q
noncomputable def M4 (K:aB) (T:String) (r:V->List V->Hp->VK->Prop) (to:TE) (t:TA):TE:=fun σ H Q=>to σ H fun x H1=>K8 K T x H1/\t σ H1 fun xs H2=>r x xs H2 Q
variable {o e:Expr} {es:List Expr} {to:TE} {t:TA} {name:Str} {apos cpos:Pos} {T id:String} {r:V->List V->Hp->VK->Prop}
theorem VA (pa:PlainAttrs T) (slot:Slot T name id) (hty:typeOf (.builtin id)=pure (.type "method_descriptor")) (hm:Yr X id r) (ho:PE X o to)
  (hbase:DG o name X.env (hX o X.env)=hX o X.env:=by rfl) (hline:(apos.endLine == cpos.line)=true:=by rfl):PE X (.Call (.Attribute o name apos) [] [] cpos) (J8 X.K T r to):=by
 intro pins s σ H Q I h;refine wpAny_Call_method0_late hbase hline (kY (ho pins s σ H _ I h) fun v s1 ⟨x,H1,I1,r1,ty,q1⟩=>?_);obtain⟨h1,h2⟩:=Tr I1 r1 ty;exact⟨T,id,pa,slot,hty,h1,h2,tT rfl (PySem.evalArgs_none (hm pins s1 σ H1 x [] v [] Q I1 r1 .nil q1))⟩
theorem nM (pa:PlainAttrs T) (slot:Slot T name id) (hty:typeOf (.builtin id)=pure (.type "method_descriptor")) (hm:Yr X id r) (ho:PE X o to) (ha:PA X (e::es) t)
  (hbase:DG o name X.env (hX o X.env)=hX o X.env:=by rfl)
  (hfew:((jH cpos (bO (e::es) X.env)).all (fun x=> !x.1) && (GH cpos (uV [] X.env)).all (fun x=>x.1.isSome) && decide ((e::es).length+([]:List Keyword).length+(if ([]:List Keyword).isEmpty then 0 else 1) < 30))=true:=by rfl)
  (hline:(apos.endLine == cpos.line)=true:=by rfl) (hs:bO (e::es) X.env=(false,hX e X.env)::bO es X.env:=by rfl) (hplain:(jH cpos (bO es X.env)).any (·.1)=false:=by rfl):
  PE X (.Call (.Attribute o name apos) (e::es) [] cpos) (M4 X.K T r to t):=by
 intro pins s σ H Q I h;refine wpAny_Call_method_late hbase hfew hline rfl (kY (ho pins s σ H _ I h) fun v s1 ⟨x,H1,I1,r1,ty,q1⟩=>?_);obtain⟨h1,h2⟩:=Tr I1 r1 ty;refine⟨T,id,pa,slot,hty,h1,h2,?_⟩;have hA:=ha cpos pins s1 σ H1 _ I1 q1;rw[hs]at hA ⊢;refine tT (by show(false || (jH cpos (bO es X.env)).any (·.1))=false;rw[hplain]<;>rfl) (GF ?_);exact kY hA fun us s2 ⟨vs,H2,I2,r2,q2⟩=>hm pins s2 σ H2 x vs v us Q I2 r1 r2 q2
end
def F2 (X:Cx) (id:String) (r:V->List V->Hp->VK->Prop):Prop:=∀(pins:List (aQ×Obj)) (s:aV) (σ:St) (H:Hp) (x:V) (xs:List V) (v:Value) (us:List Value) (Q:VK),dH X pins σ H s->gN x v->gB xs us->r x xs H Q->bJ (cC X.prog X.w) X.A (call (.builtin id) (v::us)) (EP X pins σ Q) X.xe s
theorem gB.one:∀{x:V} {us:List Value},gB [x] us->∃u,us=[u]/\gN x u
 | _,_,.cons r .nil=>⟨_,rfl,r⟩
theorem gB.zero:∀{us:List Value},gB [] us->us=[]
 | _,.nil=>rfl
theorem gB.dropLast (h:gB xs us):gB xs.dropLast us.dropLast:=by
 induction h with
 | nil=>exact .nil
 | cons r t ih=>
  cases t with
  | nil=>exact .nil
  | cons q t'=>exact .cons r ih
theorem Jd (l:List α):l.eraseIdx (l.length - 1)=l.dropLast:=by
 induction l with
 | nil=>rfl
 | cons a r ih=>
  cases r with
  | nil=>rfl
  | cons b r=>
   have e:(a::b::r).length - 1=((b::r).length - 1)+1:=by have h1:(a::b::r).length=r.length+2:=rfl;have h2:(b::r).length=r.length+1:=rfl;omega
   rw[e,List.eraseIdx_cons_succ,ih];all_goals rfl
section
variable {X:Cx} {pins:List (aQ×Obj)} {σ:St} {H:Hp} {s:aV} {l b:aQ} {xs ys zs:List V}
theorem dH.lset {eG its':List Value} {n:Nat} {f:Array Value->Array Value} {t':Nat} (I:dH X pins σ H s) (hH:H l=some (.lst xs))
  (e:s.heap.get? l=some {cls:=.type "list",data:=.seq eG.toArray n}) (hf:f eG.toArray=its'.toArray) (hv:gB ys its') (hz:ys.length<=aU):
  dH X pins σ (upd H l (.lst ys)) {s with heap:=s.heap.update l (Obj.mapSeq f),toks:=t'}:=by
 have q:=PySem.IsL.update e f;rw[hf]at q;refine I.write (x:=l) (e:=l) (by rw[hH];exact trivial) (.inl rfl) (fun b' u hb hu=>(eA s.heap (Obj.mapSeq f) (uU hb)).trans hu) ⟨_,q⟩ ?_;exact⟨hz,its',_,hv,q⟩
theorem dH.lnew (I:dH X pins σ H s) (hv:gB ys eG) (hz:ys.length<=aU):dH X pins σ (upd H s.heap.objs.size (.lst ys)) {s with heap:=s.heap.push {cls:=.type "list",data:=.seq eG.toArray},toks:=t'}:=I.laid (fun _ _ q=>aG _ q) (aR _) ⟨hz,eG,0,hv,bQ _ rfl⟩
theorem dH.fresh (I:dH X pins σ H s):H s.heap.objs.size=none:=I.hok.fresh (aR _)
theorem dH.lstM (I:dH X pins σ H s) (hH:H l=some (.lst xs)):xs.length<=aU/\∃(eG:List Value) (n:Nat),gB xs eG/\xs.length=eG.length/\s.heap.get? l=some {cls:=.type "list",data:=.seq eG.toArray n}:=by obtain⟨z,eG,n,r,e⟩:=I.hok l _ hH;exact⟨z,eG,n,r,r.length,e⟩
theorem Sl (h:n<=aU):wL n=false:=by unfold wL;exact decide_eq_false (by omega)
end
section
variable {X:Cx}
noncomputable def Vs:V->List V->Hp->VK->Prop:=fun x vs H Q=>∃l xs y,x=.ref l/\vs=[y]/\H l=some (.lst xs)/\xs.length < aU/\Q .non (upd H l (.lst (xs++[y])))
theorem gI:F2 X "list.append" Vs:=by intro pins s σ H x vs v us Q I rx rv h;obtain⟨l,xs,y,rfl,rfl,hH,hz,q⟩:=h;cases rx;obtain⟨u,rfl,ru⟩:=rv.one;obtain⟨z,eG,n,r,hl,e⟩:=I.lstM hH;refine Hz bR ⟨_,e,rfl⟩ F.entry_list_append (F.args_list_append_2 _ _) (PySem.list_append l eG.toArray n u (by rw[bN];omega)) ⟨e,?_⟩;refine⟨.non,_,I.lset (its':=eG++[u]) hH e (by simp) (r.append (.cons ru .nil)) ?_,rfl,q⟩;rw[aC,cS];omega
noncomputable def Vt:V->List V->Hp->VK->Prop:=fun x vs H Q=>∃l b xs zs,x=.ref l/\vs=[.ref b]/\H l=some (.lst xs)/\H b=some (.lst zs)/\xs.length+zs.length<=aU/\Q .non (upd H l (.lst (xs++zs)))
theorem AB:F2 X "list.extend" Vt:=by
 intro pins s σ H x vs v us Q I rx rv h;obtain⟨l,b,xs,zs,rfl,rfl,hH,hB,hz,q⟩:=h;cases rx;obtain⟨u,rfl,ru⟩:=rv.one;cases ru;obtain⟨z,eG,n,r,hl,e⟩:=I.lstM hH;obtain⟨z2,its2,n2,r2,hl2,e2⟩:=I.lstM hB;have hsz:eG.toArray.size+its2.toArray.size<=aU:=by rw[bN,bN];omega
 have hlong:¬(!eG.toArray.isEmpty && wL (eG.toArray.size+its2.toArray.size))=true:=by rw[Sl hsz,Bool.and_false];exact cH
 refine Hz kF ⟨_,e,rfl⟩ F.entry_list_extend (F.args_list_extend_2 _ _)
  (AutoSeq1.list_extend_list_list_0 l eG.toArray n b its2.toArray n2 hlong (by rw[bN];omega) (by omega)) ⟨e,e2,?_⟩
 refine⟨.non,_,I.lset (its':=eG++its2) hH e (by simp) (r.append r2) ?_,rfl,q⟩;rw[aC];omega
noncomputable def J0:V->List V->Hp->VK->Prop:=fun x vs H Q=>∃l xs y,x=.ref l/\vs=[]/\H l=some (.lst xs)/\xs[xs.length - 1]?=some y/\Q y (upd H l (.lst xs.dropLast))
theorem Si:F2 X "list.pop" J0:=by
 intro pins s σ H x vs v us Q I rx rv h;obtain⟨l,xs,y,rfl,rfl,hH,hy,q⟩:=h;cases rx;have hus:=rv.zero;subst hus;obtain⟨z,eG,n,r,hl,e⟩:=I.lstM hH;obtain⟨u,hu,ru⟩:=r.get hy;have hy':eG.toArray[eG.toArray.size - 1]?=some u:=by show eG.toArray[eG.length - 1]?=some u;rw[<-Array.getElem?_toList,<-hl];exact hu
 refine Hz IC ⟨_,e,rfl⟩ F.entry_list_pop (F.args_list_pop_1 _) (MeetsSeq.list_pop_last l eG.toArray n u hy' (by rw[bN];omega)) ⟨e,?_⟩;refine⟨y,_,I.lset (its':=eG.dropLast) hH e ?_ r.dropLast ?_,ru,q⟩
 ·show eG.toArray.eraseIdxIfInBounds (eG.toArray.size - 1)=eG.dropLast.toArray;rw[bN,List.eraseIdxIfInBounds_toArray,Jd]
 ·rw[List.length_dropLast];omega
noncomputable def G7:R2:=fun x y H Q=>∃l b xs zs,x=.ref l/\y=.ref b/\H l=some (.lst xs)/\H b=some (.lst zs)/\xs.length+zs.length<=aU/\∀p,H p=none->Q (.ref p) (upd H p (.lst (xs++zs)))
theorem uM:Av X (GI .Add) G7:=by
 intro pins s σ H x y v u Q I rx ry h;obtain⟨l,b,xs,zs,rfl,rfl,hH,hB,hz,q⟩:=h;cases rx;cases ry;obtain⟨z,eG,n,r,hl,e⟩:=I.lstM hH;obtain⟨z2,its2,n2,r2,hl2,e2⟩:=I.lstM hB;refine PySem.P.add_list e e2 ?_ (by rw[bN,bN];omega);have ea:eG.toArray++its2.toArray=(eG++its2).toArray:=by simp
 rw[ea];exact⟨.ref _,_,I.lnew (t':=s.toks) (r.append r2) (by rw[aC];omega),rfl,q _ I.fresh⟩
end
section
variable {X:Cx}
theorem Ln {ys:List V} (f:ys.all zV=true) {j:Nat} {z:V} (h:ys[j]?=some z):zV z=true:=cA.mp f z (bB h)
end
mutual
inductive Dp (K:aB) (H:Hp):V->yR->Prop
 | non:Dp K H .non .none
 | bl (b:Bool):Dp K H (.bl b) (.bool b)
 | int (i:Int):Dp K H (.int i) (.int i)
 | str (x:Str):Dp K H (.str x) (.str x)
 | lst {a:aQ} {xs:List V} {ds:List yR}:hJ K H a xs->KB K H xs ds->Dp K H (.ref a) (.list ds)
 | tup {a:aQ} {xs:List V} {ds:List yR}:fK K H a xs->KB K H xs ds->Dp K H (.ref a) (.tuple ds)
inductive KB (K:aB) (H:Hp):List V->List yR->Prop
 | nil:KB K H [] []
 | cons {v:V} {vs:List V} {d:yR} {ds:List yR}:Dp K H v d->KB K H vs ds->KB K H (v::vs) (d::ds)
end
section
variable {X:Cx} {pins:List (aQ×Obj)} {σ:St} {H:Hp} {s:aV}
mutual
theorem Dp.reads (I:dH X pins σ H s):∀(d:yR) (v:V) (u:Value),Dp X.K H v d->gN v u->∃as,Reads s.heap u d as
 | .none,_,_,h,r=>by cases h;cases r;exact⟨_,Reads.none⟩
 | .bool b,_,_,h,r=>by cases h;cases r;exact⟨_,Reads.bool b⟩
 | .int i,_,_,h,r=>by cases h;obtain⟨t,rfl⟩:=r;exact⟨_,Reads.int i t⟩
 | .str x,_,_,h,r=>by cases h;obtain⟨t,rfl⟩:=r;exact⟨_,Reads.str x t⟩
 | .list ds,_,_,h,r=>by
  cases h with
  | lst hs ha=>cases r;obtain⟨eG,rv,⟨o,n,ho,hc,_,hd⟩,_⟩:=I.list hs;obtain⟨as,hr⟩:=Dp.readsAll I ds _ eG ha rv;exact⟨_,Reads.list ho hc hd hr⟩
 | .tuple ds,_,_,h,r=>by
  cases h with
  | tup hs ha=>cases r;obtain⟨eG,rv,⟨o,ho,hc,n,hd⟩,_⟩:=I.tuple hs;obtain⟨as,hr⟩:=Dp.readsAll I ds _ eG ha rv;exact⟨_,Reads.tuple ho hc hd hr⟩
 | .dict _,_,_,h,_=>by cases h
theorem Dp.readsAll (I:dH X pins σ H s):∀(ds:List yR) (vs:List V) (us:List Value),KB X.K H vs ds->gB vs us->∃as,ReadsAll s.heap us ds as
 | [],_,_,h,r=>by cases h;cases r;exact⟨_,ReadsAll.nil⟩
 | d::ds,_,_,h,r=>by
  cases h with
  | cons h1 h2=>
   cases r with
   | cons r1 r2=>obtain⟨as,q1⟩:=Dp.reads I d _ _ h1 r1;obtain⟨bs,q2⟩:=Dp.readsAll I ds _ _ h2 r2;exact⟨_,ReadsAll.cons q1 q2⟩
end
end
section
variable {X:Cx}
noncomputable def Xz (K:aB):R2:=fun x y H Q=>∃d e,Dp K H x d/\Dp K H y e/\SeqAt.shaped d=true/\SeqAt.shaped e=true/\Q (.bl (kJ d e)) H
theorem Cf (hu:X.A.units+64 < Qk):Av X (qI .Eq) (Xz X.K):=by intro pins s σ H x y v u Q I rx ry h;obtain⟨d,e,hd,he,sd,se,q⟩:=h;obtain⟨as,r1⟩:=Dp.reads I d x v hd rx;obtain⟨bs,r2⟩:=Dp.reads I e y u he ry;exact SeqAt.compareEq_shaped r1 r2 sd se hu ⟨.bl _,H,I,rfl,q⟩
end
abbrev Qs (h:gF) (c:aQ) (v:Option Value):Prop:=h.IsCell c v
noncomputable def J4 (scope sc:zI):zI:={scope with names:=scope.names.map fun(n,k)=>if (k == .free && sc.kind == .function && sc.names.lookup n == some .cell)then (n,.cell)else (n,k)}
noncomputable def jP (cells:List (Str×aQ)):List (Str×nG)->List (Str×aQ)->List (Str×aQ)
 | [],acc=>acc
 | (n,k)::r,acc=>if k == .free then jP cells r ((n,(cells.lookup n).getD 0)::acc)else jP cells r acc
theorem KI (env:Env) (f:Str×nG->List (Str×aQ)->Sem (ForInStep (List (Str×aQ))))
  (hf:∀n k c,f (n,k) c=if k == .free then (do let a<-cellOf env n;pure (.yield ((n,a)::c)))else pure (.yield c)):
  ∀(names:List (Str×nG)) (acc:List (Str×aQ)),(∀y∈names,y.2=.free->∃c,env.cells.lookup y.1=some c)->WH names acc f=pure (jP env.cells names acc)
 | [],acc,_=>by rw[GL];rfl
 | (n,k)::r,acc,h=>by
  rw[mD,hf];have ih:=fun acc=>KI env f hf r acc fun y hy=>h y (aL _ hy);unfold jP;by_cases hk:(k == uA)=true
  ·  rw[if_pos hk,if_pos hk];obtain⟨c,hc⟩:=h (n,k) aM (by simpa using hk);have e:cellOf env n=pure c:=by unfold cellOf;rw[hc]
     rw[e];have e2:(env.cells.lookup n).getD 0=c:=by rw[hc];rfl
     rw[e2];exact ih _
  ·  rw[if_neg hk,if_neg hk];exact ih _
theorem Ix (h:∀y∈scope.names,y.2=.free->∃c,env.cells.lookup y.1=some c):closureFor scope env=pure (jP env.cells scope.names []):=by simp only[closureFor];rw[KI env _ (fun n k c=>rfl) scope.names [] h];rfl
theorem IZ:∀{l:List (Str×α)} {n:Str} {c:α},(n,c)∈l->∃c',l.lookup n=some c'
 | (k,v)::r,n,c,h=>by
  rw[gZ];cases hb:n == k with
  | true=>exact⟨_,rfl⟩
  | false=>
     rcases aS.mp h with e | h
     ·cases e;simp at hb
     ·exact IZ h
theorem xZ:∀{names:List (Str×nG)} {acc:List (Str×aQ)} {n:Str} {c:aQ},(n,c)∈jP cells names acc->(n,c)∈acc\/((n,.free)∈names/\c=(cells.lookup n).getD 0)
 | [],_,_,_,h=>.inl h
 | (m,k)::r,acc,n,c,h=>by
  unfold jP at h;split at h
  ·  rename_i hk
     have hk:k=.free:=by simpa using hk
     rcases xZ h with h | ⟨h1,h2⟩
     ·rcases aS.mp h with e | h
      ·cases e;exact .inr ⟨hk▸aM,rfl⟩
      ·exact .inl h
     ·exact .inr ⟨aL _ h1,h2⟩
  ·  rcases xZ h with h | ⟨h1,h2⟩
     ·exact .inl h
     ·exact .inr ⟨aL _ h1,h2⟩
theorem DS:∀{names:List (Str×nG)} {acc:List (Str×aQ)} {p:Str×aQ},p∈acc->p∈jP cells names acc
 | [],_,_,h=>h
 | (m,k)::r,acc,p,h=>by
  unfold jP;split
  ·  exact DS (aL _ h)
  ·  exact DS h
theorem DT:∀{names:List (Str×nG)} {acc:List (Str×aQ)} {n:Str},(n,.free)∈names->(n,(cells.lookup n).getD 0)∈jP cells names acc
 | (m,k)::r,acc,n,h=>by
  unfold jP;rcases aS.mp h with e | h
  ·  cases e;exact DS aM
  ·  split
     ·exact DT h
     ·exact DT h
theorem zS:∀{names:List (Str×nG)} {h:gF} {acc:List (Str×aQ)} {x:Str} {c:aQ},(x,c)∈iF h.objs.size names acc->
  (x,c)∈acc\/((x,.cell)∈names/\h.objs.size<=c/\Qs (AJ h names) c none)
 | [],_,_,_,_,h=>.inl h
 | (n,k)::r,h,acc,x,c,hm=>by
  unfold iF at hm;unfold AJ;split at hm
  ·  rename_i hk
     rw[if_pos hk];have hk:k=.cell:=by simpa using hk
     rw[<-cF h {cls:=.type "cell",data:=.cell none}]at hm;rcases zS hm with hm | ⟨h1,h2,h3⟩
     ·rcases aS.mp hm with e | hm
      ·cases e;exact .inr ⟨hk▸aM,aR _,_,JR r _ _ _ (bQ _ rfl),rfl⟩
      ·exact .inl hm
     ·rw[cF]at h2;exact .inr ⟨aL _ h1,AI h2,h3⟩
  ·  rename_i hk
     rw[if_neg hk];rcases zS hm with hm | ⟨h1,h2,h3⟩
     ·exact .inl hm
     ·exact .inr ⟨aL _ h1,h2,h3⟩
theorem FI:∀{names:List (Str×nG)} {n:Nat} {acc:List (Str×aQ)} {p:Str×aQ},p∈acc->p∈iF n names acc
 | [],_,_,_,h=>h
 | (m,k)::r,n,acc,p,h=>by
  unfold iF;split
  ·  exact FI (aL _ h)
  ·  exact FI h
theorem MZ:∀{names:List (Str×nG)} {n:Nat} {acc:List (Str×aQ)} {x:Str},(x,.cell)∈names->∃c,(x,c)∈iF n names acc
 | (m,k)::r,n,acc,x,h=>by
  unfold iF;rcases aS.mp h with e | h
  ·  cases e;exact⟨n,FI aM⟩
  ·  split
     ·exact MZ h
     ·exact MZ h
theorem NA:∀{names:List (Str×nG)} {h:gF} {acc:List (Str×aQ)} {x y:Str} {c:aQ},(∀p∈acc,p.2 < h.objs.size)->(∀x y c,(x,c)∈acc->(y,c)∈acc->x=y)->
  (x,c)∈iF h.objs.size names acc->(y,c)∈iF h.objs.size names acc->x=y
 | [],_,_,_,_,_,_,hi,h1,h2=>hi _ _ _ h1 h2
 | (n,k)::r,h,acc,x,y,c,hl,hi,h1,h2=>by
  unfold iF at h1 h2;split at h1
  ·  rename_i hk
     rw[if_pos hk]at h2;rw[<-cF h {cls:=.type "cell",data:=.cell none}]at h1 h2;refine NA (h:=h.push _) (fun p hp=>?_) (fun x y c a b=>?_) h1 h2
     ·rw[cF];rcases aS.mp hp with rfl | hp
      ·exact lI _
      ·exact QC (hl p hp)
     ·rcases aS.mp a with e | a<;>rcases aS.mp b with e' | b
      ·cases e;cases e';rfl
      ·cases e;exact absurd (hl _ b) (eZ _)
      ·cases e';exact absurd (hl _ a) (eZ _)
      ·exact hi _ _ _ a b
  ·  rename_i hk
     rw[if_neg hk]at h2;exact NA hl hi h1 h2
theorem Fj {M:Model} {A:jW} {E:Value->aV->Prop} {s:aV} {scope:zI} {globals:aQ} {closure:List (Str×aQ)} {qual:Str} {func:Option aQ} {code:Value} {around:Env} {builtins:aQ} {Q:Env->aV->Prop}
  (h:Q (newEnv scope s.heap.objs.size globals (iF (s.heap.objs.size+1) scope.names closure) qual func code (some around) builtins) {s with heap:=AJ (s.heap.push {cls:=.type "dict",data:=.dict #[]}) scope.names}):
  bJ M A (newFunctionEnv scope globals closure [] qual func code (some around) builtins) Q E s:=by
 simp only[newFunctionEnv,Kp,if_true];refine aF (wpAny_alloc ?_);refine aF (wpAny_layCells _ (fun n k c=>rfl) scope.names closure _ _ ?_);rw[show({s with heap:=s.heap.push {cls:=.type "dict",data:=.dict #[]}}:aV).heap.objs.size=s.heap.objs.size+1 from cF ..];rw[GL];exact aF (aZ (aZ h))
theorem EA {sc:zI}:∀{names:List (Str×nG)} {x:Str} {k:nG},
  (names.map fun(n,k)=>if (k == uA && sc.kind == .function && sc.names.lookup n == some .cell)then (n,WE)else (n,k)).lookup x=some k->
  ∃k',names.lookup x=some k'/\(k=k'\/(k'=.free/\k=.cell))
 | [],_,_,h=>by simp at h
 | (n,k₀)::r,x,k,h=>by
  have ih:=@EA sc r x k;have h':sR x ((if (k₀ == uA && sc.kind == .function && sc.names.lookup n == some .cell)=true then (n,WE)else (n,k₀))::(r.map _))=some k:=h;cases hx:x == n with
  | true=>
     simp only[gZ,hx];by_cases hc:(k₀ == uA && sc.kind == .function && sc.names.lookup n == some .cell)=true
     ·rw[if_pos hc]at h';simp only[gZ,hx]at h';cases h';simp only[aE,beq_iff_eq]at hc;exact⟨k₀,rfl,.inr ⟨hc.1.1,rfl⟩⟩
     ·rw[if_neg hc]at h';simp only[gZ,hx]at h';cases h';exact⟨_,rfl,.inl rfl⟩
  | false=>
     simp only[gZ,hx];by_cases hc:(k₀ == uA && sc.kind == .function && sc.names.lookup n == some .cell)=true
     ·rw[if_pos hc]at h';simp only[gZ,hx]at h';exact ih h'
     ·rw[if_neg hc]at h';simp only[gZ,hx]at h';exact ih h'
structure Dy (N:List Str) (sc scope:zI) (own:List (Str×Nat)):Prop where
 kind:scope.kind=.function
 uniq:∀y∈scope.names,scope.names.lookup y.1=some y.2
 ix:∀p∈own,N[p.2]?=some p.1
 free:∀y∈scope.names,y.2=.free->sc.names.lookup y.1=some .cell\/sc.names.lookup y.1=some .free
 own:∀y∈scope.names,y.2=.local\/y.2=.cell->y.1∈own.map (·.1)\/y.1∉N
noncomputable def nJ (σ:St):List Nat->St
 | []=>σ
 | v::vs=>(nJ σ vs).set v none
theorem FB (σ:St):∀vs:List Nat,(nJ σ vs).length=σ.length
 | []=>rfl
 | v::vs=>by unfold nJ;rw[List.length_set,FB σ vs]
theorem NX:∀{vs:List Nat},(nJ σ vs)[i]?=some (some x)->σ[i]?=some (some x)/\i∉vs
 | [],h=>⟨h,by simp⟩
 | v::vs,h=>by
  unfold nJ at h;by_cases hi:v=i
  ·subst hi;by_cases hv:v < (nJ σ vs).length
   ·rw[oO hv]at h;cases h
   ·rw[FC (by simpa using hv)]at h;cases h
  ·rw[vX hi]at h;obtain⟨h1,h2⟩:=NX h;exact⟨h1,by simp only[aS,not_or];exact⟨fun e=>hi e.symm,h2⟩⟩
noncomputable abbrev Cx.blk (X:Cx) (s:aV) (H:Hp) (scope:zI) (cenv:Env) (fp:List aQ):Cx:={X with s_0:=s,H_0:=H,env:=cenv,outer:=X.stack,ex:=fp,fn:=fun x=>scope.names.lookup x == some .cell,pn:=[],xe:=fun _ _=>False}
section
variable {X:Cx} {pins:List (aQ×Obj)} {σ:St} {H:Hp} {s:aV}
theorem Ec {scope:zI} {own:List (Str×Nat)} {fp:List aQ} (I:dH X pins σ H s) (ok:Dy X.N X.env.scope scope own) (hN:X.N.Nodup) (hfp:∀b∈fp,DN X pins H b/\b < s.heap.objs.size):
  dH (X.blk s H scope (rJ scope (iF (s.heap.objs.size+1) scope.names (jP X.env.cells scope.names [])) s.heap.objs.size X.env) fp) [] (nJ σ (own.map (·.2))) H {s with heap:=AJ (s.heap.push {cls:=.type "dict",data:=.dict #[]}) scope.names}:=by
 have hfree:∀y∈scope.names,y.2=.free->∃c,X.env.cells.lookup y.1=some c:=fun y hy e=>by
  rcases ok.free y hy e with k | k
  ·exact I.ok.has _ (.inl k)
  ·exact I.ok.has _ (.inr k)
 generalize hcenv:rJ scope (iF (s.heap.objs.size+1) scope.names (jP X.env.cells scope.names [])) s.heap.objs.size X.env=cenv;have kp:∀b o,s.heap.get? b=some o->(AJ (s.heap.push {cls:=.type "dict",data:=.dict #[]}) scope.names).get? b=some o:=fun b o e=>JR _ _ _ _ (aG _ e);have hL:cenv.locals=s.heap.objs.size:=by rw[<-hcenv];rfl
 have hcl:cenv.cells=iF (s.heap.objs.size+1) scope.names (jP X.env.cells scope.names []):=by rw[<-hcenv];rfl
 have hsc:cenv.scope=J4 scope X.env.scope:=by rw[<-hcenv];rfl
 rw[<-cF s.heap {cls:=.type "dict",data:=.dict #[]}]at hcl;have cm:∀{y c},(y,c)∈jP X.env.cells scope.names []->X.env.cells.lookup y=some c/\c < s.heap.objs.size:=fun {y c} hm=>by
  rcases xZ hm with hm | ⟨h1,rfl⟩
  ·cases hm
  ·obtain⟨c,hc⟩:=hfree _ h1 rfl;rw[hc];obtain⟨w,z⟩:=I.cell _ _ hc;exact⟨rfl,z.lt⟩
 have mem:∀{y c},cenv.cells.lookup y=some c->(X.env.cells.lookup y=some c/\c < s.heap.objs.size)\/(s.heap.objs.size+1<=c/\Qs (AJ (s.heap.push {cls:=.type "dict",data:=.dict #[]}) scope.names) c none):=fun {y c} e=>by
  rw[hcl]at e;rcases zS (dQ e)with hm | ⟨_,h2,h3⟩
  ·exact .inl (cm hm)
  ·rw[cF]at h2;exact .inr ⟨h2,h3⟩
 have look:∀{y},scope.names.lookup y=some .free->∃c,cenv.cells.lookup y=some c/\X.env.cells.lookup y=some c:=fun {y} hl=>by
  have hy:(y,uA)∈scope.names:=dQ hl;obtain⟨c',e'⟩:=IZ (FI (names:=scope.names) (n:=(s.heap.push {cls:=.type "dict",data:=.dict #[]}).objs.size) (DT (cells:=X.env.cells) (acc:=[]) hy));rw[<-hcl]at e';refine⟨c',e',?_⟩;rw[hcl]at e';rcases zS (dQ e')with hm | ⟨h1,_,_⟩
  ·exact(cm hm).1
  ·have:=ok.uniq _ h1;rw[hl]at this;cases this
 have okB:(X.blk s H scope cenv fp).Ok:=by
  refine⟨I.ok.mod,by show cenv.scope.kind=_;rw[hsc];exact ok.kind,by show cenv.globals=_;rw[<-hcenv];exact I.ok.glob,by show cenv.builtins=_;rw[<-hcenv];exact I.ok.blt,by show s.heap.objs.size<=cenv.locals;rw[hL];exact aR _,fun y z c e1 e2=>?_,fun y hy=>?_,fun y c z e=>?_,I.ok.hd,I.ok.frames,.inl rfl,fun b hb=>⟨?_,fun y c e z=>?_⟩,I.bs,bI I.ok.bsz I.sz,fun b o e hb=>?_,fun b hb z=>?_,I.stack,I.stkFree⟩
  ·have e1:cenv.cells.lookup y=some c:=e1;have e2:cenv.cells.lookup z=some c:=e2;rw[hcl]at e1 e2;refine NA (fun p hp=>?_) (fun y z c a b=>I.ok.inj y z c (cm a).1 (cm b).1) (dQ e1) (dQ e2);rw[cF];exact QC (cm (y:=p.1) (c:=p.2) hp).2
  ·show ∃c,cenv.cells.lookup y=some c;have key:∀k,cenv.kindOf y=some k->(k=.cell\/k=.free)->∃c,cenv.cells.lookup y=some c:=fun k hk hk'=>by
    unfold Env.kindOf at hk;rw[hsc]at hk;obtain⟨k',e,r⟩:=EA hk;have:k'=.cell\/k'=.free:=by
     rcases r with rfl | ⟨rfl,_⟩
     ·exact hk'
     ·exact .inr rfl
    rcases this with rfl | rfl
    ·obtain⟨c,hm⟩:=MZ (n:=(s.heap.push {cls:=.type "dict",data:=.dict #[]}).objs.size) (acc:=jP X.env.cells scope.names []) (dQ e);obtain⟨c',e'⟩:=IZ hm;exact⟨c',by rw[hcl];exact e'⟩
    ·obtain⟨c,h1,_⟩:=look e;exact⟨c,h1⟩
   rcases hy with hy | hy
   ·exact key _ hy (.inl rfl)
   ·exact key _ hy (.inr rfl)
  ·have z:(scope.names.lookup y == some WE)=true:=z;have z:scope.names.lookup y=some .cell:=by simpa using z
   have e:cenv.cells.lookup y=some c:=e;rw[hcl]at e;rcases zS (dQ e)with hm | ⟨_,h2,_⟩
   ·rcases xZ hm with hm | ⟨h1,_⟩
    ·cases hm
    ·have q:=ok.uniq _ h1;rw[z]at q;cases q
   ·rw[cF]at h2;exact AI h2
  ·show b≠cenv.locals;rw[hL];exact eK (hfp b hb).2
  ·have e:cenv.cells.lookup y=some c:=e;rcases mem e with⟨h1,_⟩ | ⟨h1,_⟩
   ·exact(hfp b hb).1.2.2.2.2.1 y c h1 z
   ·have h2:s.heap.objs.size+1<=b:=by rw[<-z];exact h1
    exact absurd (bZ (hfp b hb).2 (AI h2)) (eZ _)
  ·rcases(hfp b hb).1.2.2.2.1 with z | z
   ·exact I.ok.noex b o e z
   ·exact absurd (bZ (bY e) (bI I.ok.bsz z)) (eZ _)
  ·rcases aS.mp (I.stkSub b z)with z | z
   ·exact(hfp b hb).1.2.1 z
   ·exact(hfp b hb).1.2.2.1 z
 refine⟨okB,rfl,I.bare,Un.kept kp,⟨fun _=>none,?_,fun i y av e1 e2 e3=>?_⟩,fun y c e=>?_,?_,fun y c e=>?_,fun p hp=>?_,I.hok.kept kp,by rw[FB];exact I.len⟩
 ·show Heap.Ns _ cenv.locals _;rw[hL];exact Heap.Ns.keeps (Heap.Ns.new ..) fun b o e=>JR _ _ _ _ e
 ·obtain⟨e2,hne⟩:=NX e2;have hfr:scope.names.lookup y=some .free/\(cenv.kindOf y=some .cell\/cenv.kindOf y=some .free):=by
   have key:∀k,cenv.scope.names.lookup y=some k->k=.local\/k=.cell\/k=.free->scope.names.lookup y=some .free/\(cenv.kindOf y=some .cell\/cenv.kindOf y=some .free):=fun k hk hk'=>by
    have hk0:=hk;rw[hsc]at hk;obtain⟨k',e,r⟩:=EA hk;have no:¬(k'=.local\/k'=.cell):=fun hh=>by
     rcases ok.own _ (dQ e) hh with e' | e'
     ·obtain⟨p,hp,hpy⟩:=aX.mp e';have e3:=ok.ix p hp;have:p.1=y:=hpy;rw[this]at e3;exact hne (aX.mpr ⟨p,hp,UC hN e3 e1⟩)
     ·exact e' (bB e1)
    rcases r with rfl | ⟨rfl,rfl⟩
    ·rcases hk' with rfl | rfl | rfl
     ·exact absurd (.inl rfl) no
     ·exact absurd (.inr rfl) no
     ·exact⟨e,.inr hk0⟩
    ·exact⟨e,.inl hk0⟩
   have e3:Yw cenv.scope y:=e3;rcases e3 with e3 | e3 | e3
   ·exact key _ e3 (.inl rfl)
   ·exact key _ e3 (.inr (.inl rfl))
   ·exact key _ e3 (.inr (.inr rfl))
  obtain⟨m,hn,hl⟩:=I.loc;have hvis:Yw X.env.scope y:=(ok.free _ (dQ hfr.1) rfl).elim (fun k=>.inr (.inl k)) (fun k=>.inr (.inr k));obtain⟨w,r,q⟩:=hl i y av e1 e2 hvis;refine⟨w,r,.inr ⟨hfr.2,?_⟩⟩;obtain⟨c,h1,h2⟩:=look hfr.1;rcases q with⟨k,_⟩ | ⟨_,c',e',z⟩
  ·have k:X.env.scope.names.lookup y=some .local:=k;rcases ok.free _ (dQ hfr.1) rfl with k' | k'<;>rw[show X.env.scope.names.lookup y=_ from k']at k<;>cases k
  ·rw[h2]at e';cases e';exact⟨c,h1,z.keeps kp⟩
 ·have e:cenv.cells.lookup y=some c:=e;rcases mem e with⟨h1,_⟩ | ⟨_,z⟩
  ·obtain⟨w,z⟩:=I.cell y c h1;exact⟨w,z.keeps kp⟩
  ·exact⟨_,z⟩
 ·show H cenv.locals=none;rw[hL];exact I.hok.fresh (aR _)
 ·have e:cenv.cells.lookup y=some c:=e;rcases mem e with⟨h1,_⟩ | ⟨h1,_⟩
  ·exact I.freeC y c h1
  ·exact I.hok.fresh (AI h1)
 ·exact absurd (show p∈([]:List (aQ×Obj))++[]from hp) (by simp)
theorem Xg (I:dH X pins σ H s) (hD:H D=some (.lst xs)) (hz:xs.length < aU) (r:gN y v)
  (h:∀s',dH X pins σ (upd H D (.lst (xs++[y]))) s'->Q .none s'):bJ (cC X.prog X.w) X.A (call (.builtin "list.append") [.ref D,v]) Q E s:=by
 obtain⟨hz',eG,n,ri,e⟩:=I.hok D _ hD;have hl:=ri.length;refine append_at (hsz:=by rw[bN];omega) e fun h' sb ho'=>?_;refine h {s with heap:=h'} (I.write (t':=s.toks) (by rw[hD];trivial) (.inl rfl) (fun b u hb q=>(sb.2 b hb).trans q) ⟨_,ho'⟩ ⟨by rw[aC];exact hz,eG++[v],n+1,ri.append (.cons r .nil),?_⟩);rw[ho'];simp
def E6 (X:Cx) (ifs:List Expr) (t:TT):Prop:=∀(pins:List (aQ×Obj)) (s:aV) (σ:St) (H:Hp) (Q:Bool->Hp->Prop),dH X pins σ H s->t σ H Q->bJ (cC X.prog X.w) X.A (WH ifs true fun c r=>if r=true then do let ok<-isTrue c X.env (hX c X.env);pure (qR ok)else pure (qR r)) (TP X pins σ Q) X.xe s
noncomputable def D9:TT:=fun _ H Q=>Q true H
theorem yH:E6 X [] D9:=fun _ _ _ H _ I h=>wpAny_tests_nil ⟨H,I,h⟩
end
theorem Pl (h:bJ M A t Q (fun _ _=>False) s) (hQ:∀a s,Q a s->Q' a s):bJ M A t Q' E s:=fZ h hQ fun _ _ z=>eN z
theorem Ba (I:Nat->aV->Prop)
  (turn:∀n s,I n s->bJ (cC prog w) A (DI it) (fun r s₁=>match r with
   | none=>R (.ok .next) s₁
   | some v=>bJ (cC prog w) A (JP target it v) (fun _ s₁'=>bJ (cC prog w) A (assign target env v) (fun _ s₂=>
    bJ (cC prog w) A (WH ifs true fun c r=>if r=true then do let ok<-isTrue c env (hX c env);pure (qR ok)else pure (qR r)) (fun ok s₃=>
     if ok=true then bJ (cC prog w) A (hX elt env) (fun x s₄=>bJ (cC prog w) A (call (.builtin "list.append") [acc,x]) (fun _ s₅=>∃m,m < n/\I m s₅) (Hr (cC prog w) A env fun e s'=>R (.error e) s') s₄) (Hr (cC prog w) A env fun e s'=>R (.error e) s') s₃
     else ∃m,m < n/\I m s₃) (Hr (cC prog w) A env fun e s'=>R (.error e) s') s₂) (Hr (cC prog w) A env fun e s'=>R (.error e) s') s₁') (Hr (cC prog w) A env fun e s'=>R (.error e) s') s₁) (Hr (cC prog w) A env fun e s'=>R (.error e) s') s)
  (n:Nat) (h:I n s):
  vT (cC prog w) A (.compLoop (.ListComp elt [⟨target,iter,ifs,0⟩] scope pos) 0 it acc env) R s:=by
 refine codeAny_loop rfl I (fun n s hI=>?_) n h;show bJ _ A ((compTurn (.ListComp elt [⟨target,iter,ifs,0⟩] scope pos) 0 it acc env).onRaise (fun x=>do noteFrame x env;theTreesLotGoes x)) _ _ s;refine wpAny_noted ?_;rw[compTurn_list];refine aF (wpAny_standAt (aF (fZ (turn n s hI) (fun r s₁ h₁=>?_) fun _ _ h'=>h')));cases r with
 | none=>exact aZ h₁
 | some v=>
  refine aF (fZ h₁ (fun _ s₁' h₁'=>?_) fun _ _ h'=>h');refine aF (fZ h₁' (fun _ s₂ h₂=>aF (fZ h₂ (fun ok s₃ h₃=>?_) fun _ _ h'=>h')) fun _ _ h'=>h');cases ok with
  | false=>exact aZ ⟨rfl,h₃⟩
  | true=>exact aF (aF (fZ h₃ (fun x s₄ h₄=>aF (fZ h₄ (fun _ s₅ h₅=>aZ (aZ ⟨rfl,h₅⟩)) fun _ _ h'=>h')) fun _ _ h'=>h'))
section
variable {X:Cx}
noncomputable def E9 (wi:TI) (g:TG) (tt:TT) (te:TE) (vs:List Nat):TE:=fun σ H Q=>wi σ H fun J H1=>∀D,H1 D=none->∃W:Nat->Nat->Hp->Prop,(∃m,W 0 m (upd H1 D (.lst [])))/\∀i m H,W i m H->(J.stop i H/\Q (.ref D) H)\/(J.go i H/\∃Nx:Hp->Prop,(∀H',Nx H'->∃m',m' < m/\W (i+1) m' H')/\∀x H',J.yld i H x H'->g x (nJ σ vs) H' fun σ2 H2=>nJ σ2 vs=nJ σ vs/\tt σ2 H2 fun b H3=>if b=true then te σ2 H3 fun y H4=>∃acc,H4 D=some (.lst acc)/\acc.length < aU/\Nx (upd H4 D (.lst (acc++[y])))else Nx H3)
theorem Ls {pins:List (aQ×Obj)} {s:aV} {σ:St} {H:Hp} {Q:VK} {elt tg iter:Expr} {ifs:List Expr} {scope:zI} {own:List (Str×Nat)} {pos pos':Pos} {wi:TI} {g:TG} {tt:TT} {te:TE} {use:Option (Value->Sem Unit)} {Qf:Value->aV->Prop}
  (hc:X.calm=true) (hN:X.N.Nodup) (I:dH X pins σ H s) (hi:PI X tg iter wi) (ok:Dy X.N X.env.scope scope own)
  (hg:∀(s:aV) (H:Hp) (C:aQ) (cl:List (Str×aQ)) (fp:List aQ),PG (X.blk s H scope (rJ scope cl C X.env) fp) tg g) (ht:∀(s:aV) (H:Hp) (C:aQ) (cl:List (Str×aQ)) (fp:List aQ),E6 (X.blk s H scope (rJ scope cl C X.env) fp) ifs tt)
  (he:∀(s:aV) (H:Hp) (C:aQ) (cl:List (Str×aQ)) (fp:List aQ),PE (X.blk s H scope (rJ scope cl C X.env) fp) elt te) (hs:∀x,DA iter X.env x=pure x)
  (h:E9 wi g tt te (own.map (·.2)) σ H Q)
  (hRR:∀D C s' m H',dH X pins σ H' s'->Q (.ref D) H'->s'.heap.Ns C m->DN X pins H' C->compPost (cC X.prog X.w) X.A X.xe use Qf (.ref D) C (.ok .next) s'):
  bJ (cC X.prog X.w) X.A (comprehension (.ListComp elt [⟨tg,iter,ifs,0⟩] scope pos) scope X.env pos' (newList []) false (hX iter X.env) use) Qf X.xe s:=by
 have hfree:∀y∈scope.names,y.2=.free->∃c,X.env.cells.lookup y.1=some c:=fun y hy e=>by
  rcases ok.free y hy e with k | k
  ·exact I.ok.has _ (.inl k)
  ·exact I.ok.has _ (.inr k)
 refine wpAny_comprehension_free (use:=use) rfl hs (Ix hfree) ok.kind (fun y hy e=>by rw[ok.uniq y hy,e])
  (kY (hi pins s σ H _ I h) fun xv s1 hx=>kY hx fun itv s2 h2=>?_)
 obtain⟨it,fp,tn,J,H2,e,I2,T,st2,f2,q⟩:=h2;subst e;refine eO (Fj ?_) (by show 0<=aU;decide);generalize hD:s2.heap.objs.size=D;have hDn:H2 D=none:=I2.hok.fresh (QB hD);obtain⟨W,⟨m0,w0⟩,turn⟩:=q D hDn;generalize hs3:({s2 with heap:=s2.heap.push {cls:=.type "list",data:=.seq ([]:List Value).toArray}}:aV)=s3;have I3:dH X pins σ (upd H2 D (.lst [])) s3:=by rw[<-hs3];refine I2.laid (t':=s2.toks) (fun b o e=>aG _ e) (QB hD) ⟨aY _,[],0,.nil,?_⟩;rw[<-hD];exact bQ _ rfl
 have h3:s3.heap=s2.heap.push {cls:=.type "list",data:=.seq ([]:List Value).toArray}:=by rw[<-hs3]
 have sz:∀b∈fp,b < s2.heap.objs.size:=fun b hb=>by obtain⟨o,e,_⟩:=T.obj _ _ st2 b hb;exact bY e
 have f3:∀b∈fp,DN X pins (upd H2 D (.lst [])) b/\b < s3.heap.objs.size:=fun b hb=>by have hlt:=sz b hb;refine⟨⟨?_,(f2 b hb).2⟩,by rw[h3,cF];exact QC hlt⟩;rw[bL (by rw[<-hD];exact eK hlt)];exact(f2 b hb).1
 have st3:tn 0 s3.heap:=T.keep _ _ _ st2 fun b _ o e=>by rw[h3];exact aG _ e
 have I4:=Ec I3 ok hN f3;have pg:=hg s3 (upd H2 D (.lst [])) s3.heap.objs.size (iF (s3.heap.objs.size+1) scope.names (jP X.env.cells scope.names [])) fp;have pt:=ht s3 (upd H2 D (.lst [])) s3.heap.objs.size (iF (s3.heap.objs.size+1) scope.names (jP X.env.cells scope.names [])) fp;have pe:=he s3 (upd H2 D (.lst [])) s3.heap.objs.size (iF (s3.heap.objs.size+1) scope.names (jP X.env.cells scope.names [])) fp;show vT _ _ (.compStart (.ListComp elt [⟨tg,iter,ifs,0⟩] scope pos) 0 (.ref it) (.ref D) (rJ scope (iF (s3.heap.objs.size+1) scope.names (jP X.env.cells scope.names [])) s3.heap.objs.size X.env)) (compPost (cC X.prog X.w) X.A X.xe use Qf (.ref D) s3.heap.objs.size) {s3 with heap:=AJ (s3.heap.push {cls:=.type "dict",data:=.dict #[]}) scope.names};have nfp:∀b∈fp,(upd H2 D (.lst [])) b=none:=fun b hb=>(f3 b hb).1.1;generalize hce:rJ scope (iF (s3.heap.objs.size+1) scope.names (jP X.env.cells scope.names [])) s3.heap.objs.size X.env=ce at I4 pg pt pe ⊢;have cL:ce.locals=s3.heap.objs.size:=by subst hce;rfl
 generalize hH3:upd H2 D (.lst [])=H3 at I3 I4 pg pt pe w0 nfp f3;generalize hs4:({s3 with heap:=AJ (s3.heap.push {cls:=.type "dict",data:=.dict #[]}) scope.names}:aV)=s4 at I4 ⊢;have st4:tn 0 s4.heap:=T.keep _ _ _ st3 fun b _ o e=>by rw[<-hs4];exact JR _ _ _ _ (aG _ e)
 have stat:∀{σ':St} {H':Hp} {s':aV},dH (X.blk s3 H3 scope ce fp) [] σ' H' s'->(∀b∈fp,H' b=none)->∀b∈fp,DN (X.blk s3 H3 scope ce fp) [] H' b:=fun {σ' H' s'} I' hn b hb=>⟨hn b hb,(I'.ok.exf b hb).1,I'.ok.exfs b hb,.inl hb,fun x c e=>(I'.ok.exf b hb).2 x c e,fun p hp=>absurd (show p∈([]:List (aQ×Obj))++[]from hp) (by simp)⟩;have Om:vT (cC X.prog X.w) X.A (.compLoop (.ListComp elt [⟨tg,iter,ifs,0⟩] scope pos) 0 (.ref it) (.ref D) ce) (compPost (cC X.prog X.w) X.A X.xe use Qf (.ref D) s3.heap.objs.size) s4:=by
  refine Ba (fun n s'=>∃i H',dH (X.blk s3 H3 scope ce fp) [] (nJ σ (own.map (·.2))) H' s'/\tn i s'.heap/\(∀b∈fp,H' b=none)/\W i n H') ?_ m0 ⟨0,H3,I4,st4,nfp,w0⟩;rintro n s5 ⟨i,H5,I5,st5,n5,w5⟩;rcases turn i n H5 w5 with⟨stop,qq⟩ | ⟨go,Nx,hNx,step⟩
  ·have td:=T.done (X.blk s3 H3 scope ce fp) rfl rfl rfl hc i [] s5 _ H5 (fun _ _=>False) I5 (stat I5 n5) st5 stop;refine Pl td fun r s6 ⟨hr,I6⟩=>?_;subst hr;have I7:dH X pins σ H5 s6:=I3.call' (ch:=fp) I6.os I6.base I6.hok I6.bare fun b hb=>⟨(f3 b hb).1.2.2.2.1,(f3 b hb).1.2.1,(f3 b hb).1.2.2.2.2.1,(f3 b hb).1.2.2.2.2.2⟩;have nC:H5 s3.heap.objs.size=none:=by have z:H5 ce.locals=none:=I6.free;rw[cL]at z;exact z
   obtain⟨m,hn,_⟩:=I6.loc;have hn:s6.heap.Ns ce.locals m:=hn;rw[cL]at hn;exact hRR D s3.heap.objs.size s6 m H5 I7 qq hn (I3.fpOk (aR _) nC)
  ·have ti:=T.item (X.blk s3 H3 scope ce fp) rfl rfl rfl hc i [] s5 _ H5 (fun _ _=>False) I5 (stat I5 n5) st5 go;refine Pl ti fun r s6 ⟨u,hr,h6⟩=>?_;subst hr;refine Pl h6 fun _ s7 ⟨x,H7,I7,r7,y7,st7,n7⟩=>?_;have I7':=I7.pinned (stat I7 n7) (T.obj _ _ st7);refine Pl (pg _ s7 _ H7 x u _ I7' r7 (step x H7 y7)) fun _ s8 ⟨σ8,H8,I8,hw8,q8⟩=>?_;refine Pl (pt _ s8 σ8 H8 _ I8 q8) fun b s9 ⟨H9,I9,q9⟩=>?_;have fin:∀{s':aV} {H':Hp},dH (X.blk s3 H3 scope ce fp) ([]++VB fp s7.heap) σ8 H' s'->Nx H'->∃m,m < n/\∃i H',dH (X.blk s3 H3 scope ce fp) [] (nJ σ (own.map (·.2))) H' s'/\tn i s'.heap/\(∀b∈fp,H' b=none)/\W i m H':=fun {s' H'} I' nx=>by
    obtain⟨m',hm,w'⟩:=hNx H' nx;have pin':∀b∈fp,∀o,s7.heap.get? b=some o->s'.heap.get? b=some o/\H' b=none:=fun b hb o e=>
     let z:=I'.pin (b,o) (cT _ (cT _ (rQ hb e)))
     ⟨z.1,z.2.1⟩
    have hl:(nJ σ (own.map (·.2))).length=σ8.length:=by rw[<-hw8,FB]
    refine⟨m',hm,i+1,H',(I'.unpinned (pins:=[])).weak hl (fun j v e=>?_),T.keep _ _ _ st7 fun b hb o e=>(pin' b hb o e).1,fun b hb=>?_,w'⟩
    ·rw[<-hw8]at e;exact(NX e).1
    ·obtain⟨o,e,_⟩:=T.obj _ _ st7 b hb;exact(pin' b hb o e).2
   cases b with
   | false=>simp only[fR,if_false]at q9 ⊢;exact fin I9 q9
   | true=>simp only[if_true]at q9 ⊢;refine Pl (pe _ s9 σ8 H9 _ I9 q9) fun z s10 ⟨yv,H10,I10,r10,acc,hD10,hz10,nx⟩=>?_;exact Xg (X:=X.blk s3 H3 scope ce fp) I10 hD10 hz10 r10 fun s11 I11=>fin I11 nx
 exact codeAny_compStart_list Om (T.self X.A 0 _ _ _ st4 Om)
theorem ZI (hc:X.calm=true) (hN:X.N.Nodup) (hi:PI X tg iter wi) (ok:Dy X.N X.env.scope scope own)
  (hg:∀(s:aV) (H:Hp) (C:aQ) (cl:List (Str×aQ)) (fp:List aQ),PG (X.blk s H scope (rJ scope cl C X.env) fp) tg g) (ht:∀(s:aV) (H:Hp) (C:aQ) (cl:List (Str×aQ)) (fp:List aQ),E6 (X.blk s H scope (rJ scope cl C X.env) fp) ifs tt)
  (he:∀(s:aV) (H:Hp) (C:aQ) (cl:List (Str×aQ)) (fp:List aQ),PE (X.blk s H scope (rJ scope cl C X.env) fp) elt te) (hs:∀x,DA iter X.env x=pure x:=by intro _;rfl):
  PE X (.ListComp elt [⟨tg,iter,ifs,0⟩] scope pos) (E9 wi g tt te (own.map (·.2))):=by
 intro pins s σ H Q I h;rw[eval_ListComp];refine Ls hc hN I hi ok hg ht he hs h fun D C s' m H' I' q hn f=>⟨m,hn,fun h'' sb=>?_⟩;obtain⟨f0,f1,f2,f3,f4,f5⟩:=f;exact⟨.ref D,H',I'.turned (t':=s'.toks) (fun b o hb e=>(sb.2 b hb).trans e) f0 f1 f3 f4 f5,rfl,q⟩
theorem Gf (hc:X.calm=true) (hN:X.N.Nodup) (hy:X.N[i]?=some y) (hyl:X.env.scope.names.lookup y=some .local)
  (hsw:wT (.ListComp elt [⟨tg,iter,ifs,0⟩] scope pos) (some (.Name y py)) spos.line X.env=pure true) (hi:PI X tg iter wi) (ok:Dy X.N X.env.scope scope own)
  (hg:∀(s:aV) (H:Hp) (C:aQ) (cl:List (Str×aQ)) (fp:List aQ),PG (X.blk s H scope (rJ scope cl C X.env) fp) tg g) (ht:∀(s:aV) (H:Hp) (C:aQ) (cl:List (Str×aQ)) (fp:List aQ),E6 (X.blk s H scope (rJ scope cl C X.env) fp) ifs tt)
  (he:∀(s:aV) (H:Hp) (C:aQ) (cl:List (Str×aQ)) (fp:List aQ),PE (X.blk s H scope (rJ scope cl C X.env) fp) elt te) (hs:∀x,DA iter X.env x=pure x:=by intro _;rfl):
  PS X (.Assign [.Name y py] (.ListComp elt [⟨tg,iter,ifs,0⟩] scope pos) spos) (D0 (E9 wi g tt te (own.map (·.2))) (SY i)):=by
 intro pins s σ H D I h;rw[exec_Assign_Name_used _ _ _ _ hsw];refine aF (wpAny_standAt (aF ?_));show bJ _ X.A (do let _<-comprehension (.ListComp elt [⟨tg,iter,ifs,0⟩] scope pos) scope X.env (firstIterPos [⟨tg,iter,ifs,0⟩] pos) (newList []) false (hX iter X.env) (some (assign (.Name y py) X.env))) _ _ s;have h:E9 wi g tt te (own.map (·.2)) σ H (fun x H1=>SY i x σ H1 D.nx):=h;refine aF (kY (Ls (Qf:=fun _ s'=>SP X pins D .next s') hc hN I hi ok hg ht he hs h fun L C s' m H' I' q hn f=>?_) fun _ s' hq=>aZ (aZ hq));show bJ _ _ (assign (.Name y py) X.env (.ref L)) _ _ _;refine wpAny_assign_Name (ZY (v:=V.ref L) I' hN hy (.inl hyl) rfl (fun s2 I2 ⟨a,sb,ha⟩=>?_) (.inr hyl));obtain⟨f0,f1,f2,f3,f4,f5⟩:=f;have haC:C≠a:=by
  rcases ha with z | z
  ·rw[z];exact f1
  ·exact fun e=>f4 y a z e.symm
 refine⟨m,hn.sameBut sb haC,fun h3 sb3=>?_⟩;exact⟨_,H',I2.turned (t':=s2.toks) (fun b o hb e=>(sb3.2 b hb).trans e) f0 f1 f3 f4 f5,q⟩
theorem Mm (hk:env.scope.kind=.function) (hy:env.scope.names.lookup y=some .local) (hl:(py.line == pos.line)=true)
  (ha:(scope.names.any fun(n,k)=>n == y && (k == .local || k == .cell))=false):wT (.ListComp elt gs scope pos) (some (.Name y py)) l env=pure true:=by
 have ky:env.kindOf y=some .local:=hy;have hb:env.blockKind=.function:=by unfold Env.blockKind;rw[hk];rfl
 unfold wT;simp only[hb,ky,ha,Expr.pos,hl];rfl
end
theorem Uu {K:aB} {a:aQ} {xs:List V} {g:TG} {tt:TT} {te:TE} {vs:List Nat} {σ:St} {H1:Hp} {D:aQ} {Qd:Hp->Prop} (Pv:Nat->Hp->Prop) (h0:Pv 0 (upd H1 D (.lst []))) (hl:∀i H,i<=xs.length->Pv i H->hJ K H a xs)
  (hs:∀i x H,xs[i]?=some x->Pv i H->g x (nJ σ vs) H fun σ2 H2=>nJ σ2 vs=nJ σ vs/\tt σ2 H2 fun b H3=>if b=true then te σ2 H3 fun y H4=>∃acc,H4 D=some (.lst acc)/\acc.length < aU/\Pv (i+1) (upd H4 D (.lst (acc++[y])))else Pv (i+1) H3) (hd:∀H,Pv xs.length H->Qd H):
  ∃W:Nat->Nat->Hp->Prop,(∃m,W 0 m (upd H1 D (.lst [])))/\∀i m H,W i m H->
   ((Wi K a).stop i H/\Qd H)\/((Wi K a).go i H/\∃Nx:Hp->Prop,(∀H',Nx H'->∃m',m' < m/\W (i+1) m' H')/\∀x H',(Wi K a).yld i H x H'->g x (nJ σ vs) H' fun σ2 H2=>nJ σ2 vs=nJ σ vs/\tt σ2 H2 fun b H3=>if b=true then te σ2 H3 fun y H4=>∃acc,H4 D=some (.lst acc)/\acc.length < aU/\Nx (upd H4 D (.lst (acc++[y])))else Nx H3):=by
 refine⟨fun i m H=>m=xs.length - i/\i<=xs.length/\Pv i H,⟨xs.length,by simp,aY _,h0⟩,?_⟩;rintro i m H ⟨rfl,hi,p⟩;have q:=hl i H hi p;by_cases hlt:i < xs.length
 ·refine .inr ⟨⟨xs,xs[i],q,by simp[hlt]⟩,Pv (i+1),fun H' p'=>⟨xs.length - (i+1),by omega,rfl,hlt,p'⟩,fun x H' y=>?_⟩;obtain⟨e,y⟩:=y;subst e;exact hs i x _ (y xs q) p
 ·have e:i=xs.length:=by omega
  subst e;exact .inl ⟨⟨xs,q,aR _⟩,hd H p⟩
theorem Jq {K:aB} {a:aQ} {xs:List V} {g:TG} {tt:TT} {te:TE} {vs:List Nat} {σ:St} {H1:Hp} {D:aQ} {Qd:Hp->Prop} (Pv:Nat->Hp->Prop) (h0:Pv 0 (upd H1 D (.lst []))) (hl:∀i H,i<=xs.length->Pv i H->fK K H a xs)
  (hs:∀i x H,xs[i]?=some x->Pv i H->g x (nJ σ vs) H fun σ2 H2=>nJ σ2 vs=nJ σ vs/\tt σ2 H2 fun b H3=>if b=true then te σ2 H3 fun y H4=>∃acc,H4 D=some (.lst acc)/\acc.length < aU/\Pv (i+1) (upd H4 D (.lst (acc++[y])))else Pv (i+1) H3) (hd:∀H,Pv xs.length H->Qd H):
  ∃W:Nat->Nat->Hp->Prop,(∃m,W 0 m (upd H1 D (.lst [])))/\∀i m H,W i m H->
   ((Qv K a).stop i H/\Qd H)\/((Qv K a).go i H/\∃Nx:Hp->Prop,(∀H',Nx H'->∃m',m' < m/\W (i+1) m' H')/\∀x H',(Qv K a).yld i H x H'->g x (nJ σ vs) H' fun σ2 H2=>nJ σ2 vs=nJ σ vs/\tt σ2 H2 fun b H3=>if b=true then te σ2 H3 fun y H4=>∃acc,H4 D=some (.lst acc)/\acc.length < aU/\Nx (upd H4 D (.lst (acc++[y])))else Nx H3):=by
 refine⟨fun i m H=>m=xs.length - i/\i<=xs.length/\Pv i H,⟨xs.length,by simp,aY _,h0⟩,?_⟩;rintro i m H ⟨rfl,hi,p⟩;have q:=hl i H hi p;by_cases hlt:i < xs.length
 ·refine .inr ⟨⟨xs,xs[i],q,by simp[hlt]⟩,Pv (i+1),fun H' p'=>⟨xs.length - (i+1),by omega,rfl,hlt,p'⟩,fun x H' y=>?_⟩;obtain⟨e,y⟩:=y;subst e;exact hs i x _ (y xs q) p
 ·have e:i=xs.length:=by omega
  subst e;exact .inl ⟨⟨xs,q,aR _⟩,hd H p⟩
noncomputable def Zl (N:List Str) (sc scope:zI) (own:List (Str×Nat)):Bool:=
 (match scope.kind with | .function=>true | _=>false) && (scope.names.all fun y=>decide (scope.names.lookup y.1=some y.2)) && (own.all fun p=>decide (N[p.2]?=some p.1)) &&
  (scope.names.all fun y=>match y.2 with
   | .free=>(match sc.names.lookup y.1 with | some .cell=>true | some .free=>true | _=>false)
   | .local=>decide (y.1∈own.map (·.1)) || decide (y.1∉N)
   | .cell=>decide (y.1∈own.map (·.1)) || decide (y.1∉N)
   | _=>true)
theorem vB (h:Zl N sc scope own=true):Dy N sc scope own:=by
 unfold Zl at h;simp only[aE,cA,decide_eq_true_eq]at h;obtain⟨⟨⟨h1,h2⟩,h3⟩,h4⟩:=h;refine⟨?_,h2,h3,fun y hy e=>?_,fun y hy e=>?_⟩
 ·split at h1
  ·assumption
  ·cases h1
 ·have q:=h4 y hy;simp only[e]at q;split at q<;>first | exact .inl (by assumption) | exact .inr (by assumption) | cases q
 ·have q:=h4 y hy;rcases e with e | e<;>(simp only[e,gQ,decide_eq_true_eq]at q;exact q)
section
variable {κ:Type} [DecidableEq κ]
noncomputable def qP (kvs:List (κ×V)) (k:κ):Option V:=(kvs.find? fun kv=>decide (kv.1=k)).map (·.2)
noncomputable def EI (kvs:List (κ×V)) (k:κ) (v:V):List (κ×V):=if (kvs.any fun kv=>decide (kv.1=k))=true then kvs.map (fun kv=>if kv.1=k then (kv.1,v)else kv)else kvs++[(k,v)]
theorem Ts:qP ([]:List (κ×V)) k=none:=rfl
theorem oM {p:κ×V} {r:List (κ×V)} {k:κ} (e:p.1=k):qP (p::r) k=some p.2:=by simp[qP,jK,e]
theorem oK {p:κ×V} {r:List (κ×V)} {k:κ} (e:¬p.1=k):qP (p::r) k=qP r k:=by simp[qP,jK,e]
theorem MP (k:κ):∀kvs:List (κ×V),(kvs.any fun kv=>decide (kv.1=k))=(qP kvs k).isSome
 | []=>rfl
 | p::r=>by
  rw[AH];by_cases e:p.1=k
  ·simp only[oM e,decide_eq_true e,Bool.true_or,Kp]
  ·rw[oK e,decide_eq_false e,Bool.false_or];exact MP k r
theorem Hc (k j:κ) (y:V):∀kvs:List (κ×V),qP (kvs.map fun kv=>if kv.1=k then (kv.1,y)else kv) j=(qP kvs j).map fun x=>if j=k then y else x
 | []=>rfl
 | p::r=>by
  have ih:=Hc k j y r;rw[aP];by_cases h:p.1=k
  ·rw[if_pos h];by_cases e:p.1=j
   ·rw[oM (p:=(p.1,y)) e,oM e,kI,if_pos (e.symm.trans h)]
   ·rw[oK (p:=(p.1,y)) e,oK e,ih]
  ·rw[if_neg h];by_cases e:p.1=j
   ·rw[oM (p:=p) e,oM e,kI,if_neg (fun z=>h (e.trans z))]
   ·rw[oK (p:=p) e,oK e,ih]
theorem Ae (k j:κ) (y:V):∀kvs:List (κ×V),qP kvs k=none->qP (kvs++[(k,y)]) j=if j=k then some y else qP kvs j
 | [],_=>by
  by_cases e:k=j
  ·rw[if_pos e.symm];exact oM (p:=(k,y)) e
  ·rw[if_neg (fun z=>e z.symm)];exact oK (p:=(k,y)) e
 | p::r,hn=>by
  rw[iV];have hk:¬p.1=k:=fun z=>by rw[oM z]at hn;cases hn
  rw[oK hk]at hn;have ih:=Ae k j y r hn;by_cases e:p.1=j
  ·rw[oM e,oM e,if_neg (fun z=>hk (e.trans z))]
  ·rw[oK e,oK e,ih]
theorem Tt (kvs:List (κ×V)) (k j:κ) (y:V):qP (EI kvs k y) j=if j=k then some y else qP kvs j:=by
 unfold EI;by_cases a:(kvs.any fun kv=>decide (kv.1=k))=true
 ·rw[if_pos a,Hc];rw[MP]at a;by_cases e:j=k
  ·obtain⟨x,hx⟩:=XU.mp a;rw[if_pos e,e,hx,kI,if_pos rfl]
  ·rw[if_neg e];cases qP kvs j with
   | none=>rfl
   | some x=>rw[kI,if_neg e]
 ·rw[if_neg a];refine Ae k j y kvs ?_;rw[MP]at a;cases q:qP kvs k with
  | none=>rfl
  | some x=>rw[q]at a;exact(a rfl).elim
theorem OM (kvs:List (κ×V)) (k:κ) (v:V):(EI kvs k v).length<=kvs.length+1:=by
 unfold EI;split
 ·rw[aJ];omega
 ·rw[aC,aK,fY];omega
theorem DO.isSome_eq (r:DO o u):o.isSome=u.isSome:=by
 cases o with
 | none=>cases u with
  | none=>rfl
  | some _=>exact(show False from r).elim
 | some _=>cases u with
  | none=>exact(show False from r).elim
  | some _=>rfl
theorem KV.val {kvs:List (κ×V)} {vs:List (κ×Value)} (r:KV kvs vs) (k:κ):DO (qP kvs k) (valueAt vs k):=by
 unfold KV at r;induction r with
 | nil=>exact oP
 | @cons p q ps qs h t ih=>
  obtain⟨h1,h2⟩:=h;by_cases e:p.1=k
  ·have e':q.1=k:=h1.symm.trans e;have b:valueAt (q::qs) k=some q.2:=by simp[valueAt,jK,e']
   rw[oM e,b];exact h2
  ·have e':¬q.1=k:=fun z=>e (h1.trans z);have b:valueAt (q::qs) k=valueAt qs k:=by simp[valueAt,jK,e']
   rw[oK e,b];exact ih
theorem KV.any (r:KV kvs vs) (k:κ):(kvs.any fun kv=>decide (kv.1=k))=vs.any fun kv=>decide (kv.1=k):=by
 unfold KV at r;induction r with
 | nil=>rfl
 | cons h t ih=>rw[AH,AH,ih,h.1]
theorem KV.repl (r:KV kvs vs) (k:κ) (ry:gN y u):
  KV (kvs.map fun kv=>if kv.1=k then (kv.1,y)else kv) (vs.map fun kv=>if kv.1=k then (kv.1,u)else kv):=by
 unfold KV at r ⊢;induction r with
 | nil=>exact .nil
 | @cons p q ps qs h t ih=>
  rw[aP,aP];refine .cons ?_ ih;obtain⟨h1,h2⟩:=h;by_cases e:p.1=k
  ·rw[if_pos e,if_pos (h1.symm.trans e)];exact⟨h1,ry⟩
  ·rw[if_neg e,if_neg (fun z=>e (h1.trans z))];exact⟨h1,h2⟩
theorem KV.put (r:KV kvs vs) (k:κ) (ry:gN y u):KV (EI kvs k y) (stored vs k u):=by
 unfold EI stored;rw[r.any k];by_cases e:(vs.any fun kv=>decide (kv.1=k))=true
 ·rw[if_pos e,if_pos e];exact r.repl k ry
 ·rw[if_neg e,if_neg e];exact Paired.snoc r ⟨rfl,ry⟩
theorem KV.length (r:KV kvs vs):kvs.length=vs.length:=ID r
end
theorem Eu (r:gN (kV k) u):(lW P w).is k u=true:=by
 cases k with
 | inl i=>obtain⟨t,e⟩:=(show ∃t,u=AN i t from r);subst e;exact Fg P w i t
 | inr x=>obtain⟨t,e⟩:=(show ∃t,u=QD x t from r);subst e;exact Fh P w x t
theorem YS:∀{ks:List CS} {us:List Value},gB (ks.map kV) us->ItemsAre (lW P w) ks us
 | [],_,r=>by rw[CV]at r;cases r;exact .nil
 | k::ks,_,r=>by
  rw[aP]at r;cases r with
  | cons h t=>exact .cons (Eu h) (YS t)
noncomputable abbrev KT (H:Hp):List (List CS×V)->List (List CS×aQ×Value)->Prop:=hU fun p q=>p.1=q.1/\H q.2.1=some (.tup (p.1.map kV))/\gN p.2 q.2.2
theorem KT.val {H:Hp} {kvs:List (List CS×V)} {xs:List (List CS×aQ×Value)} (r:KT H kvs xs) (k:List CS):DO (qP kvs k) ((Hy xs k).map (·.2)):=by
 induction r with
 | nil=>exact oP
 | @cons p q ps qs h t ih=>
  obtain⟨h1,_,h2⟩:=h;by_cases e:p.1=k
  ·have e':q.1=k:=h1.symm.trans e;have b:Hy (q::qs) k=some q.2:=by simp[Hy,jK,e']
   rw[oM e,b];exact h2
  ·have e':¬q.1=k:=fun z=>e (h1.trans z);have b:Hy (q::qs) k=Hy qs k:=by simp[Hy,jK,e']
   rw[oK e,b];exact ih
theorem KT.repl (r:KT H kvs xs) (k:List CS) (ry:gN y u):
  KT H (kvs.map fun kv=>if kv.1=k then (kv.1,y)else kv) (xs.map (putAt k u)):=by
 induction r with
 | nil=>exact .nil
 | @cons p q ps qs h t ih=>
  rw[aP,aP];refine .cons ?_ ih;obtain⟨h1,h2,h3⟩:=h;unfold putAt;by_cases e:p.1=k
  ·rw[if_pos e,if_pos (h1.symm.trans e)];exact⟨h1,h2,ry⟩
  ·rw[if_neg e,if_neg (fun z=>e (h1.trans z))];exact⟨h1,h2,h3⟩
theorem KT.put (r:KT H kvs xs) (k:List CS) (hb:H b=some (.tup (k.map kV))) (ry:gN y u):
  KT H (EI kvs k y) (storedH xs k b u):=by
 have e:(kvs.any fun kv=>decide (kv.1=k))=(Hy xs k).isSome:=by rw[MP,(r.val k).isSome_eq,Option.isSome_map]
 unfold EI storedH;rw[e];by_cases q:(Hy xs k).isSome=true
 ·rw[if_pos q,if_pos q];exact r.repl k ry
 ·rw[if_neg q,if_neg q];exact Paired.snoc r ⟨rfl,hb,ry⟩
theorem KT.keeps (r:KT H kvs xs) (ht:∀b ys,H b=some (.tup ys)->H' b=some (.tup ys)):KT H' kvs xs:=Paired.mapP r fun _ _ z=>⟨z.1,ht _ _ z.2.1,z.2.2⟩
section
variable {P:dF} {w:eW} {H:Hp} {h:gF} {a:aQ}
theorem Wv (ok:CQ P w H h) (e:Rd H a u):lF P w H h a u:=e.ok ok
theorem Ri (ok:CQ P w H h) (e:Rd H a (.dK kvs)):kvs.length<=aU/\(a == pF)=false/\∃vs,KV kvs vs/\h.DictOf (lW P w) a vs:=show lF P w H h a (.dK kvs)from Wv ok e
theorem Zp (ok:CQ P w H h) (e:H a=some (.dK kvs)):kvs.length<=aU/\(a == pF)=false/\∃vs,KV kvs vs/\h.DictOf (lW P w) a vs:=Ri ok (.inl e)
theorem Jp (ok:CQ P w H h) (e:H a=some (.tup (ks.map kV))):(Aq (lW P w)).is h ks a:=by obtain⟨_,eG,r,o,h1,h2,n,h3⟩:=(show lF P w H h a (.tup (ks.map kV))from ok a _ e);exact⟨o,eG.toArray,n,h1,h2,h3.1,by simpa using YS r⟩
theorem Rl (ok:CQ P w H h) (e:Rd H a (.dT kvs)):kvs.length<=aU/\(a == pF)=false/\
  ∃xs,KT H kvs xs/\h.DictOfH (Aq (lW P w)) a xs:=by
 obtain⟨z,y,xs,r,o,es,ep,h1,h2,h3,h4,h5⟩:=(show lF P w H h a (.dT kvs)from Wv ok e);refine⟨z,y,xs,r,o,es,ep,h1,h2,h3,h4,fun x hx=>?_,h5⟩;have all:∀{l:List (List CS×V)} {m:List (List CS×aQ×Value)},KT H l m->∀x∈m,(Aq (lW P w)).is h x.1 x.2.1:=by
  intro l m q;induction q with
  | nil=>intro x hx;exact nomatch hx
  | @cons p q ps qs hq t ih=>
   intro x hx;rcases aS.mp hx with e | hx
   ·subst e;exact Jp ok (by rw[<-hq.1];exact hq.2.1)
   ·exact ih x hx
 exact all r x hx
theorem Zq (ok:CQ P w H h) (e:H a=some (.dT kvs)):kvs.length<=aU/\(a == pF)=false/\∃xs,KT H kvs xs/\h.DictOfH (Aq (lW P w)) a xs:=Rl ok (.inl e)
end
def Ie (H:Hp) (a:aQ) (y:V) (r:Option V):Prop:=(∃kvs k,Rd H a (.dK kvs)/\y=kV k/\r=qP kvs k)\/∃kvs k b,Rd H a (.dT kvs)/\y=.ref b/\H b=some (.tup (k.map kV))/\r=qP kvs k
def Nf (H:Hp) (a:aQ) (y v:V) (H':Hp):Prop:=(∃kvs k,H a=some (.dK kvs)/\y=kV k/\kvs.length < aU/\H'=upd H a (.dK (EI kvs k v)))\/∃kvs k b,H a=some (.dT kvs)/\y=.ref b/\H b=some (.tup (k.map kV))/\kvs.length < aU/\H'=upd H a (.dT (EI kvs k v))
theorem Ie.t (e:H a=some (.dT kvs)) (eb:H b=some (.tup (k.map kV))):Ie H a (.ref b) (qP kvs k):=.inr ⟨kvs,k,b,.inl e,rfl,eb,rfl⟩
theorem Nf.t (e:H a=some (.dT kvs)) (eb:H b=some (.tup (k.map kV))) (hl:kvs.length < aU):Nf H a (.ref b) v (upd H a (.dT (EI kvs k v))):=.inr ⟨kvs,k,b,e,rfl,eb,hl,rfl⟩
section
variable {X:Cx} {pins:List (aQ×Obj)} {σ:St} {H:Hp} {s:aV} {a:aQ} {y v:V} {u r:Value} {o:Option V} {A:jW} {E:Value->aV->Prop}
theorem dH.big (I:dH X pins σ H s):pF < s.heap.objs.size:=by have h:jU < s.heap.objs.size:=(I.mod.glob.keeps I.bk).lt;exact Nat.lt_trans (by decide) h
theorem Nz (hu:A.units+1 < Qk) (I:dH X pins σ H s) (g:Ie H a y (some v)) (ry:gN y u) (h:∀w' s',dH X pins σ H s'->gN v w'->Q w' s'):
  bJ (cC X.prog X.w) A (DB (.ref a) u) Q E s:=by
 rcases g with⟨kvs,k,e,ey,l⟩ | ⟨kvs,k,b,e,ey,eb,l⟩
 ·subst ey;obtain⟨z,hd,vs,rel,dd⟩:=Ri I.hok e;obtain⟨w',hw,rw'⟩:=DO.some_of (v:=v) (o:=valueAt vs k) (by rw[l];exact rel.val k);exact wpAny_getItem_of (Eu ry) dd.mapOf hw (h w' _ (I.tok _) rw')
 ·subst ey;cases(show u=cO b from ry);obtain⟨z,hd,xs,rel,dd⟩:=Rl I.hok e;obtain⟨w',hw,rw'⟩:=DO.some_of (v:=v) (o:=(Hy xs k).map (·.2)) (by rw[l];exact rel.val k);obtain⟨p,hp,hp2⟩:=aO.mp hw;refine wpAny_getItem_heap (tupleKind_room_in1 hu) (Jp I.hok eb) dd hp ?_;rw[hp2];exact h w' _ (I.tok _) rw'
theorem Le (I:dH X pins σ H s) (mu:Ze (H a)) (hs:xK a s.heap h') (he:∃q,h'.get? a=some q) (new:lF X.prog X.w (upd H a ob) h' a ob):dH X pins σ (upd H a ob) {s with heap:=h',toks:=t'}:=I.write (x:=a) (e:=a) mu (.inl rfl) (fun b q hb z=>(hs.2 b hb).trans z) he new
theorem Xk (z:kvs.length<=aU) (hd:(a == pF)=false) (rel:KV kvs vs) (dd:h'.DictOf (lW P w) a vs):lF P w H' h' a (.dK kvs):=⟨z,hd,vs,rel,dd⟩
theorem Oa (hu:A.units+1 < Qk) (I:dH X pins σ H s) (g:Nf H a y v H') (ry:gN y u) (rv:gN v r) (h:∀s',dH X pins σ H' s'->Q () s'):
  bJ (cC X.prog X.w) A (setItem (.ref a) u r) Q E s:=by
 rcases g with⟨kvs,k,e,ey,l,eH⟩ | ⟨kvs,k,b,e,ey,eb,l,eH⟩
 ·subst ey eH;obtain⟨z,hd,vs,rel,dd⟩:=Zp I.hok e;have hz:vs.length<=aU:=by rw[<-rel.length];exact z
  have hl:(EI kvs k v).length<=aU:=by have:=OM kvs k v;omega
  refine wpAny_setItem_pairs (hsz:=hz) (Eu ry) dd fun h' dd' hs=>h _ ?_;have he:∃q,h'.get? a=some q:=let ⟨q,_,_,hq,_⟩:=dd';⟨q,hq⟩;exact Le I (by rw[e];exact oP) hs he (Xk hl hd (rel.put k rv) dd')
 ·subst ey eH;cases(show u=cO b from ry);obtain⟨z,hd,xs,rel,dd⟩:=Zq I.hok e;have hz:xs.length<=aU:=by rw[<-ID rel];exact z
  have hl:(EI kvs k v).length<=aU:=by have:=OM kvs k v;omega
  refine wpAny_setItem_heap (hsz:=hz) (tupleKind_room_in1 hu) (Jp I.hok eb) dd fun h' dd' hs=>h _ ?_;obtain⟨q,es,ep,hq,h2,h3,h4,_,h5⟩:=dd';refine Le I (by rw[e];exact oP) hs ⟨q,hq⟩ ⟨hl,hd,_,(rel.put k eb rv).keeps fun c ys ec=>?_,q,es,ep,hq,h2,h3,h4,h5⟩;rw[bL (kK ec e (fun z=>nomatch z))];exact ec
end
def Xb (i:Expr):Prop:=∀ov iv,Di i false ov iv=operate [ov,iv] (DB ov iv)
theorem Ml {prog:dF} {w:eW} {A:jW} {E:Value->aV->Prop} {s:aV} {env:Env} {value slice:Expr} {pos:Pos} {T id:String} {Q:Value->aV->Prop}
  (hl:typeLookup (.type T) "__getitem__"=pure (some (.builtin id))) (hs:Xb slice)
  (h:bJ (cC prog w) A (hX value env) (fun o s₁=>bJ (cC prog w) A (hX slice env) (fun i s₂=>s₂.TypeIs o T/\bJ (cC prog w) A (DB o i) Q E s₂) E s₁) E s):
  bJ (cC prog w) A (hX (.Subscript value slice pos) env) Q E s:=by
 refine Subscript_ (fZ h (fun o s₁ h₁=>fZ h₁ (fun i s₂ h₂=>?_) fun _ _ x=>x) fun _ _ x=>x);obtain⟨hT,h₂⟩:=h₂;unfold Mw;refine aF ?_;rw[getitemInPython_of_ne hT.not_modules];refine aF (wpAny_specialOf hT hl ?_);have fin:bJ (cC prog w) A (Di slice false o i) (fun r s₃=>bJ (cC prog w) A (letTemporaryGo value o r >>= fun _=>pure r) Q E s₃) E s₂:=by rw[hs o i];exact wpAny_operating (fZ h₂ (fun r s₃ h₃=>aF (wpAny_letTemporaryGo (aZ h₃))) fun _ _ x=>x)
 first
  | exact aZ (aF fin)
  | exact aF (aZ (aF fin))
  | exact aF fin
theorem Eg (I:dH X pins σ H s) (g:Ie H a y o):s.TypeIs (.ref a) "dict":=by
 rcases g with⟨kvs,k,e,_,_⟩ | ⟨kvs,k,b,e,_,_,_⟩
 ·obtain⟨_,_,vs,_,dd⟩:=Ri I.hok e;exact dd.typeIs
 ·obtain⟨_,_,xs,_,dd⟩:=Rl I.hok e;exact dd.typeIs
inductive Wo (Q:VK) (x y:V) (H2:Hp):Prop
 | mk (a:_) (v:_):x=.ref a->Ie H2 a y (some v)->Q v H2->Wo Q x y H2
noncomputable def D1 (td ty:TE):TE:=fun σ H Q=>td σ H fun x H1=>ty σ H1 fun y H2=>Wo Q x y H2
noncomputable def C8 (td ty tv:TE):TS:=fun D σ H=>tv σ H fun v H1=>td σ H1 fun x H2=>ty σ H2 fun y H3=>∃a H4,x=.ref a/\Nf H3 a y v H4/\D.nx σ H4
section
variable {X:Cx} {o i e value:Expr} {pos pos' tpos:Pos} {td ty tv:TE}
theorem RE (hu:X.A.units+1 < Qk) (ho:PE X o td) (hi:PE X i ty) (hs:Xb i):PE X (.Subscript o i pos) (D1 td ty):=by intro pins s σ H Q I h;refine Ml PySem.F.slot_dict_getitem.lookup hs (kY (ho pins s σ H _ I h) fun u s1 ⟨x,H1,I1,rx,q1⟩=>kY (hi pins s1 σ H1 _ I1 q1) fun iv s2 ⟨y,H2,I2,ry,a,v,ex,g,q2⟩=>?_);subst ex;obtain rfl:u=cO a:=rx;exact⟨Eg I2 g,Nz hu I2 g ry fun w' s3 I3 rw'=>⟨v,H2,I3,rw',q2⟩⟩
theorem Vp (hu:X.A.units+1 < Qk) (ho:PE X o td) (hi:PE X i ty) (hv:PE X value tv) (hs:wT value (some (.Subscript o i pos')) pos.line X.env=pure false):
  PS X (.Assign [.Subscript o i pos'] value pos) (C8 td ty tv):=by
 intro pins s σ H D I h;refine wpAny_Assign_Subscript (kY (hv pins s σ H _ I h) fun r s1 ⟨v,H1,I1,rv,q1⟩=>kY (ho pins s1 σ H1 _ I1 q1) fun u s2 ⟨x,H2,I2,rx,q2⟩=>kY (hi pins s2 σ H2 _ I2 q2) fun iv s3 ⟨y,H3,I3,ry,a,H4,ex,g,q3⟩=>?_) hs;subst ex;obtain rfl:u=cO a:=rx;exact Oa hu I3 g ry rv fun s4 I4=>⟨σ,H4,I4,q3⟩
end
theorem Rk (h:gF) (hb:pF < h.objs.size):lF P w H (h.push {cls:=.type "dict",data:=.dict #[]}) h.objs.size (.dT []):=⟨aY _,beq_eq_false_iff_ne.mpr (uU (eK hb)),[],.nil,_,#[],0,bQ _ rfl,⟨rfl,rfl,rfl⟩,rfl,rfl,GM⟩
noncomputable def Yh:TE:=fun _ H Q=>∀p,H p=none->Q (.ref p) (upd H p (.dT []))
section
variable {X:Cx} {pos:Pos}
theorem Ss:PE X (.Dict [] [] pos) Yh:=fun pins s σ H Q I h=>wpAny_Dict_empty ⟨.ref s.heap.objs.size,_,I.laid (a:=s.heap.objs.size) (o:=.dT []) (t':=s.toks) (fun _ _ q=>aG _ q) (aR _) (Rk s.heap I.big),rfl,h _ (I.hok.fresh (aR _))⟩
end
theorem SA:vS "reversed"=some (.type "reversed"):=by decide+kernel
section
variable {X:Cx} {pins:List (aQ×Obj)} {σ:St} {H:Hp} {s:aV} {h':gF}
theorem dH.turnedL {t':Nat} {ch:List aQ} (I:dH X pins σ H s) (k:∀b o,b∉ch->s.heap.get? b=some o->h'.get? b=some o) (hf:∀b∈ch,DN X pins H b):dH X pins σ H {s with heap:=h',toks:=t'}:=by
 have nit:∀b u,H b=some u->b∉ch:=fun b u e z=>by have q:=(hf b z).1;rw[q]at e;cases e
 refine I.step (g':=s.gens) (d':=s.drawn) (ch:=ch) (fun b hb=>⟨(hf b hb).2.2.2.1,(hf b hb).2.1,(hf b hb).2.2.2.2.1,(hf b hb).2.2.2.2.2⟩) (fun b o _ _ hc e _=>k b o hc e) (fun b o _ _ hc e _=>⟨o.slots,k b o hc e⟩)
  (fun _ _ _ _ n=>n) (fun b o hc e=>⟨o,k b o hc e⟩) (fun _ _ e=>e) (fun _ _ _ e=>e) (fun b ps e=>⟨#[],by rw[e];simp⟩) (fun m hm=>?_) (fun b u e=>?_) I.bare
 ·obtain⟨o,es,ep,ho,r⟩:=hm;exact⟨o,es,ep,k _ o (fun z=>(hf _ z).2.1 rfl) ho,r⟩
 ·refine(I.hok b u e).stay (fun c v hc q=>k c v ?_ q) (fun _ q=>q) fun _ _ q=>q;rcases hc with z | z
  ·rw[z];exact nit b u e
  ·exact nit c _ z
theorem dH.turnedNew {t':Nat} {ch:List aQ} {T:aQ} {ob:HO} (I:dH X pins σ H s) (k:∀b o,b∉ch->s.heap.get? b=some o->h'.get? b=some o) (hf:∀b∈ch,DN X pins H b) (hT:s.heap.objs.size<=T)
  (new:lF X.prog X.w (upd H T ob) h' T ob):dH X pins σ (upd H T ob) {s with heap:=h',toks:=t'}:=by
 have hn:H T=none:=I.hok.fresh hT;have nit:∀b u,H b=some u->b∉ch:=fun b u e z=>by have q:=(hf b z).1;rw[q]at e;cases e
 refine I.step (g':=s.gens) (d':=s.drawn) (ch:=ch) (fun b hb=>⟨(hf b hb).2.2.2.1,(hf b hb).2.1,(hf b hb).2.2.2.2.1,(hf b hb).2.2.2.2.2⟩) (fun b o _ _ hc e _=>k b o hc e) (fun b o _ _ hc e _=>⟨o.slots,k b o hc e⟩)
  (fun b o _ e n=>?_) (fun b o hc e=>⟨o,k b o hc e⟩) (fun b xs e=>?_) (fun b o u e=>?_) (fun b ps e=>⟨#[],?_⟩) (fun m hm=>?_) (fun b u e=>?_) I.bare
 ·rw[bL (eK (bZ (bY e) hT))];exact n
 ·rw[bL (dM e hn)];exact e
 ·rw[bL (dM e hn)];exact e
 ·rw[bL (dM e hn),e];simp
 ·obtain⟨o,es,ep,ho,r⟩:=hm;exact⟨o,es,ep,k _ o (fun z=>(hf _ z).2.1 rfl) ho,r⟩
 ·by_cases hb:b=T
  ·subst hb;rw[aH]at e;cases e;exact new
  ·rw[bL hb]at e;refine(I.hok b u e).stay (fun c v hc q=>k c v ?_ q) (fun c q=>by rw[bL (dM q hn)];exact q) fun c xs q=>by rw[bL (dM q hn)];exact q
   rcases hc with z | z
   ·rw[z];exact nit b u e
   ·exact nit c _ z
end
section
variable {X:Cx}
theorem Ck (I:dH X pins σ H s) (o:Obj)
  (T:WZ X.prog X.w X.K tg J [s.heap.objs.size] s.heap.objs.size tn) (st:tn 0 (s.heap.push o)) (q:R J H):F3 X pins σ tg R (.ref s.heap.objs.size) {s with heap:=s.heap.push o,toks:=tk}:=by
 refine⟨s.heap.objs.size,[s.heap.objs.size],tn,J,H,rfl,I.kept fun b ob e=>aG _ e,T,st,fun b hb=>?_,q⟩;have e:b=s.heap.objs.size:=by simpa using hb
 subst e;exact I.fpOk (aR _) (I.hok.fresh (aR _))
end
noncomputable def Zb (lo c:Int) (n:Nat):It:=⟨fun i _=>i < n,fun i H x H'=>H'=H/\x=.int (lo+(i:Nat) * c),fun i _=>n<=i⟩
theorem Ha {P:dF} {w:eW} {K:aB} {tg:Expr} (it:aQ) (lo c:Int) (n:Nat):WZ P w K tg (Zb lo c n) [it] it (fun i h=>Dd h it (lo+(i:Nat) * c) ((n:Int) - (i:Nat)) c) where
 mem:=by simp
 obj:=fun i h st b hb=>by
  have e:b=it:=by simpa using hb
  subst e;exact⟨_,st,fun v z=>nomatch z⟩
 keep:=fun i h h' st k=>k it (by simp) _ st
 item:=by intro X hP hw hK hc i pins s σ H E I hf st hg;subst hP hw hK;obtain⟨f0,f1,f2,f3,f4,f5⟩:=hf it (by simp);have W:=Walks.range (prog:=X.prog) (w:=X.w) (I.ok.hd hc) it lo c n;refine W.item i s _ _ hg st fun v h' tk hv st' kk=>?_;obtain⟨t,rfl⟩:=hv;have I1:dH X pins σ H {s with heap:=h',toks:=tk}:=I.turned (fun b o hb e=>kk b o (by simpa using hb) e) f0 f1 f3 f4 f5;exact⟨_,rfl,YQ (s:={s with heap:=h',toks:=tk}) (n:="range_iterator") st' rfl rfl (by decide) ⟨.int (lo+(i:Nat) * c),H,I1,⟨t,rfl⟩,⟨rfl,rfl⟩,st',fun b hb=>(hf b hb).1⟩⟩
 done:=by intro X hP hw hK hc i pins s σ H E I hf st hg;subst hP hw hK;obtain⟨f0,f1,f2,f3,f4,f5⟩:=hf it (by simp);exact wpAny_pyNext_range_end (I.ok.hd hc) st (by have:n<=i:=hg;omega) fun h' eb=>⟨rfl,I.turned (t':=s.toks) (fun b o hb e=>eb b o hb e) f0 f1 f3 f4 f5⟩
 self:=fun A i s Q E st h=>wpAny_pyIter_rangeiter st h
def Zf (i j c:Int) (n:Nat):Prop:=c≠0/\c.natAbs < 1073741824/\Builtin.Range.small i j c=true/\wR i j c=n
theorem Zf.neg (ha: -(2 ^ 62)<=i) (ha':i < 2 ^ 62) (hb: -(2 ^ 62)<=j) (hb':j < 2 ^ 62):Zf i j (-1) (i - j).toNat:=⟨by decide,by decide,PySem.W.small_down ha ha' hb hb',PySem.W.rangeSize_downNat i j⟩
noncomputable def Zz (ta:TA):TI:=fun σ H R=>ta σ H fun vs H1=>∃(i j c:Int) (n:Nat),vs=[.int i,.int j,.int c]/\Zf i j c n/\R (Zb i c n) H1
section
variable {X:Cx} {tg:Expr}
theorem ZJ (hg:Gl X "range") (hm:X.mg "range"=none) (ha:PA X [a,b,c] ta)
  (hs:bO [a,b,c] X.env=(false,hX a X.env)::bO [b,c] X.env:=by rfl) (hpl:(jH pos (bO [b,c] X.env)).any (·.1)=false:=by rfl):
  PI X tg (.Call (.Name "range" p) [a,b,c] [] pos) (Zz ta):=by
 intro pins s σ H R I h;refine Qb (uG I hg hm boot_range (fW (kY (ha pos pins s σ H _ I h) fun us s1 ⟨vs,H1,I1,r1,q1⟩=>?_) hs hpl));obtain⟨i,j,k,n,e,⟨c0,c1,c2,c3⟩,q⟩:=q1;subst e;cases r1 with
 | cons r rr=>
  cases rr with
  | cons r' rr=>
   cases rr with
   | cons r'' rr=>
    cases rr;obtain⟨t,rfl⟩:=r;obtain⟨t',rfl⟩:=r';obtain⟨t'',rfl⟩:=r'';refine call_range_3 c0 ?_ (.inl (PyProof.noPylong_small c1));refine wpAny_pyIter_range (IsRange.new ..) c2 ?_;have I2:dH X pins σ H1 {s1 with heap:=s1.heap.push {cls:=.type "range",data:=.fields #[.int i t,.int j t',.int k t'']}}:=I1.kept (t':=s1.toks) fun b o e=>aG _ e;refine Ck (tk:=s1.toks) I2 _ (Ha _ i k n) ?_ q;have e1:i+((0:Nat):Int) * k=i:=by simp
    have e2:(n:Int) - ((0:Nat):Int)=wR i j k:=by rw[c3];simp
    show Dd _ _ (i+((0:Nat):Int) * k) ((n:Int) - ((0:Nat):Int)) k;rw[e1,e2];exact bQ _ rfl
end
theorem SX {lo c:Int} {n:Nat} {g:TG} {tb:TS} {D:IL} {σ:St} {H:Hp} (Pv:Nat->St->Hp->Prop) (h0:Pv 0 σ H)
  (hs:∀i σ H,i < n->Pv i σ H->g (.int (lo+(i:Nat) * c)) σ H fun σ2 H2=>tb {D with nx:=Pv (i+1),ct:=Pv (i+1),bk:=D.nx} σ2 H2) (hd:∀σ H,Pv n σ H->D.nx σ H):
  ∃W:Nat->Nat->St->Hp->Prop,(∃m,W 0 m σ H)/\∀i m σ H,W i m σ H->
   ((Zb lo c n).stop i H/\D.nx σ H)\/((Zb lo c n).go i H/\∃N:St->Hp->Prop,(∀σ' H',N σ' H'->∃m',m' < m/\W (i+1) m' σ' H')/\∀x H',(Zb lo c n).yld i H x H'->g x σ H' fun σ2 H2=>tb {D with nx:=N,ct:=N,bk:=D.nx} σ2 H2):=by
 refine⟨fun i m σ H=>m=n - i/\i<=n/\Pv i σ H,⟨n,by simp,aY _,h0⟩,?_⟩;rintro i m σ H ⟨rfl,hi,p⟩;by_cases hlt:i < n
 ·refine .inr ⟨hlt,Pv (i+1),fun σ' H' p'=>⟨n - (i+1),by omega,rfl,hlt,p'⟩,fun x H' y=>?_⟩;obtain⟨e,y⟩:=y;subst e y;exact hs i σ _ hlt p
 ·have e:i=n:=by omega
  subst e;exact .inl ⟨aR _,hd σ H p⟩
noncomputable def Zd (K:aB) (a:aQ) (n:Nat):It:=⟨fun i H=>i < n/\∃(xs:List V) (x:V),hJ K H a xs/\xs[n - 1 - i]?=some x,fun i H x H'=>H'=H/\∀xs,hJ K H a xs->xs[n - 1 - i]?=some x,fun i _=>n<=i⟩
theorem Tp {P:dF} {w:eW} {K:aB} {tg:Expr} (a it:aQ) (n:Nat):WZ P w K tg (Zd K a n) [it] it (fun i h=>i<=n/\h.IsRevIter it a ((n:Int) - 1 - (i:Nat))) where
 mem:=by simp
 obj:=fun i h st b hb=>by
  have e:b=it:=by simpa using hb
  subst e;obtain⟨_,o,e,c,d⟩:=st;exact⟨o,e,fun v z=>by rw[d]at z;cases z⟩
 keep:=fun i h h' st k=>⟨st.1,st.2.at fun o e=>k it (by simp) o e⟩
 item:=by
  intro X hP hw hK hc i pins s σ H E I hf st hg;subst hP hw hK;obtain⟨hin,xs,x,hq,hx⟩:=hg;obtain⟨eG,rv,p,hz⟩:=I.list hq;obtain⟨u,hu,ru⟩:=rv.get hx;obtain⟨f0,f1,f2,f3,f4,f5⟩:=hf it (by simp);obtain⟨_,hit⟩:=st;have e1:(n:Int) - 1 - ((i:Nat):Int)=((n - 1 - i:Nat):Int):=by omega
  rw[e1]at hit;refine wpAny_pyNext_rev_item hit p.isList (x:=u) (by simpa using hu) fun h' st' sb=>?_;have e2:((n - 1 - i:Nat):Int) - 1=(n:Int) - 1 - ((i+1:Nat):Int):=by omega
  rw[e2]at st';have I1:dH X pins σ H {s with heap:=h'}:=I.turned (t':=s.toks) (fun b o hb e=>(sb.2 b hb).trans e) f0 f1 f3 f4 f5;obtain⟨o,e,c,d⟩:=id st';exact⟨u,rfl,YQ (s:={s with heap:=h'}) e c d (by decide) ⟨x,H,I1,ru,⟨rfl,fun ys hy=>by rw[I.list_inj hy hq];exact hx⟩,⟨hin,st'⟩,fun b hb=>(hf b hb).1⟩⟩
 done:=by
  intro X hP hw hK hc i pins s σ H E I hf st hg;subst hP hw hK;obtain⟨f0,f1,f2,f3,f4,f5⟩:=hf it (by simp);obtain⟨hin,hit⟩:=st;have hge:n<=i:=hg;have e1:(n:Int) - 1 - ((i:Nat):Int)= -1:=by omega
  rw[e1]at hit;exact wpAny_pyNext_rev_end (I.ok.hd hc) hit fun h' eb=>⟨rfl,I.turned (t':=s.toks) (fun b o hb e=>eb b o hb e) f0 f1 f3 f4 f5⟩
 self:=fun A i s Q E st h=>wpAny_pyIter_revIter st.2 h
noncomputable def F9 (K:aB) (ta:TA):TI:=fun σ H R=>ta σ H fun vs H1=>∃(a:aQ) (xs:List V),vs=[.ref a]/\hJ K H1 a xs/\R (Zd K a xs.length) H1
section
variable {X:Cx} {tg:Expr}
theorem Gb {e:Expr} {ta:TA} {p pos:Pos} (hg:Gl X "reversed") (hm:X.mg "reversed"=none) (ha:PA X [e] ta) (hs:bO [e] X.env=[(false,hX e X.env)]:=by rfl):PI X tg (.Call (.Name "reversed" p) [e] [] pos) (F9 X.K ta):=by
 intro pins s σ H R I h;refine Qb (uG I hg hm SA (fW (kY (ha pos pins s σ H _ I h) fun us s1 ⟨vs,H1,I1,r1,q1⟩=>?_) hs rfl));obtain⟨a,xs,e,hq,q⟩:=q1;subst e;cases r1 with
 | cons r rr=>
  cases rr;cases r;obtain⟨eG,rv,p',hz⟩:=I1.list hq;have hl:=rv.length;have e1:((eG.toArray.size:Nat):Int) - 1=(xs.length:Int) - 1 - ((0:Nat):Int):=by simp only[bN];omega
  refine call_reversed_list p'.isList (wpAny_pyIter_revIter (l:=a) (i:=((eG.toArray.size:Nat):Int) - 1) ⟨_,bQ _ rfl,rfl,rfl⟩ ?_);refine Ck (tk:=s1.toks) I1 _ (Tp a _ xs.length) ⟨aY _,?_⟩ q;rw[<-e1];exact⟨_,bQ _ rfl,rfl,rfl⟩
end
noncomputable def Wj (x:Str):It:=⟨fun i _=>i < x.cps.size,fun i H v H'=>H'=H/\∃c,x.cps[i]?=some c/\v=.str ⟨#[c]⟩,fun i _=>x.cps.size<=i⟩
theorem Hb {P:dF} {w:eW} {K:aB} {tg:Expr} (it:aQ) (x:Str) (t:Tok) (ty:String) (hty:ty="str_ascii_iterator"\/ty="str_iterator"):
  WZ P w K tg (Wj x) [it] it (fun i h=>h.IsStrIter it ty x t i) where
 mem:=by simp
 obj:=fun i h st b hb=>by
  have e:b=it:=by simpa using hb
  subst e;obtain⟨o,e,c,d⟩:=st;exact⟨o,e,fun v z=>by rw[d]at z;cases z⟩
 keep:=fun i h h' st k=>let ⟨o,ho,r⟩:=st;⟨o,k it (by simp) o ho,r⟩
 item:=by
  intro X hP hw hK hc i pins s σ H E I hf st hg;subst hP hw hK;obtain⟨f0,f1,f2,f3,f4,f5⟩:=hf it (by simp);have W:Walks X.prog X.w X.A it [it] [it] x.cps.size (SignAt x) (fun i h=>h.IsStrIter it ty x t i):=by
   rcases hty with e | e
   ·rw[e];exact Walks.strAscii (I.ok.hd hc) it x t
   ·rw[e];exact Walks.strWide (I.ok.hd hc) it x t
  have hno:["enumerate","zip","dict_itemiterator","dict_reverseitemiterator","odict_iterator","itertools.zip_longest","itertools.pairwise"].contains ty=false:=by
   rcases hty with e | e
   ·rw[e];decide
   ·rw[e];decide
  refine W.item i s _ _ hg st fun v h' tk hv st' kk=>?_;obtain⟨c,u,hcx,rfl⟩:=hv;have I1:dH X pins σ H {s with heap:=h',toks:=tk}:=I.turned (fun b o hb e=>kk b o (by simpa using hb) e) f0 f1 f3 f4 f5;obtain⟨oi,e,cc,dd⟩:=id st';exact⟨_,rfl,YQ (s:={s with heap:=h',toks:=tk}) e cc dd hno ⟨.str ⟨#[c]⟩,H,I1,⟨u,rfl⟩,⟨rfl,c,hcx,rfl⟩,st',fun b hb=>(hf b hb).1⟩⟩
 done:=by
  intro X hP hw hK hc i pins s σ H E I hf st hg;subst hP hw hK;obtain⟨f0,f1,f2,f3,f4,f5⟩:=hf it (by simp);have hx:x.cps[i]?=none:=Array.getElem?_eq_none hg;rcases hty with e | e
  ·rw[e]at st;exact wpAny_pyNext_ascii_end (I.ok.hd hc) st hx fun h' eb=>⟨rfl,I.turned (t':=s.toks) (fun b o hb e=>eb b o hb e) f0 f1 f3 f4 f5⟩
  ·rw[e]at st;exact wpAny_pyNext_wide_end (I.ok.hd hc) st hx fun h' eb=>⟨rfl,I.turned (t':=s.toks) (fun b o hb e=>eb b o hb e) f0 f1 f3 f4 f5⟩
 self:=fun A i s Q E st h=>by
  rcases hty with e | e
  ·rw[e]at st;exact wpAny_pyIter_striter_ascii st h
  ·rw[e]at st;exact wpAny_pyIter_striter_wide st h
noncomputable def G0 (te:TE):TI:=fun σ H R=>te σ H fun v H1=>∃x,v=.str x/\R (Wj x) H1
theorem Sx {X:Cx} {tg e:Expr} {te:TE} (he:PE X e te):PI X tg e (G0 te):=by
 intro pins s σ H R I h;refine kY (he pins s σ H _ I h) fun v s1 ⟨y,H1,I1,r1,x,ex,q⟩=>?_;subst ex;obtain⟨t,rfl⟩:=r1;cases ha:x.cps.all (· < 128)
 ·exact wpAny_pyIter_wide ha (Ck (tk:=s1.toks) I1 _ (Hb _ x t "str_iterator" (.inr rfl)) ⟨_,bQ _ rfl,rfl,rfl⟩ q)
 ·exact wpAny_pyIter_ascii ha (Ck (tk:=s1.toks) I1 _ (Hb _ x t "str_ascii_iterator" (.inl rfl)) ⟨_,bQ _ rfl,rfl,rfl⟩ q)
noncomputable def Zc (K:aB) (a:aQ):It:=⟨fun i H=>∃(xs:List V) (x:V),hJ K H a xs/\xs[i]?=some x,fun i H v H'=>∃T x,v=.ref T/\H T=none/\H'=upd H T (.tup [.int (i:Nat),x])/\∀xs,hJ K H a xs->xs[i]?=some x,fun i H=>∃xs:List V,hJ K H a xs/\xs.length<=i⟩
theorem Po {P:dF} {w:eW} {K:aB} {elts:List Expr} {kk:Nat} {tpos:Pos} (a e it:aQ):
  WZ P w K (.Tuple elts kk tpos) (Zc K a) [e,it] e (fun i h=>(∃old,IsEnum h e it ((i:Nat):Int) old)/\h.IsListIter it a i/\e≠it) where
 mem:=by simp
 obj:=fun i h st b hb=>by
  obtain⟨⟨old,he⟩,⟨o,ho,hc,hd⟩,_⟩:=st;have e':b=e\/b=it:=by simpa using hb
  rcases e' with z | z
  ·rw[z];exact⟨_,he,fun v q=>nomatch q⟩
  ·rw[z];exact⟨o,ho,fun v q=>by rw[hd]at q;cases q⟩
 keep:=fun i h h' st k=>let ⟨⟨old,he⟩,hi,hne⟩:=st;⟨⟨old,k e (by simp) _ he⟩,hi.at fun o q=>k it (by simp) o q,hne⟩
 item:=by
  intro X hP hw hK hc i pins s σ H E I hf st hg;subst hP hw hK;obtain⟨⟨old,he⟩,hit,hne⟩:=st;obtain⟨xs,x,hq,hx⟩:=hg;obtain⟨eG,rv,p,hz⟩:=I.list hq;obtain⟨u,hu,ru⟩:=rv.get hx;have hel:e < s.heap.objs.size:=bY he;have hil:it < s.heap.objs.size:=by obtain⟨_,q,_⟩:=hit;exact bY q
  refine wpAny_pyNext_enum_item he hit p.isList (x:=u) (by simpa using hu) hne fun h' ho hit' hT hsz hk=>?_;refine⟨_,rfl,wpAny_letOwnedTupleGo_enum (s:={s with heap:=h',toks:=s.toks+1}) ho fun h'' he' sb=>?_⟩;have hT2:h''.get? s.heap.objs.size=some {cls:=.type "tuple",data:=.seq #[.int i s.toks,u]}:=(sb.2 _ (DC hel)).trans hT;have new:lF X.prog X.w (upd H s.heap.objs.size (.tup [.int (i:Nat),x])) h'' s.heap.objs.size (.tup [.int (i:Nat),x]):=⟨by show 2<=aU;decide,[.int i s.toks,u],.cons ⟨_,rfl⟩ (.cons ru .nil),⟨_,hT2,rfl,_,rfl,rfl⟩⟩;have I1:dH X pins σ (upd H s.heap.objs.size (.tup [.int (i:Nat),x])) {s with heap:=h'',toks:=s.toks+1}:=I.turnedNew (ch:=[e,it]) (fun b ob hb q=>(sb.2 b (fun z=>hb (by simp[z]))).trans (hk b ob (fun z=>hb (by simp[z])) (fun z=>hb (by simp[z])) q)) hf (aR _) new;refine⟨.ref s.heap.objs.size,_,I1,rfl,⟨_,x,rfl,I.hok.fresh (aR _),rfl,fun ys hy=>by rw[I.list_inj hy hq];exact hx⟩,⟨⟨u,?_⟩,hit'.at fun o q=>(sb.2 it (uU hne)).trans q,hne⟩,fun b hb=>?_⟩
  ·have e1:((i+1:Nat):Int)=(i:Int)+1:=by omega
   rw[e1];exact he'
  ·have hb':b < s.heap.objs.size:=by
    have e':b=e\/b=it:=by simpa using hb
    rcases e' with z | z
    ·rw[z];exact hel
    ·rw[z];exact hil
   rw[bL (eK hb')];exact(hf b hb).1
 done:=by intro X hP hw hK hc i pins s σ H E I hf st hg;subst hP hw hK;obtain⟨⟨old,he⟩,hit,hne⟩:=st;obtain⟨xs,hq,hx⟩:=hg;obtain⟨eG,rv,p,hz⟩:=I.list hq;obtain⟨f0,f1,f2,f3,f4,f5⟩:=hf it (by simp);have hl:=rv.length;exact wpAny_pyNext_enum_end (I.ok.hd hc) he hit p.isList (by simp;omega) fun h' eb=>⟨rfl,I.turned (t':=s.toks) (fun b o hb q=>eb b o hb q) f0 f1 f3 f4 f5⟩
 self:=fun A i s Q E st h=>let ⟨⟨_,he⟩,_⟩:=st;wpAny_pyIter_enum he h
noncomputable def Zw (K:aB) (ta:TA):TI:=fun σ H R=>ta σ H fun vs H1=>∃a xs,vs=[.ref a]/\hJ K H1 a xs/\R (Zc K a) H1
theorem Md {X:Cx} {e:Expr} {ta:TA} {p pos tpos:Pos} {elts:List Expr} {kk:Nat} (hg:Gl X "enumerate") (hm:X.mg "enumerate"=none) (ha:PA X [e] ta) (hs:bO [e] X.env=[(false,hX e X.env)]:=by rfl):
  PI X (.Tuple elts kk tpos) (.Call (.Name "enumerate" p) [e] [] pos) (Zw X.K ta):=by
 intro pins s σ H R I h;refine Qb (uG I hg hm boot_enumerate (fW (kY (ha pos pins s σ H _ I h) fun us s1 ⟨vs,H1,I1,r1,q1⟩=>?_) hs rfl));obtain⟨a,xs,ex,hq,q⟩:=q1;subst ex;cases r1 with
 | cons r rr=>
  cases rr;cases r;obtain⟨eG,rv,p',hz⟩:=I1.list hq;refine call_enumerate_list p'.isList fun h' he hit hsz hk=>wpAny_pyIter_enum he ?_;have I2:dH X pins σ H1 {s1 with heap:=h'}:=I1.kept (t':=s1.toks) hk;refine⟨s1.heap.objs.size+1,[s1.heap.objs.size+1,s1.heap.objs.size],_,_,H1,rfl,I2,Po a (s1.heap.objs.size+1) s1.heap.objs.size,⟨⟨.none,he⟩,hit,Nat.succ_ne_self _⟩,fun b hb=>?_,q⟩;have e':b=s1.heap.objs.size+1\/b=s1.heap.objs.size:=by simpa using hb
  have hle:s1.heap.objs.size<=b:=by
   rcases e' with z | z
   ·rw[z];exact RM _ _
   ·rw[z];exact aR _
  exact I1.fpOk hle (I1.hok.fresh hle)
theorem YG:vS "zip"=some (.type "zip"):=by decide+kernel
end L2
section
namespace TL
open PySem PySem.Builtin PySem.Builtin.Str PySem.StrLaws
noncomputable abbrev tl (x:Str):List Nat:=x.cps.toList
theorem Ac (x y:Str):tl (x++y)=tl x++tl y:=by show(x++y).cps.toList=_;rw[Str.cps_append,Array.toList_append]
noncomputable def TK (S:List Nat):List (List Nat)->List Nat
 | []=>[]
 | [p]=>p
 | p::q::r=>p++(S++TK S (q::r))
theorem Mp (y:Str):∀parts:List Str,tl (Mz y parts)=TK (tl y) (parts.map tl)
 | []=>rfl
 | [_]=>rfl
 | x::z::r=>by show tl (x++y++Mz y (z::r))=tl x++(tl y++TK (tl y) ((z::r).map tl));rw[Ac,Ac,Mp y (z::r),eY]
theorem Ur (y:Str) (parts:List Str):Txt.join y parts=Mz y parts:=glued_eq_join y parts
noncomputable def Jv (n:Nat):List Nat:=(xM 10 n).map XR
theorem Ym (n:Nat):tl (kD (iQ ((n:Nat):Int)))=Jv n:=PySem.W.KIN.signs_num n
theorem GV:∀d:Nat,d < 10->(Ds d).toNat=48+d:=by decide
theorem Vc (h:n < 10):Jv n=[48+n]:=by unfold Jv;rw[Hl h];show [(Ds n).toNat]=_;rw[GV n h]
theorem Oq (h:10<=n):Jv n=Jv (n / 10)++[48+n % 10]:=by have hm:n % 10 < 10:=Ak n (by decide);have t:xM 10 (n / 10)++xM 10 (n % 10)=xM 10 (10 * (n / 10)+n % 10):=Nat.toDigits_append_toDigits (by decide) (by omega) hm;rw[Nat.div_add_mod]at t;show(xM 10 n).map XR=_;rw[<-t,aW,Hl hm];show(xM 10 (n / 10)).map XR++[(Ds (n % 10)).toNat]=_;rw[GV _ hm]<;>rfl
end TL
end
namespace L2
open PySem PySem.Spec PyProof.Rows
open PySem.W (Frag)
theorem CA:∀{ys:List Str} {us:List Value},gB (ys.map V.str) us->StrsAre us ys
 | [],_,.nil=>.nil
 | y::ys,_,.cons r t=>by obtain⟨k,rfl⟩:=r;exact .cons y k (CA t)
section
variable {X:Cx}
theorem Vb:Yr X "str.join" (fun x xs H Q=>∃a p,∃ys:List Str,x=.str a/\xs=[.ref p]/\(hJ X.K H p (ys.map V.str)\/fK X.K H p (ys.map V.str))/\
  (ys.map (·.length)).sum+ys.length * a.length<=16777216/\Q (.str (Txt.join a ys)) H):=by
 intro pins s σ H x xs v us Q I rx rs h;obtain⟨a,p,ys,rfl,rfl,hp,hz,h⟩:=h;obtain⟨t,rfl⟩:=rx;cases rs with
 | cons r1 rs=>
  cases rs;cases r1;rcases hp with hp | hp
  ·obtain⟨eG,r,⟨o,n,ho,hc,_,hd⟩,_⟩:=I.list hp;exact PyProof.Rows.join_list (items:=eG.toArray) ⟨o,ho,hc,n,hd⟩ (by rw[wP];exact CA r) hz fun t' k=>⟨.str _,H,I.tok k,⟨t',rfl⟩,h⟩
  ·obtain⟨eG,r,ht,_⟩:=I.tuple hp;exact PyProof.Rows.join_tuple (items:=eG.toArray) ht (by rw[wP];exact CA r) hz fun t' k=>⟨.str _,H,I.tok k,⟨t',rfl⟩,h⟩
theorem L9 {id:String} {C:Str->Prop} {g:Str->V} (rule:∀(a:Str) (t:Tok) (s:aV) (Q:Value->aV->Prop),C a->(∀(u:Value) (k:Nat),gN (g a) u->Q u {s with toks:=k})->
  bJ (cC X.prog X.w) X.A (call (.builtin id) [.str a t]) Q X.xe s):Yr X id (fun x xs H Q=>∃a,x=.str a/\xs=[]/\C a/\Q (g a) H):=by
 intro pins s σ H x xs v us Q I rx rs h;obtain⟨a,rfl,rfl,hc,h⟩:=h;obtain⟨t,rfl⟩:=rx;cases rs;exact rule a t s _ hc fun u k r=>⟨g a,H,I.tok k,r,h⟩
theorem JA:Yr X "str.isdigit" (fun x xs H Q=>∃a,x=.str a/\xs=[]/\True/\Q (.bl (IE a)) H):=L9 (C:=fun _=>True) (g:=fun a=>.bl (IE a)) fun _ _ s _ _ h=>PySem.SC.isdigit (h _ s.toks rfl)
theorem Az:DK X (.type "int") (fun xs H Q=>∃a n,xs=[.str a]/\PySem.intText? a=some n/\a.length<=640/\Q (.int n) H):=by
 intro pins s σ H xs us Q I rs h;obtain⟨a,n,rfl,hn,hl,h⟩:=h;cases rs with
 | cons r1 rs=>cases rs;obtain⟨t,rfl⟩:=r1;exact PySem.W.KIN.call_text hn hl ⟨.int n,H,I.tok _,⟨_,rfl⟩,h⟩
end
noncomputable def Lp (s:wS) (j:Nat):wS:=match s with
 | .ClassDef _ _ _ body _ _ _ _ _ _ _=>body.getD j (.Pass ⟨0,0,0,0⟩)
 | _=>.Pass ⟨0,0,0,0⟩
noncomputable def pB (s:wS):Arguments:=match s with
 | .FunctionDef _ a _ _ _ _ _ _ _ _=>a
 | _=>{posonlyargs:=[],args:=[],vararg:=none,kwonlyargs:=[],kw_defaults:=[],kwarg:=none,defaults:=[]}
noncomputable def uW (s:wS):List wS:=match s with
 | .FunctionDef _ _ b _ _ _ _ _ _ _=>b
 | _=>[]
noncomputable def fU (s:wS):zI:=match s with
 | .FunctionDef _ _ _ _ _ _ sc _ _ _=>sc
 | _=>{kind:=.function,names:=[],isGenerator:=false,isCoroutine:=false}
noncomputable abbrev E0:XK:=fun _ _ _=>False
structure Ih (K:aB) (x qual:Str) (st:wS) (f:aQ) (fd:tU):Prop where
 ex:∃(oc:Value) (od:Option aQ) (kV doc pm:Value) (an:Option aQ) (cdv ct:Value) (osl:Array (Option Value)),
  fd=kO x qual (pB st) (uW st) (fU st) .none kV doc pm an cdv ct/\K.lookup f=some ⟨oc,od,.func fd,osl⟩/\sX K cdv qual=true
 kp:gJ K (.ref f)=true
section
variable {P:dF} {w:eW} {K:aB} {mg:Str->Option Value} {base:gF}
theorem Ih.binds {x qual:Str} {st:wS} {f:aQ} {fd:tU} {ps:List Str} (F:Ih K x qual st f fd)
  (h:∀(kV doc pm:Value) (an:Option aQ) (cdv ct:Value) (us:List Value),us.length=ps.length->WO (kO x qual (pB st) (uW st) (fU st) .none kV doc pm an cdv ct) ⟨us,[]⟩=pure (ps.zip us)):sY K fd ps []:=by
 obtain⟨oc,od,kV,doc,pm,an,cdv,ct,osl,rfl,lk,hcd⟩:=F.ex;exact .all (h kV doc pm an cdv ct)
theorem Jg {x qual:Str} {st:wS} {f:aQ} {oc:Value} {od an:Option aQ} {osl:Array (Option Value)} {kV doc pm cdv ct:Value} (l:K.lookup f=some ⟨oc,od,.func (kO x qual (pB st) (uW st) (fU st) .none kV doc pm an cdv ct),osl⟩) (c:sX K cdv qual=true) (k:gJ K (.ref f)=true):Ih K x qual st f (kO x qual (pB st) (uW st) (fU st) .none kV doc pm an cdv ct):=⟨⟨oc,od,kV,doc,pm,an,cdv,ct,osl,rfl,l,c⟩,k⟩
end
theorem Wn (hr:jI k A):A.units+1 < Qk:=gS (Qa (by decide:1<=64) _) hr.units
section
variable {X:Cx}
theorem pv (i:Nat) (hN:X.N[i]?=some x:=by rfl) (hv:Yw X.env.scope x:=by first | exact bP rfl | exact Or.inr (bP rfl) | exact Or.inr (Or.inr rfl)) (hd:(x == ("__debug__":Str))=false:=by decide) (hcd:(x == ("__classdict__":Str))=false:=by decide):PE X (.Name x pos) (Gw i):=Xx hN hv hd hcd
end
theorem xR {A B:Prop} (h:B):if false=true then A else B:=by rw[if_neg cH];exact h
theorem tJ {A B:Prop} (h:A):if true=true then A else B:=by rw[if_pos rfl];exact h
theorem nI {c A B:Prop} [Decidable c] (h1:c->A) (h2:¬c->B):if c then A else B:=by
 by_cases h:c
 ·rw[if_pos h];exact h1 h
 ·rw[if_neg h];exact h2 h
def bA (H H':Hp):Prop:=∀b o,H b=some o->H' b=some o
theorem bA.refl (H:Hp):bA H H:=fun _ _ h=>h
theorem bA.trans (a:bA H H1) (b:bA H1 H2):bA H H2:=fun c o h=>b c o (a c o h)
theorem bA.seq {K:aB} {H H':Hp} {a:aQ} {xs:List V} (e:bA H H') (h:hJ K H a xs):hJ K H' a xs:=by
 rcases h with(h | ⟨o,h⟩) | h
 ·exact .inl (.inl (e _ _ h))
 ·exact .inl (.inr ⟨o,e _ _ h⟩)
 ·exact .inr h
open PySem.W (WData Codec OpenSpec Well WellAll ReadsW ReadsAllW)
mutual
inductive Dw (K:aB) (H:Hp):V->WData->Prop
 | non:Dw K H .non .none
 | bl (b:Bool):Dw K H (.bl b) (.bool b)
 | int (i:Int):Dw K H (.int i) (.int i)
 | str (x:Str):Dw K H (.str x) (.str x)
 | byt (b:Array UInt8):Dw K H (.byt b) (.bytes b.toList)
 | lst {a:aQ} {xs:List V} {ds:List WData}:hJ K H a xs->DL K H xs ds->Dw K H (.ref a) (.list ds)
 | tup {a:aQ} {xs:List V} {ds:List WData}:fK K H a xs->DL K H xs ds->Dw K H (.ref a) (.tuple ds)
inductive DL (K:aB) (H:Hp):List V->List WData->Prop
 | nil:DL K H [] []
 | cons {v:V} {vs:List V} {d:WData} {ds:List WData}:Dw K H v d->DL K H vs ds->DL K H (v::vs) (d::ds)
end
theorem Ll {K:aB} {H:Hp}:∀ns:List Int,DL K H (ns.map V.int) (ns.map WData.int)
 | []=>.nil
 | n::r=>.cons (.int n) (Ll r)
theorem Lq {K:aB} {H:Hp}:∀(ns:List Int) (xs:List V),DL K H xs (ns.map WData.int)->xs=ns.map V.int
 | [],xs,h=>by cases h;rfl
 | n::r,xs,h=>by
  cases h with
  | cons h1 h2=>cases h1;rw[Lq r _ h2]<;>rfl
section
variable {P:dF} {w:eW} {K:aB} {H:Hp} {h:gF} {R:Nb} {cl:Str->Option aQ}
theorem Yf (hok:CQ P w H h) (KX:K.In h) (q:hJ K H a xs):∃(eG:List Value) (o:Obj) (n:Nat),gB xs eG/\h.get? a=some o/\o.cls=.type "list"/\o.data=.seq eG.toArray n:=by
 rcases q with q | ⟨o,eG,n,e,hc,_,hd,_,hv⟩
 ·obtain⟨_,eG,n,hv,e⟩:=(show lF P w H h a (.lst xs)from q.ok hok);exact⟨eG,_,n,hv,e,rfl,rfl⟩
 ·exact⟨eG.toList,o,n,hv,KX _ _ e,hc,by simp[hd]⟩
theorem Yg (hok:CQ P w H h) (KX:K.In h) (q:fK K H a xs):∃(eG:List Value) (o:Obj) (n:Nat),gB xs eG/\h.get? a=some o/\o.cls=.type "tuple"/\o.data=.seq eG.toArray n:=by
 rcases q with q | ⟨o,eG,n,e,hc,hd,_,hv⟩
 ·obtain⟨_,eG,hv,o,e,hc,n,hd⟩:=(show lF P w H h a (.tup xs)from q.ok hok);exact⟨eG,o,n,hv,e,hc,hd.1⟩
 ·exact⟨eG.toList,o,n,hv,KX _ _ e,hc.1,by simp[hd]⟩
mutual
theorem Dw.reads (hok:CQ P w H h) (KX:K.In h):∀(d:WData) (v:V) (u:Value),Dw K H v d->gN v u->∃as,ReadsW R cl h u d as
 | .none,_,_,x,r=>by cases x;cases r;exact⟨_,ReadsW.none⟩
 | .bool b,_,_,x,r=>by cases x;cases r;exact⟨_,ReadsW.bool b⟩
 | .int i,_,_,x,r=>by cases x;obtain⟨t,rfl⟩:=r;exact⟨_,ReadsW.int i t⟩
 | .str s,_,_,x,r=>by cases x;obtain⟨t,rfl⟩:=r;exact⟨_,ReadsW.str s t⟩
 | .bytes b,_,_,x,r=>by cases x;obtain⟨t,rfl⟩:=r;exact⟨_,ReadsW.bytes _ t⟩
 | .list ds,_,_,x,r=>by
  cases x with
  | lst hs ha=>cases r;obtain⟨eG,o,n,rv,ho,hc,hd⟩:=Yf hok KX hs;obtain⟨as,hr⟩:=Dw.readsAll hok KX ds _ eG ha rv;exact⟨_,ReadsW.list ho hc hd hr⟩
 | .tuple ds,_,_,x,r=>by
  cases x with
  | tup hs ha=>cases r;obtain⟨eG,o,n,rv,ho,hc,hd⟩:=Yg hok KX hs;obtain⟨as,hr⟩:=Dw.readsAll hok KX ds _ eG ha rv;exact⟨_,ReadsW.tuple ho hc hd hr⟩
 | .float _,_,_,x,_=>by cases x
 | .dict _,_,_,x,_=>by cases x
 | .bytearray _,_,_,x,_=>by cases x
 | .set _,_,_,x,_=>by cases x
 | .frozenset _,_,_,x,_=>by cases x
 | .obj _ _,_,_,x,_=>by cases x
theorem Dw.readsAll (hok:CQ P w H h) (KX:K.In h):∀(ds:List WData) (vs:List V) (us:List Value),DL K H vs ds->gB vs us->∃as,ReadsAllW R cl h us ds as
 | [],_,_,x,r=>by cases x;cases r;exact⟨_,ReadsAllW.nil⟩
 | d::ds,_,_,x,r=>by
  cases x with
  | cons h1 h2=>
   cases r with
   | cons r1 r2=>obtain⟨as,q1⟩:=Dw.reads hok KX d _ _ h1 r1;obtain⟨bs,q2⟩:=Dw.readsAll hok KX ds _ _ h2 r2;exact⟨_,ReadsAllW.cons q1 q2⟩
end
end
mutual
noncomputable def Me:WData->Bool
 | .none=>true
 | .bool _=>true
 | .int _=>true
 | .str _=>true
 | .bytes _=>true
 | .list xs=>QS xs
 | .tuple xs=>QS xs
 | _=>false
noncomputable def QS:List WData->Bool
 | []=>true
 | x::r=>Me x && QS r
end
theorem Gc {α:Type} {f:α->WData} (h:∀a,Me (f a)=true):∀l:List α,QS (l.map f)=true
 | []=>rfl
 | x::r=>by show(Me (f x) && QS (r.map f))=true;rw[h x,Gc h r]<;>rfl
theorem EG:∀(c:Codec) (a:c.denote),Me (c.enc a)=true
 | .unit,_=>rfl
 | .bool,_=>rfl
 | .int _ _,_=>rfl
 | .nat _ _,_=>rfl
 | .u8,_=>rfl
 | .bytes _ _,_=>rfl
 | .text _ _ _ _,_=>rfl
 | .list _ _ c,a=>Gc (fun x=>EG c x) a
 | .pair c d,a=>by show(Me (c.enc a.1) && (Me (d.enc a.2) && true))=true;rw[EG c a.1,EG d a.2]<;>rfl
 | .triple c d e,a=>by show(Me (c.enc a.1) && (Me (d.enc a.2.1) && (Me (e.enc a.2.2) && true)))=true;rw[EG c a.1,EG d a.2.1,EG e a.2.2]<;>rfl
 | .option c,none=>rfl
 | .option c,some x=>EG c x
theorem ZK:∀(cs:List Codec) (a:Codec.denoteAll cs),QS (Codec.encAll cs a)=true
 | [],_=>rfl
 | c::cs,a=>by show(Me (c.enc a.1) && QS (Codec.encAll cs a.2))=true;rw[EG c a.1,ZK cs a.2]<;>rfl
theorem JJ:∀{xs:List WData} {d:WData},d∈xs->d.weight<=WData.weightAll xs
 | [],d,h=>absurd h (by simp)
 | x::r,d,h=>by
  show d.weight<=x.weight+1+WData.weightAll r;rcases aS.mp h with e | m
  ·rw[e];omega
  ·have z:=JJ m;omega
noncomputable def Gy:Value->V
 | .none=>.non
 | .bool b=>.bl b
 | .int i _=>.int i
 | .str x _=>.str x
 | .bytes b _=>.byt b
 | .ref a=>.ref a
 | _=>.non
noncomputable def Ni (A:List aQ):Value->Prop
 | .none=>True
 | .bool _=>True
 | .int _ _=>True
 | .str _ _=>True
 | .bytes _ _=>True
 | .ref a=>a∈A
 | _=>False
theorem Ni.mono (h:∀a∈A,a∈B):∀{u:Value},Ni A u->Ni B u:=fun {u} x=>by
 cases u with
 | ref a=>exact h a x
 | none=>trivial
 | bool b=>trivial
 | int i t=>trivial
 | str s t=>trivial
 | bytes b t=>trivial
 | _=>exact eN x
theorem Tf (x:Ni A u):gN (Gy u) u:=by
 cases u with
 | ref a=>rfl
 | none=>rfl
 | bool b=>rfl
 | int i t=>exact⟨t,rfl⟩
 | str s t=>exact⟨t,rfl⟩
 | bytes b t=>exact⟨t,rfl⟩
 | _=>exact eN x
theorem AG:∀{vs:List Value},(∀u∈vs,Ni A u)->gB (vs.map Gy) vs
 | [],_=>.nil
 | u::r,h=>.cons (Tf (h u (aM ..))) (AG fun x hx=>h x (aL _ hx))
def CK (h:gF) (A:List aQ) (a:aQ):Prop:=∃vs:List Value,vs.length<=aU/\(∀u∈vs,Ni A u)/\(h.get? a=some {cls:=.type "list",data:=.seq vs.toArray}\/h.get? a=some {cls:=.type "tuple",data:=.seq vs.toArray})
theorem CK.mono (k:∀a∈A,a∈B) (x:CK h A a):CK h B a:=by obtain⟨vs,h1,h2,h3⟩:=x;exact⟨vs,h1,fun u hu=>(h2 u hu).mono k,h3⟩
theorem yL:∀{vs:List Value} {ds:List WData},WellAll P h vs ds->vs.length=ds.length
 | _,_,.nil=>rfl
 | _,_,.cons _ b=>by show _+1=_+1;rw[yL b]
theorem Ag (x:Well P h v (.list ds)):∃(a:aQ) (vs:List Value),v=.ref a/\h.get? a=some {cls:=.type "list",data:=.seq vs.toArray}/\WellAll P h vs ds:=by
 cases x with
 | list ho hall=>exact⟨_,_,rfl,ho,hall⟩
theorem WC (x:Well P h v (.tuple ds)):∃(a:aQ) (vs:List Value),v=.ref a/\h.get? a=some {cls:=.type "tuple",data:=.seq vs.toArray}/\WellAll P h vs ds:=by
 cases x with
 | tuple ho hall=>exact⟨_,_,rfl,ho,hall⟩
theorem Af (x:WellAll P h us (d::ds)):∃(v:Value) (vs:List Value),us=v::vs/\Well P h v d/\WellAll P h vs ds:=by
 cases x with
 | cons a b=>exact⟨_,_,rfl,a,b⟩
theorem Lu (h:n<=1048576):n<=aU:=bI h (by decide)
section
variable {P:Params} {h:gF}
mutual
theorem Qy:∀(d:WData) (v:Value),Well P h v d->Me d=true->d.weight<=1048576->∃A:List aQ,Ni A v/\∀a∈A,CK h A a
 | .none,_,x,_,_=>by cases x;exact⟨[],trivial,fun a m=>absurd m (by simp)⟩
 | .bool b,_,x,_,_=>by cases x;exact⟨[],trivial,fun a m=>absurd m (by simp)⟩
 | .int i,_,x,_,_=>by cases x;exact⟨[],trivial,fun a m=>absurd m (by simp)⟩
 | .str s,_,x,_,_=>by cases x;exact⟨[],trivial,fun a m=>absurd m (by simp)⟩
 | .bytes b,_,x,_,_=>by cases x;exact⟨[],trivial,fun a m=>absurd m (by simp)⟩
 | .list ds,_,x,p,z=>by
  obtain⟨a,vs,rfl,ho,hall⟩:=Ag x;have z2:WData.weightAll ds<=1048576:=z;obtain⟨A,h1,h2⟩:=KF ds _ hall p fun d hd=>bI (JJ hd) z2;have k:∀b∈A,b∈a::A:=fun b hb=>aL _ hb;refine⟨a::A,aM ..,fun b hb=>?_⟩;rcases aS.mp hb with e | m
  ·rw[e];exact⟨vs,Lu (by rw[yL hall];exact bI (QE ds) z2),fun u hu=>(h1 u hu).mono k,.inl ho⟩
  ·exact(h2 b m).mono k
 | .tuple ds,_,x,p,z=>by
  obtain⟨a,vs,rfl,ho,hall⟩:=WC x;have z2:WData.weightAll ds<=1048576:=z;obtain⟨A,h1,h2⟩:=KF ds _ hall p fun d hd=>bI (JJ hd) z2;have k:∀b∈A,b∈a::A:=fun b hb=>aL _ hb;refine⟨a::A,aM ..,fun b hb=>?_⟩;rcases aS.mp hb with e | m
  ·rw[e];exact⟨vs,Lu (by rw[yL hall];exact bI (QE ds) z2),fun u hu=>(h1 u hu).mono k,.inr ho⟩
  ·exact(h2 b m).mono k
 | .float _,_,_,p,_=>fF (show false=true from p)
 | .dict _,_,_,p,_=>fF (show false=true from p)
 | .bytearray _,_,_,p,_=>fF (show false=true from p)
 | .set _,_,_,p,_=>fF (show false=true from p)
 | .frozenset _,_,_,p,_=>fF (show false=true from p)
 | .obj _ _,_,_,p,_=>fF (show false=true from p)
theorem KF:∀(ds:List WData) (vs:List Value),WellAll P h vs ds->QS ds=true->(∀d∈ds,d.weight<=1048576)->∃A:List aQ,(∀u∈vs,Ni A u)/\∀a∈A,CK h A a
 | [],_,x,_,_=>by cases x;exact⟨[],fun u m=>absurd m (by simp),fun a m=>absurd m (by simp)⟩
 | d::ds,_,x,p,z=>by
  obtain⟨v,vs,rfl,x1,x2⟩:=Af x;have q:Me d=true/\QS ds=true:=Kj.mp p;obtain⟨A,a1,a2⟩:=Qy d v x1 q.1 (z d (aM ..));obtain⟨B,b1,b2⟩:=KF ds vs x2 q.2 fun e he=>z e (aL _ he);have kA:∀b∈A,b∈A++B:=fun b hb=>eJ.mpr (.inl hb);have kB:∀b∈B,b∈A++B:=fun b hb=>eJ.mpr (.inr hb);refine⟨A++B,fun u hu=>?_,fun b hb=>?_⟩
  ·rcases aS.mp hu with e | m
   ·rw[e];exact a1.mono kA
   ·exact(b1 u m).mono kB
  ·rcases eJ.mp hb with m | m
   ·exact(a2 b m).mono kA
   ·exact(b2 b m).mono kB
end
end
noncomputable def Uo (o:Obj):Option HO:=match o.data with
 | .seq vs _=>if (o.cls == xN "list")=true then some (.frz o (.lst (vs.toList.map Gy)))else some (.frz o (.tup (vs.toList.map Gy)))
 | _=>none
noncomputable def AX (K:aB) (h:gF) (A:List aQ):Hp:=fun b=>if b∈A then (if (K.lookup b).isNone=true then (h.get? b).bind Uo else none)else none
def Lb (H:Hp):Prop:=∀b,H b=none\/∃o u,H b=some (.frz o u)
theorem Er (vs:List Value):Uo {cls:=.type "list",data:=.seq vs.toArray}=some (.frz {cls:=.type "list",data:=.seq vs.toArray} (.lst (vs.map Gy))):=by show(if (xN "list" == xN "list")=true then some (HO.frz {cls:=.type "list",data:=.seq vs.toArray} (.lst (vs.toArray.toList.map Gy)))else some (HO.frz {cls:=.type "list",data:=.seq vs.toArray} (.tup (vs.toArray.toList.map Gy))))=_;rw[if_pos (beq_self_eq_true _)]
theorem Es (vs:List Value):Uo {cls:=.type "tuple",data:=.seq vs.toArray}=some (.frz {cls:=.type "tuple",data:=.seq vs.toArray} (.tup (vs.map Gy))):=by show(if (xN "tuple" == xN "list")=true then some (HO.frz {cls:=.type "tuple",data:=.seq vs.toArray} (.lst (vs.toArray.toList.map Gy)))else some (HO.frz {cls:=.type "tuple",data:=.seq vs.toArray} (.tup (vs.toArray.toList.map Gy))))=_;rw[if_neg (by decide)]
section
variable {P:dF} {w:eW} {K:aB} {h:gF} {A:List aQ}
theorem QW (hb:b∈A) (hk:K.lookup b=none) (e:h.get? b=some o):AX K h A b=Uo o:=by unfold AX;rw[if_pos hb,hk,if_pos (show(none:Option Obj).isNone=true from rfl),e]<;>rfl
theorem Vd (q:AX K h A b=some u):b∈A/\K.lookup b=none:=by
 unfold AX at q;by_cases hb:b∈A
 ·rw[if_pos hb]at q;cases hk:K.lookup b with
  | none=>exact⟨hb,rfl⟩
  | some o=>rw[hk,if_neg (by simp)]at q;cases q
 ·rw[if_neg hb]at q;cases q
theorem QX (ar:∀a∈A,CK h A a) (q:AX K h A b=some u):K.lookup b=none/\∃vs:List Value,vs.length<=aU/\(∀u∈vs,Ni A u)/\
  ((h.get? b=some {cls:=.type "list",data:=.seq vs.toArray}/\u=.frz {cls:=.type "list",data:=.seq vs.toArray} (.lst (vs.map Gy)))\/
   (h.get? b=some {cls:=.type "tuple",data:=.seq vs.toArray}/\u=.frz {cls:=.type "tuple",data:=.seq vs.toArray} (.tup (vs.map Gy)))):=by
 obtain⟨hb,hk⟩:=Vd q;obtain⟨vs,h1,h2,h3⟩:=ar b hb;refine⟨hk,vs,h1,h2,?_⟩;rcases h3 with e | e
 ·rw[QW hb hk e,Er]at q;exact .inl ⟨e,(cP q).symm⟩
 ·rw[QW hb hk e,Es]at q;exact .inr ⟨e,(cP q).symm⟩
theorem Nk (ar:∀a∈A,CK h A a):Lb (AX K h A):=fun b=>by
 cases q:AX K h A b with
 | none=>exact .inl rfl
 | some u=>
  obtain⟨_,vs,_,_,⟨_,e⟩ | ⟨_,e⟩⟩:=QX ar q
  ·exact .inr ⟨_,_,by rw[e]⟩
  ·exact .inr ⟨_,_,by rw[e]⟩
theorem Ud (ar:∀a∈A,CK h A a):CQ P w (AX K h A) h:=fun b u q=>by
 obtain⟨_,vs,h1,h2,⟨e,rfl⟩ | ⟨e,rfl⟩⟩:=QX ar q
 ·exact⟨e,by rw[aJ];exact h1,vs,_,AG h2,e⟩
 ·exact⟨e,by rw[aJ];exact h1,vs,AG h2,_,e,rfl,_,rfl,rfl⟩
theorem RH {c c':Value} {vs us:List Value} (e:(some {cls:=c,data:=.seq vs.toArray}:Option Obj)=some {cls:=c',data:=.seq us.toArray}):c=c'/\vs=us:=by have e1:=cP e;have e2:c=c':=congrArg Obj.cls e1;have e3:Kq vs.toArray=Kq us.toArray:=congrArg Obj.data e1;injection e3 with e4;refine⟨e2,?_⟩;have e5:=congrArg MV e4;simpa using e5
theorem F7 (KX:K.In h) (ar:∀a∈A,CK h A a) {a:aQ} {vs:List Value} (ha:a∈A) (e:h.get? a=some {cls:=.type "list",data:=.seq vs.toArray}):(∀u∈vs,Ni A u)/\hJ K (AX K h A) a (vs.map Gy):=by
 obtain⟨us,h1,h2,h3⟩:=ar a ha;have hu:us=vs:=by
  rcases h3 with q | q
  ·rw[e]at q;exact(RH q).2.symm
  ·rw[e]at q;exact absurd (rY (RH q).1) (by decide)
 subst hu;refine⟨h2,?_⟩;cases hk:K.lookup a with
 | none=>exact .inl (.inr ⟨_,by rw[QW ha hk e,Er]⟩)
 | some o=>have e2:=KX a o hk;rw[e]at e2;obtain rfl:=cP e2;exact .inr ⟨_,us.toArray,_,hk,rfl,rfl,rfl,by rw[bN];exact h1,by simpa using AG h2⟩
theorem F8 (KX:K.In h) (ar:∀a∈A,CK h A a) {a:aQ} {vs:List Value} (ha:a∈A) (e:h.get? a=some {cls:=.type "tuple",data:=.seq vs.toArray}):(∀u∈vs,Ni A u)/\fK K (AX K h A) a (vs.map Gy):=by
 obtain⟨us,h1,h2,h3⟩:=ar a ha;have hu:us=vs:=by
  rcases h3 with q | q
  ·rw[e]at q;exact absurd (rY (RH q).1) (by decide)
  ·rw[e]at q;exact(RH q).2.symm
 subst hu;refine⟨h2,?_⟩;cases hk:K.lookup a with
 | none=>exact .inl (.inr ⟨_,by rw[QW ha hk e,Es]⟩)
 | some o=>have e2:=KX a o hk;rw[e]at e2;obtain rfl:=cP e2;exact .inr ⟨_,us.toArray,_,hk,⟨rfl,rfl⟩,rfl,by rw[bN];exact h1,by simpa using AG h2⟩
mutual
theorem Xl {Pm:Params} (KX:K.In h) (ar:∀a∈A,CK h A a):∀(d:WData) (v:Value),Well Pm h v d->Me d=true->Ni A v->Dw K (AX K h A) (Gy v) d
 | .none,_,x,_,_=>by cases x;exact .non
 | .bool b,_,x,_,_=>by cases x;exact .bl b
 | .int i,_,x,_,_=>by cases x;exact .int i
 | .str s,_,x,_,_=>by cases x;exact .str s
 | .bytes b,_,x,_,_=>by cases x;have z:=Dw.byt (K:=K) (H:=AX K h A) b.toArray;exact z
 | .list ds,_,x,p,hu=>by obtain⟨a,vs,rfl,ho,hall⟩:=Ag x;obtain⟨h2,hs⟩:=F7 KX ar hu ho;exact .lst hs (Bg KX ar ds _ hall p h2)
 | .tuple ds,_,x,p,hu=>by obtain⟨a,vs,rfl,ho,hall⟩:=WC x;obtain⟨h2,hs⟩:=F8 KX ar hu ho;exact .tup hs (Bg KX ar ds _ hall p h2)
 | .float _,_,_,p,_=>fF (show false=true from p)
 | .dict _,_,_,p,_=>fF (show false=true from p)
 | .bytearray _,_,_,p,_=>fF (show false=true from p)
 | .set _,_,_,p,_=>fF (show false=true from p)
 | .frozenset _,_,_,p,_=>fF (show false=true from p)
 | .obj _ _,_,_,p,_=>fF (show false=true from p)
theorem Bg (KX:K.In h) (ar:∀a∈A,CK h A a):∀(ds:List WData) (vs:List Value),WellAll Pm h vs ds->QS ds=true->(∀u∈vs,Ni A u)->DL K (AX K h A) (vs.map Gy) ds
 | [],_,x,_,_=>by cases x;exact .nil
 | d::ds,_,x,p,hu=>by obtain⟨v,vs,rfl,x1,x2⟩:=Af x;have q:Me d=true/\QS ds=true:=Kj.mp p;exact .cons (Xl KX ar d v x1 q.1 (hu _ (aM ..))) (Bg KX ar ds vs x2 q.2 fun u m=>hu u (aL _ m))
end
end
theorem Ph {P:dF} {w:eW} {K:aB} {mg mb:Str->Option Value} {CX:Qr} {k:Nat} {fa:aQ} {fd:tU} {ps:List Str} {sp:Sp} {s₁:aV} {vals:List Value} {ds:List WData} {R:Nb} {cl:Str->Option aQ} {d0:WData}
  (KX:K.In s₁.heap) (hns:s₁.heap.Ns jU mg) (hb:s₁.heap.Ns builtinsNs mb) (hbb:∀x:Str,x≠"__name__"->mb x=vS x) (hlim:s₁.heap.NoLimit) (hg:s₁.gens=#[])
  (hwl:WellAll w.params s₁.heap vals ds) (hpl:QS ds=true) (hwt:∀d∈ds,d.weight<=1048576) (hr:jI k callerA)
  (F:∀base:gF,K.In base->base.Ns jU mg->vU P w K mg base CX k fa fd ps sp) (hbind:∀(s:aV) (us:List Value),us.length=ps.length->WK s fd ⟨us,[]⟩ (ps.zip us)) (hlen:ds.length=ps.length)
  (hsp:∀(H:Hp) (xs:List V),Lb H->DL K H xs ds->sp xs H (fun v H'=>Dw K H' v d0) fun _ _ _=>False)
  (hCX:∀H e s',CX [] H s₁ (fun _ _ _=>False) e s'->False):
  vT (cC P w) callerA (.call (.ref fa) ⟨vals,[]⟩) (fun r s'=>∃u as,r=.ok (.ret u)/\ReadsW R cl s'.heap u d0 as/\OldK s₁.heap s'.heap/\s'.os=s₁.os/\IB s'.gens) s₁:=by
 obtain⟨A,ho,ar⟩:=KF ds vals hwl hpl hwt;have hO:Lb (AX K s₁.heap A):=Nk ar;have hok:CQ P w (AX K s₁.heap A) s₁.heap:=Ud ar;have hS:=Bg KX ar ds vals hwl hpl ho;have hV:=AG ho;have hK:∀b u,AX K s₁.heap A b=some u->K.lookup b=none:=fun b u q=>(QX ar q).1;have noA:∀{b:aQ} {o:Obj} {es:Array Al} {ep:Nat},s₁.heap.get? b=some o->o.data=.dict es ep->AX K s₁.heap A b=none:=fun {b o es ep} e d=>by
  cases q:AX K s₁.heap A b with
  | none=>rfl
  | some u=>
   obtain⟨_,vs,_,_,⟨e2,_⟩ | ⟨e2,_⟩⟩:=QX ar q
   ·rw[e2]at e;cases e;have d':Kq vs.toArray _=Data.dict es ep:=d;cases d'
   ·rw[e2]at e;cases e;have d':Kq vs.toArray _=Data.dict es ep:=d;cases d'
 generalize AX K s₁.heap A=H at hO hok hS hK noA;have base_of:∀{b:aQ} {o:Obj},s₁.heap.get? b=some o->H b=none->(Bm s₁.heap H).get? b=some o:=fun e n=>Rv e n;have nsK:∀{b:aQ} {m:Str->Option Value},s₁.heap.Ns b m->(Bm s₁.heap H).Ns b m:=fun {b m} ⟨o,es,ep,e,d,r⟩=>⟨o,es,ep,base_of e (noA e d),d,r⟩;have nK:∀b o,K.lookup b=some o->H b=none:=fun b o e=>by
  cases q:H b with
  | none=>rfl
  | some u=>rw[hK b u q]at e;cases e
 have hKb:K.In (Bm s₁.heap H):=fun b o e=>base_of (KX b o e) (nK b o e);have hM:E4 K mg (Bm s₁.heap H):=⟨hKb,nsK hns,⟨mb,nsK hb,hbb⟩,let ⟨mc,h1,h2⟩:=hlim;⟨mc,nsK h1,h2⟩⟩;have e0:Ig P w K mg (Bm s₁.heap H) callerA [] s₁ H:=⟨rfl,hM,fun b o e=>Ve e,QB (Oh _ _),trivial,fun b hb=>absurd (show b∈([]:List aQ)from hb) (by simp),hok,.of_eq hg⟩;have hl:vals.length=ps.length:=by rw[yL hwl];exact hlen
 refine zL ((F _ hKb (nsK hns)).run callerA [] s₁ H ⟨vals,[]⟩ vals (vals.map Gy) _ _ hr e0 (hbind s₁ vals hl) hV (hsp H _ hO hS)) fun r s' x=>?_;cases r with
 | error e=>exact(hCX H e s' x).elim
 | ok fl=>
  cases fl with
  | next=>exact eN x
  | brk=>exact eN x
  | cont=>exact eN x
  | ret u=>
   obtain⟨v,H',os,bare,un,hok',r',q⟩:=x;have kept:∀b o,s₁.heap.get? b=some o->s'.heap.get? b=some o:=fun b o e=>by
    cases q2:H b with
    | none=>exact un.keep b o e q2 (by intro z;exact absurd (show b∈([]:List aQ)from z) (by simp)) (by simp)
    | some u2=>
     rcases hO b with z | ⟨ob,u3,z⟩
     ·rw[q2]at z;cases z
     ·have z2:=un.frzs b ob _ z;obtain⟨e1,_⟩:=hok b _ z;obtain⟨e2,_⟩:=hok' b _ z2;rw[e]at e1;cases e1;exact e2
   have KX':K.In s'.heap:=fun b o e=>kept b o (KX b o e);obtain⟨as,hrd⟩:=Dw.reads (R:=R) (cl:=cl) hok' KX' d0 v u q r';exact⟨u,as,rfl,hrd,OldK.of_keep kept,os,bare⟩
theorem TW (h:WData.layableAll ds=true):∀d∈ds,d.weight<=1048576:=fun d hd=>(PySem.W.layableW_iff.mp (cA.mp h d hd)).2.2
theorem SO:∀(cs:List Codec) (a:Codec.denoteAll cs),(Codec.encAll cs a).length=cs.length
 | [],_=>rfl
 | c::cs,a=>by show(Codec.encAll cs a.2).length+1=cs.length+1;rw[SO cs a.2]
theorem Pt {r:OpenSpec} {k:Nat} {q:dF} {loose:List Str} {XP:(Str->Option Value)->gF->Prop} {YP:eW->gF->Prop} {d:DefRec} {K:Params->aB} {CX:eW->Qr} {ps:List Str} {sp:eW->Sp}
  (hwell:r.wellSaid=true) (hdf:d.params.defaults=[]) (hlen:r.args.length=ps.length) (hr:jI k callerA)
  (hY:∀(w:eW) (h:gF),YP w h->(K w.params).In h)
  (F:∀(w:eW) (mg:Str->Option Value) (fa:aQ) (h:gF),YP w h->(K w.params).In h->h.Ns jU mg->mg d.name=some (.ref fa)->∃fd:tU,(∀(s:aV) (us:List Value),us.length=ps.length->WK s fd ⟨us,[]⟩ (ps.zip us))/\∀base:gF,(K w.params).In base->base.Ns jU mg->vU r.prog w (K w.params) mg base (CX w) k fa fd ps (sp w))
  (hsp:∀(w:eW) (H:Hp) (xs:List V) (a:Codec.denoteAll r.args),Lb H->Codec.withinAll r.args a=true->Codec.app r.args r.asked a=true->DL (K w.params) H xs (Codec.encAll r.args a)->sp w xs H (fun v H'=>Dw (K w.params) H' v (r.ret.enc (Codec.app r.args r.f a))) fun _ _ _=>False)
  (hCX:∀(w:eW) (H:Hp) (s:aV) (e:Value) (s':aV),CX w [] H s (fun _ _ _=>False) e s'->False):
  PySem.W.WalkOS q loose XP YP r d [] (fun f vs=>PySem.call f vs):=by
 intro w s_0 s₁ mg mb G Y fa o pm cd doc dV kV ho hd hcd hD hmg hg args vals as hpre hlay hrd hwl hlo;obtain⟨a,e1,e2⟩:=PySem.W.os_pre_some hpre;obtain⟨e3,hwi⟩:=Codec.encAll_of_decAll r.args args a e1;subst e3;have KX:=hY w _ Y;obtain⟨fd,hb,hF⟩:=F w mg fa _ Y KX G.T.g hmg;refine PySem.W.enter_call (zL (Ph (R:=[]) (cl:=classAt s_0.heap) (d0:=r.ret.enc (Codec.app r.args r.f a)) KX G.T.g G.T.b G.T.builtins G.T.nolimit hg hwl (ZK _ _) (TW hlay) hr hF hb (by rw[SO];exact hlen) (fun H xs hO hS=>hsp w H xs a hO hwi e2 hS) fun H e s'=>hCX w H s₁ e s') fun r' s' hq=>?_);obtain⟨u,as',rfl,h1,h2,h3,h4⟩:=hq;exact⟨.inl ⟨u,_,as',rfl,fun _=>rfl,h1,(OpenSpec.post_iff hwell hwi _ _).mpr rfl,fun z=>fF (show false=true from z)⟩,h2,h3,h4⟩
noncomputable def KN:List Value:=[.type "Exception",.type "BaseException",.type "object"]
noncomputable def yW (K:aB) (C:aQ):Bool:=match K.lookup C with
 | some ⟨.type "type",_,.cls cd,sl⟩=>(match cd.mro,sl.toList with
  | .ref C'::bm,[_,_,_,_,some (.builtin n),_]=>C' == C && n == "Exception.__new__" && !cd.hasDel && bm == KN && PySem.W.nsOkIn K cd.ns && JZ K cd.ns "__init__" == some none
  | _,_=>false)
 | _=>false
theorem Je {K:aB} {h:gF} {C:aQ} (X:K.In h) (q:yW K C=true):∃nm qn N bs hdct sn sub ab col dd k0 k1 k2 k3 k5 mN,
  h.get? C=some (excClassObj nm qn C N bs KN hdct sn sub ab col dd k0 k1 k2 k3 k5 "Exception.__new__")/\h.Ns N mN/\mN "__init__"=none:=by
 unfold yW at q;split at q
 ·rename_i dd cd sl ho
  split at q
  ·rename_i C' bm k0 k1 k2 k3 n k5 hm hs
   simp only[aE,beq_iff_eq,eX]at q;obtain⟨⟨⟨⟨⟨rfl,rfl⟩,hdel⟩,rfl⟩,hok⟩,hni⟩:=q;obtain⟨nm,bs,mro,ns,qn,hd,sn,sub,ab,col,del⟩:=cd;dsimp only at hm hdel hok hni;subst hm hdel;have hsl:sl=#[k0,k1,k2,k3,some (.builtin "Exception.__new__"),k5]:=by obtain⟨l⟩:=sl;simp only at hs;rw[hs]
   subst hsl;exact⟨nm,qn,ns,bs,hd,sn,sub,ab,col,dd,k0,k1,k2,k3,k5,_,X _ _ ho,.of_isNs (PySem.W.isNs_of_in X hok),PySem.W.nsMap_none_of_in X hok hni⟩
  ·cases q
 ·cases q
theorem NF {M:Model} {A:jW} {E:Value->aV->Prop} {nm q:Str} {C N:aQ} {bs:List Value} {hdct:Bool} {sn:List Str} {sub:List Value} {ab:Bool} {col:Option Bool} {dd:Option aQ} {k0 k1 k2 k3 k5:Option Value} {newId:String}
  {nm' q':Str} {C' N':aQ} {bs':List Value} {hdct':Bool} {sn':List Str} {sub':List Value} {ab':Bool} {col':Option Bool} {dd':Option aQ} {k0' k1' k2' k3' k5':Option Value} {newId':String}
  {h:gF} {g:Array GenState} {d:Drawn} {t:Nat} {os:OsState} {e:aQ} {oe:Obj} {Q:Bool->aV->Prop}
  (hC:h.get? C=some (excClassObj nm q C N bs KN hdct sn sub ab col dd k0 k1 k2 k3 k5 newId)) (hC':h.get? C'=some (excClassObj nm' q' C' N' bs' KN hdct' sn' sub' ab' col' dd' k0' k1' k2' k3' k5' newId')) (he:h.get? e=some oe) (hcls:oe.cls=.ref C) (hne:C'≠C)
  (hq:Q false ⟨h,g,d,t,os⟩):bJ M A (excMatches (.ref e) (.ref C')) Q E ⟨h,g,d,t,os⟩:=by
 have hcB:(cO C'::KN).contains (.type "BaseException")=true:=by simp[KN]
 have hcC:(cO C::KN).contains (.ref C')=false:=by simp[KN,hne]
 have f:=tc_notTuple;unfold excMatches;repeat(first | (with_reducible refine wpAny_loadPart_at he ?_;rw[hcls]) | with_reducible refine wpAny_loadPart_at hC' ?_ | (with_reducible refine wpAny_isSubtype_exc hC' ?_;rw[hcB]) | (with_reducible refine wpAny_isSubtype_exc hC ?_;rw[hcC]) | wp_step)
 exact hq
section
variable {X:Cx} {pins:List (aQ×Obj)} {σ:List (Option V)} {H H':Hp} {s:aV} {h':gF}
theorem dH.stepX {g':Array GenState} {t':Nat} {d':Drawn} {ch:List aQ} (I:dH X pins σ H s)
  (hch:∀b∈ch,(b∈X.ex\/X.s_0.heap.get? b=none)/\b≠X.env.locals/\(∀x c,X.env.cells.lookup x=some c->c≠b)/\∀p∈X.pn++pins,p.1≠b)
  (keep:∀b o,b≠X.env.locals->b∉X.fs->b∉ch->s.heap.get? b=some o->H b=none->h'.get? b=some o)
  (slot:∀b o,b≠X.env.locals->b∈X.fs->b∉ch->s.heap.get? b=some o->H b=none->∃sl,h'.get? b=some {o with slots:=sl}) (free:∀b o,b∉ch->s.heap.get? b=some o->H b=none->H' b=none)
  (there:∀b o,b∉ch->s.heap.get? b=some o->∃o',h'.get? b=some o')
  (tups:∀b xs,H b=some (.tup xs)->H' b=some (.tup xs)) (frzs:∀b o u,H b=some (.frz o u)->H' b=some (.frz o u)) (tbls:∀b ps,H b=some (.tbl ps)->∃more,H' b=some (.tbl (ps++more)))
  (ns:∀m,s.heap.Ns X.env.locals m->h'.Ns X.env.locals m) (hok:CQ X.prog X.w H' h') (hg:IB g'):
  dH X pins σ H' {s with heap:=h',gens:=g',drawn:=d',toks:=t'}:=by
 have neL:∀b o,X.s_0.heap.get? b=some o->b≠X.env.locals:=fun b o e=>eK (bZ (bY e) I.ok.above);have neC:∀b o,X.s_0.heap.get? b=some o->b∉X.ex->b∉ch:=fun b o e hx hb=>by
  rcases(hch b hb).1 with z | z
  ·exact hx z
  ·rw[e]at z;cases z
 have cellK:∀x c,X.env.cells.lookup x=some c->∀v,s.heap.IsCell c v->h'.IsCell c v:=fun x c e v ⟨o,ho,hd⟩=>by
  have nch:c∉ch:=fun z=>(hch c z).2.2.1 x c e rfl;by_cases hc:c∈X.fs
  ·obtain⟨sl,q⟩:=slot c o (I.cne x c e) hc nch ho (I.freeC x c e);exact⟨_,q,hd⟩
  ·exact⟨o,keep c o (I.cne x c e) hc nch ho (I.freeC x c e),hd⟩
 refine⟨I.ok,I.os,hg,⟨fun b o e n hb hx=>?_,fun b o e n hb hx=>?_,fun b o e n hx=>?_,fun b o e hx=>?_,fun b xs e=>tups b xs (I.base.tups b xs e),fun b o xs e=>frzs b o xs (I.base.frzs b o xs e),fun b ps e=>?_⟩,?_,fun x c e=>?_,?_,fun x c e=>?_,fun p hp=>?_,hok,I.len⟩
 ·exact keep b o (neL b o e) hb (neC b o e hx) (I.base.keep b o e n hb hx) (I.base.free b o e n hx)
 ·obtain⟨sl,e1⟩:=I.base.slot b o e n hb hx;obtain⟨sl',e2⟩:=slot b _ (neL b o e) hb (neC b o e hx) e1 (I.base.free b o e n hx);exact⟨sl',e2⟩
 ·obtain⟨o',e1⟩:=I.base.there b o e hx;exact free b o' (neC b o e hx) e1 (I.base.free b o e n hx)
 ·obtain⟨o',e1⟩:=I.base.there b o e hx;exact there b o' (neC b o e hx) e1
 ·obtain⟨m1,e1⟩:=I.base.tbls b ps e;obtain⟨m2,e2⟩:=tbls b _ e1;exact⟨m1++m2,by rw[e2,Ms]⟩
 ·obtain⟨m,hn,hl⟩:=I.loc;refine⟨m,ns m hn,fun i x v e1 e2 e3=>?_⟩;obtain⟨u,r,l⟩:=hl i x v e1 e2 e3;refine⟨u,r,?_⟩;rcases l with l | ⟨k,c,e,z⟩
  ·exact .inl l
  ·exact .inr ⟨k,c,e,cellK x c e _ z⟩
 ·obtain⟨v,z⟩:=I.cell x c e;exact⟨v,cellK x c e v z⟩
 ·obtain⟨m,⟨o,_,_,ho,_⟩,_⟩:=I.loc;exact free _ o (fun z=>(hch _ z).2.1 rfl) ho I.free
 ·obtain⟨v,o,ho,hd⟩:=I.cell x c e;exact free c o (fun z=>(hch c z).2.2.1 x c e rfl) ho (I.freeC x c e)
 ·obtain⟨e,n,ne,nf,d⟩:=I.pin p hp;have nch:p.1∉ch:=fun z=>(hch p.1 z).2.2.2 p hp rfl;exact⟨keep p.1 p.2 ne nf nch e n,free p.1 p.2 nch e n,ne,nf,d⟩
end
structure mL (X:Cx):Prop where
 ex:X.ex=[]
 stk:X.stack=X.env::X.outer
 fr:X.env.frame=some X.env.locals
def Xc (X:Cx) (pins:List (aQ×Obj)) (H:Hp) (b:aQ):Prop:=X.s_0.heap.get? b≠none\/H b≠none\/(∃x,X.env.cells.lookup x=some b)\/∃p∈X.pn++pins,p.1=b
def IK (X:Cx) (pins:List (aQ×Obj)) (H:Hp) (B h:gF):Prop:=∀b o,Xc X pins H b->b∉JT X.stack->h.get? b=some o->B.get? b=some o
section
variable {X:Cx} {pins:List (aQ×Obj)} {σ:St} {H:Hp} {s:aV} {B h':gF}
theorem dH.told (I:dH X pins σ H s) (p:mL X) (r:Xc X pins H b):∃o,s.heap.get? b=some o:=by
 rcases r with r | r | ⟨x,r⟩ | ⟨q,hq,r⟩
 ·cases e:X.s_0.heap.get? b with
  | none=>exact absurd e r
  | some o=>exact I.base.there b o e (by rw[p.ex];simp)
 ·cases e:H b with
  | none=>exact absurd e r
  | some o=>
   have:=(I.hok b o e).lt;cases q:s.heap.get? b with
   | some o'=>exact⟨o',rfl⟩
   | none=>
    exfalso;have z:=I.hok b o e;cases o with
    | lst xs=>obtain⟨_,_,_,_,e⟩:=z;rw[q]at e;cases e
    | tup xs=>obtain⟨_,_,_,⟨_,e,_⟩⟩:=z;rw[q]at e;cases e
    | dK kvs=>obtain⟨_,_,_,_,o,_,_,e,_⟩:=z;rw[q]at e;cases e
    | dT kvs=>obtain⟨_,_,_,_,o,_,_,e,_⟩:=z;rw[q]at e;cases e
    | set S n=>obtain⟨o,_,_,_,e,_⟩:=z;rw[q]at e;cases e
    | ins C dx fs=>obtain⟨_,_,_,e,_⟩:=z;rw[q]at e;cases e
    | own y=>obtain⟨_,e⟩:=z;rw[q]at e;cases e
    | xd fs=>obtain⟨_,⟨_,_,_,e,_⟩,_⟩:=z;rw[q]at e;cases e
    | rng lo hi=>obtain⟨_,_,_,e⟩:=z;rw[q]at e;cases e
    | frz ob u=>obtain⟨e,_⟩:=z;rw[q]at e;cases e
    | tbl ps=>have e:s.heap.get? b=some _:=z;rw[q]at e;cases e
    | met f y=>have e:s.heap.get? b=some _:=z;rw[q]at e;cases e
    | ext φ=>obtain⟨_,⟨_,e⟩,_⟩:=z;rw[q]at e;cases e
 ·obtain⟨v,o,e,_⟩:=I.cell x b r;exact⟨o,e⟩
 ·obtain⟨e,_⟩:=I.pin q hq;rw[r]at e;exact⟨_,e⟩
theorem IK.on (I:dH X pins σ H s) (p:mL X) (c:IK X pins H B s.heap) (k1:B.StaysIn h'):IK X pins H B h':=fun b o r n e=>by obtain⟨o1,e1⟩:=I.told p r;have e2:=c b o1 r n e1;rw[k1 b o1 e2]at e;rw[e2];exact e
theorem RJ (p:mL X):b∈JT X.stack↔b=X.env.locals\/b∈X.fs:=by rw[p.stk];unfold Cx.fs JT;rw[rC,p.fr];simp
theorem dH.flown (I:dH X pins σ H s) (p:mL X) (k0:B.StaysIn s.heap) (k1:B.StaysIn h') (up:s.heap.UpToSlots h') (c:IK X pins H B s.heap):dH X pins σ H {s with heap:=h'}:=by
 classical
 have notTold:∀b,b∈(MU s.heap.objs.size).filter (fun b=>decide (B.get? b=none/\b∉JT X.stack))->¬Xc X pins H b:=fun b hb r=>by obtain⟨n1,n2⟩:=of_decide_eq_true (kM.mp hb).2;obtain⟨o,e⟩:=I.told p r;rw[c b o r n2 e]at n1;cases n1
 have inB:∀b o,b∉(MU s.heap.objs.size).filter (fun b=>decide (B.get? b=none/\b∉JT X.stack))->b∉JT X.stack->s.heap.get? b=some o->B.get? b=some o:=fun b o hb hn e=>by
  cases q:B.get? b with
  | none=>exact absurd (kM.mpr ⟨List.mem_range.mpr (bY e),decide_eq_true ⟨q,hn⟩⟩) hb
  | some o'=>have:=k0 b o' q;rw[e]at this;cases this;rfl
 have frame:∀b o,b∈JT X.stack->s.heap.get? b=some o->∃sl,h'.get? b=some {o with slots:=sl}:=fun b o hb e=>by obtain⟨_,o',e',hd⟩:=I.stack.mem hb;rw[e]at e';cases e';exact up b o e hd
 refine I.stepX (g':=s.gens) (d':=s.drawn) (t':=s.toks) (H':=H) (ch:=(MU s.heap.objs.size).filter (fun b=>decide (B.get? b=none/\b∉JT X.stack))) (fun b hb=>?_) (fun b o hL hf hc e _=>?_) (fun b o _ hf _ e _=>?_) (fun _ _ _ _ n=>n) (fun b o hc e=>?_) (fun _ _ e=>e) (fun _ _ _ e=>e) (fun b ps e=>⟨#[],by rw[e];simp⟩) (fun m hm=>up.ns hm) ?_ I.bare
 ·have nt:=notTold b hb;obtain⟨_,n2⟩:=of_decide_eq_true (kM.mp hb).2;refine⟨.inr ?_,fun q=>n2 ((RJ p).mpr (.inl q)),fun x c e q=>nt (.inr (.inr (.inl ⟨x,by rw[<-q];exact e⟩))),fun q hq z=>nt (.inr (.inr (.inr ⟨q,hq,z⟩)))⟩;cases e:X.s_0.heap.get? b with
  | none=>rfl
  | some o=>exact absurd (.inl (by rw[e];simp)) nt
 ·exact k1 b o (inB b o hc (fun q=>((RJ p).mp q).elim hL hf) e)
 ·exact frame b o ((RJ p).mpr (.inr hf)) e
 ·by_cases hb:b∈JT X.stack
  ·obtain⟨sl,e'⟩:=frame b o hb e;exact⟨_,e'⟩
  ·exact⟨o,k1 b o (inB b o hc hb e)⟩
 ·intro a o e;have stay:∀b,H b≠none->∀u,s.heap.get? b=some u->h'.get? b=some u:=fun b hb u q=>k1 b u (c b u (.inr (.inl hb)) (fun z=>hb (I.stkFree b z)) q);exact(I.hok a o e).stay (fun b u hb q=>stay b (by
   rcases hb with z | z
   ·rw[z,e];simp
   ·rw[z];simp) u q) (fun _ q=>q) fun _ _ q=>q
end
inductive XX (B:gF) (stack:List Env) (L e:aQ) (cls:Value) (h:gF):Prop where
 | made:B.StaysIn h->B.get? e=none->h.FunFrames B stack->(∃t,h.get? e=some {cls:=cls,data:=.fields #[.ref t,.none,.none,.none,.bool false,.none]})->XX B stack L e cls h
 | fly (a0:Value):Hn B stack e cls a0 h->XX B stack L e cls h
 | held (a0:Value):Qg B stack e cls a0 L h->XX B stack L e cls h
theorem XX.stays {B h:gF} {stack:List Env} {L e:aQ} {cls:Value} (x:XX B stack L e cls h):B.StaysIn h:=by
 cases x with
 | made a _ _ _=>exact a
 | fly _ a=>exact a.1
 | held _ a=>exact a.1
structure Yp (X:Cx) (pins:List (aQ×Obj)) (σ:St) (H:Hp) (e C:aQ) (s:aV):Prop where
 inv:dH X pins σ H s
 st:∃B,XX B X.stack X.env.locals e (.ref C) s.heap/\IK X pins H B s.heap
section
variable {X:Cx} {pins:List (aQ×Obj)} {σ:St} {H:Hp} {s:aV} {e C:aQ} {M:Model} {E:Value->aV->Prop} {Q:Unit->aV->Prop}
def RV (X:Cx) (pins:List (aQ×Obj)) (σ:St) (H:Hp) (e C:aQ) (s:aV):Prop:=dH X pins σ H s/\∃B a0,Qg B X.stack e (.ref C) a0 X.env.locals s.heap/\IK X pins H B s.heap
def RT (X:Cx) (pins:List (aQ×Obj)) (σ:St) (H:Hp) (e C:aQ) (s:aV):Prop:=dH X pins σ H s/\∃B a0,Hn B X.stack e (.ref C) a0 s.heap/\IK X pins H B s.heap
theorem RV.fly (F:RV X pins σ H e C s):Yp X pins σ H e C s:=let ⟨I,B,a0,h,c⟩:=F;⟨I,B,.held a0 h,c⟩
theorem Yp.note (F:Yp X pins σ H e C s) (p:mL X) (hQ:∀h',RV X pins σ H e C {s with heap:=h'}->Q () {s with heap:=h'}):bJ M X.A (noteFrame (.ref e) X.env) Q E s:=by
 obtain⟨I,B,st,c⟩:=F;have hfr:X.A.frames=some (X.env::X.outer):=by rw[I.ok.frames,p.stk]
 have fin:∀h' a0,s.heap.UpToSlots h'->Qg B X.stack e (.ref C) a0 X.env.locals h'->Q () {s with heap:=h'}:=fun h' a0 up hh=>hQ h' ⟨I.flown p st.stays hh.1 up c,B,a0,hh,c.on I p hh.1⟩;cases st with
 | made k0 hn hl ht=>obtain⟨t,he⟩:=ht;unfold noteFrame;simp only[p.fr];refine aF (jV (vs:=#[.ref t,.none,.none,.none,.bool false,.none]) he rfl (i:=1) (x:=.none) rfl ?_);rw[if_neg (by decide)];rw[p.stk]at hl;refine wpAny_entryW (a0:=.ref t) hfr hl p.fr he k0 hn rfl (by show 1 < 6;decide) rfl fun h' ⟨x1,x2,x3,x4⟩=>?_;exact fin h' _ x4 ⟨x1,hn,by rw[p.stk];exact x2,x3⟩
 | fly a0 hf=>rw[p.stk]at hf;refine wpAny_looks_onW hfr p.fr hf fun h' hh up=>?_;exact fin h' a0 up (by rw[p.stk];exact hh)
 | held a0 hh=>exact wpAny_noteFrame_againW p.fr hh.2.2.2 (fin s.heap a0 (.refl _) hh)
theorem RV.lands (F:RV X pins σ H e C s) (p:mL X) (hQ:∀h',RT X pins σ H e C {s with heap:=h'}->Q () {s with heap:=h'}):bJ M A (Ql (.ref e) none) Q E s:=by obtain⟨I,B,a0,hh,c⟩:=F;exact wpAny_landsW hh fun h' hf up=>hQ h' ⟨I.flown p hh.1 hf.1 up c,B,a0,hf,c.on I p hf.1⟩
theorem RT.lands (F:RT X pins σ H e C s) (p:mL X) (hQ:∀h',RT X pins σ H e C {s with heap:=h'}->Q () {s with heap:=h'}):bJ M A (Ql (.ref e) none) Q E s:=by obtain⟨I,B,a0,hh,c⟩:=F;exact lands_againW hh fun h' hf up=>hQ h' ⟨I.flown p hh.1 hf.1 up c,B,a0,hf,c.on I p hf.1⟩
theorem RV.again (F:RV X pins σ H e C s) (p:mL X) (hQ:∀h',RV X pins σ H e C {s with heap:=h'}->Q () {s with heap:=h'}):bJ M X.A (Ql (.ref e) X.env.frame) Q E s:=by
 obtain⟨I,B,a0,⟨k0,hn,hl,ht⟩,c⟩:=F;obtain⟨oe,vs,T,oT,ts,he,hcls,hd,h1,hnT,hTe,hT,hdT,h3⟩:=ht;have hsz3:3 < ts.size:=(Array.getElem?_eq_some_iff.mp h3).1;have other:∀b,b≠T->(s.heap.update T (Dt (·.setIfInBounds 3 (Ap X.env.locals)))).get? b=s.heap.get? b:=fun b hb=>eA _ _ (uU hb);have noRecord:∀b o,s.heap.get? b=some o->(∀vs,o.data≠.fields vs)->b≠T:=fun b o hb hnf q=>by rw[q,hT]at hb;injection hb with hb;subst hb;exact hnf ts hdT
 unfold Ql;refine aF (jV he hd h1 ?_);rw[if_pos (show(cO T != sK)=true from by simp),p.fr];have k1:B.StaysIn (s.heap.update T (Dt (·.setIfInBounds 3 (Ap X.env.locals)))):=fun b o hbo=>(other b fun q=>by rw[q,hnT]at hbo;cases hbo).trans (k0 b o hbo);have up:s.heap.UpToSlots (s.heap.update T (Dt (·.setIfInBounds 3 (Ap X.env.locals)))):=fun b o hb hnf=>⟨o.slots,(other b (noRecord b o hb hnf)).trans hb⟩;refine Ic hT hdT hsz3 (hQ _ ⟨I.flown p k0 k1 up c,B,a0,⟨k1,hn,hl.of_keeps fun b o hb hnf=>⟨o,(other b (noRecord b o hb hnf)).trans hb,rfl⟩,?_⟩,c.on I p k1⟩);exact⟨oe,vs,T,_,_,(other e (uU hTe)).trans he,hcls,hd,h1,hnT,hTe,jO _ hT (Ku (yQ hdT _)),yQ hdT _,by simp[hsz3]⟩
theorem RV.back (F:RV X pins σ H e C s) (p:mL X) (hQ:∀s',RV X pins σ H e C s'->E (.ref e) s'):cameBackBy M X.A X.env E (.ref e) s:=by obtain⟨I,B,a0,hh,c⟩:=id F;obtain⟨_,_,_,oe,vs,T,oT,ts,he,hcls,hd,h1,_⟩:=hh;unfold cameBackBy;refine aF (jV he hd h1 ?_);rw[if_neg (by simp)];exact F.again p fun h' F'=>hQ _ F'
end
noncomputable def XW (X:Cx) (E:XK):Value->aV->Prop:=fun v s=>∃pins σ H e C,v=.ref e/\Yp X pins σ H e C s/\E (.ref C) none H
noncomputable def XP (X:Cx) (pins:List (aQ×Obj)) (σ:St) (E:XK):Value->aV->Prop:=fun v s=>∃H e C,v=.ref e/\Yp X pins σ H e C s/\E (.ref C) none H
theorem XP.xw (h:XP X pins σ E v s):XW X E v s:=let ⟨H,e,C,a,b,c⟩:=h;⟨pins,σ,H,e,C,a,b,c⟩
noncomputable def WV (P:dF) (w:eW):Qr:=fun outer H s E v s'=>∃e C a0 B H',v=.ref e/\s'.os=s.os/\IB s'.gens/\Un (JT outer) [] H H' s.heap s'.heap/\CQ P w H' s'.heap/\Hn B outer e (.ref C) a0 s'.heap/\(∀b o,(s.heap.get? b≠none\/H' b≠none)->b∉JT outer->s'.heap.get? b=some o->B.get? b=some o)/\E (.ref C) none H'
section
variable {X:Cx} {E:XK}
theorem gK (p:mL X):PassesOwn M X.A X.env (XW X E):=by rintro v s ⟨pins,σ,H,e,C,rfl,F,h⟩;exact F.note p fun h' F'=>F'.back p fun s' F''=>⟨pins,σ,H,e,C,rfl,F''.fly,h⟩
theorem En (p:mL X) (I:dH X pins σ H s) (h:WV X.prog X.w X.stack H s E v s'):XP X pins σ E v s':=by
 obtain⟨e,C,a0,B,H',rfl,os,bare,un,hok,hf,cov,q⟩:=h;have I':dH X pins σ H' s':=I.call' (ch:=[]) os un hok bare fun b z=>absurd z (by simp);refine⟨H',e,C,rfl,⟨I',B,.fly a0 hf,fun b o r n ho=>cov b o ?_ n ho⟩,q⟩;rcases r with r | r | ⟨x,r⟩ | ⟨q,hq,r⟩
 ·left;cases e:X.s_0.heap.get? b with
  | none=>exact absurd e r
  | some o=>obtain⟨o',e'⟩:=I.base.there b o e (by rw[p.ex];simp);rw[e'];simp
 ·exact .inr r
 ·left;obtain⟨v,o,e,_⟩:=I.cell x b r;rw[e];simp
 ·left;obtain⟨e,_⟩:=I.pin q hq;rw[r]at e;rw[e];simp
theorem ZH (p:mL X):AU (WV X.prog X.w) (X.wish (XW X E)) E:=fun pins σ H s v s' I h=>(En p I.unwish h).xw
theorem So:AU (WV P w) Y E0:=fun _ _ _ _ _ _ _ ⟨_,_,_,_,_,_,_,_,_,_,_,_,q⟩=>q.elim
theorem Rp (p:mL X) (I:dH X pins σ H s) (hm:Heap.MadeExcOf s.heap h' e (.ref C) []):Yp X pins σ H e C {s with heap:=h'}:=by
 have I':dH X pins σ H {s with heap:=h'}:=I.kept (t':=s.toks) hm.keeps;obtain⟨t,he,_,_⟩:=hm.there;refine⟨I',CJ s.heap (JT X.stack),.made (fun b o q=>hm.keeps b o (IF _ q)) ?_ ?_ ⟨t,he⟩,fun b o r n ho=>?_⟩
 ·cases q:(CJ s.heap (JT X.stack)).get? e with
  | none=>rfl
  | some o=>have:=IF _ q;rw[hm.new]at this;cases this
 ·have hl:s.heap.FunFrames (CJ s.heap (JT X.stack)) X.stack:=PySem.W.funFrames_hide I.stack fun env he a ha=>MT.mpr ⟨env,he,ha⟩;exact hl.of_keeps fun b o hb _=>⟨o,hm.keeps b o hb,rfl⟩
 ·obtain⟨o1,e1⟩:=I.told p r;have:=hm.keeps b o1 e1;rw[show h'.get? b=some o from ho]at this;cases this;exact Hq _ e1 n
theorem iZ {x:Str} {C:aQ} {np cpos pos:Pos} (p:mL X) (hc:X.calm=true) (hg:Gl X x) (hm:X.mg x=some (.ref C)) (q:yW X.K C=true) (hd:(x == ("__debug__":Str))=false:=by decide):
  PS (X.wish (XW X E)) (.Raise (some (.Call (.Name x np) [] [] cpos)) none pos) (fun _ _ H=>E (.ref C) none H):=by
 intro pins s σ H D I h;obtain⟨nm,qn,N,bs,hdct,sn,sub,ab,col,dd,k0,k1,k2,k3,k5,mN,hC,hN,hni⟩:=Je I.kIn q;refine wpAny_Raise_call_subT (C:=C) (bm:=KN) (nm:=nm) (q:=qn) (N:=N) (bs:=bs) (hdct:=hdct) (sn:=sn) (sub:=sub) (ab:=ab) (col:=col) (dd:=dd) (k0:=k0) (k1:=k1) (k2:=k2) (k3:=k3) (k5:=k5) PySem.F.excBase_Exception (mN:=mN) (by decide) (I.ok.hd hc) rfl hni (BH I hg hm ⟨rfl,?_⟩ hd);exact evalArgs_empty ⟨rfl,aY _,hC,hN,.base,fun h' e hme=>⟨pins,σ,H,e,C,rfl,Rp p I.unwish hme,h⟩⟩
end
section
variable {P:dF} {w:eW} {K:aB} {mg:Str->Option Value} {base:gF} {N:List Str} {qual:Str} {scope:zI} {f:aQ} {cd:Value} {A:jW} {outer:List Env} {s0:aV} {H0:Hp} {E:XK}
theorem Pw (h:XW (XA (WV P w) P w K mg base N qual scope f cd A outer s0 H0 E) E v s):(XA (WV P w) P w K mg base N qual scope f cd A outer s0 H0 E).xe v s:=by
 obtain⟨pins,σ,H,e,C,rfl,F,q⟩:=h;have p:mL (XA (WV P w) P w K mg base N qual scope f cd A outer s0 H0 E):=⟨rfl,rfl,rfl⟩;show bJ (cC P w) (A.deeper (tZ qual scope s0.heap.objs.size f cd)) (leaving (tZ qual scope s0.heap.objs.size f cd) (.ref e)) _ _ s;unfold leaving;refine aF (F.note p fun h' F'=>F'.lands p fun h'' F''=>?_);obtain⟨I,B,a0,hf,c⟩:=F'';refine⟨e,C,a0,B,H,rfl,I.os,I.bare,I.base,I.hok,?_,fun b o r n ho=>?_,q⟩
 ·obtain⟨k1,k2,⟨_,_,k3⟩,k4⟩:=hf;exact⟨k1,k2,k3,k4⟩
 ·refine c b o ?_ (fun z=>?_) ho
  ·rcases r with r | r
   ·exact .inl r
   ·exact .inr (.inl r)
  ·rcases(RJ p).mp z with z | z
   ·subst z;rcases r with r | r
    ·exact r (Kt I.ok.above)
    ·exact r I.free
   ·exact n z
theorem jI.m (h:jI k A) (q:j<=k:=by decide):jI j A:=h.mono q
abbrev E1 (P:dF) (w:eW) (K:aB) (mg:Str->Option Value) (base:gF) (N ps:List Str) (sp:Sp) (k:Nat) (qual:Str) (st:wS):Prop:=∀(vs:List V) (H:Hp) (Q:VK) (E:XK),sp vs H Q E->vs.length=ps.length/\∀(_:N.Nodup) (f:aQ) (cdv:Value) (A:jW) (outer:List Env) (s:aV),jI k (A.deeper (tZ qual (fU st) s.heap.objs.size f cdv))->let X:=(XA (WV P w) P w K mg base N qual (fU st) f cdv A outer s H E).wish (XW (XA (WV P w) P w K mg base N qual (fU st) f cdv A outer s H E) E);∃t,Qn X (uW st) t/\t {nx:=fun _ H'=>Q .non H',rt:=Q} (start N vs) H
theorem Ih.okY {x:Str} {st:wS} {fd:tU} {ps:List Str} {k:Nat} {sp:Sp} (F:Ih K x qual st f fd) (S:QV N ps (fU st)) (h:E1 P w K mg base N ps sp k qual st):vU P w K mg base (WV P w) (k+1) f fd ps sp:=by obtain⟨oc,od,kV,doc,pm,an,cdv,ct,osl,rfl,lk,hcd⟩:=F.ex;refine Zt lk hcd S (fun vs H Q E h'=>(h vs H Q E h').1) fun A outer s H vs Q E hr hsp=>?_;obtain⟨t,h,q⟩:=(h vs H Q E hsp).2 S.nd f cdv A outer s hr;exact⟨t,fun pins s1 σ H1 D I hw=>fZ (h pins s1 σ H1 D (I.wish _) hw) (fun _ _ q=>q.unwish) fun _ _ z=>Pw z,q⟩
abbrev L5 (n q:Str) (st:wS) (ps:List Str):Prop:=∀(kV doc pm:Value) (an:Option aQ) (cdv ct:Value) (us:List Value),us.length=ps.length->WO (kO n q (pB st) (uW st) (fU st) .none kV doc pm an cdv ct) ⟨us,[]⟩=pure (ps.zip us)
theorem YW:∀{ps:List Str} {us:List Value},us.length=ps.length->∀n∈ps,((ps.zip us).lookup n).isSome=true
 | p::ps,u::us,h,n,hn=>by
  simp only[xU,gZ];split
  ·rfl
  ·rcases aS.mp hn with rfl | hn
   ·simp at *
   ·exact YW (by simpa using h) n hn
theorem Fe:∀{ps:List Str} {us:List Value},us.length=ps.length->ps.Nodup->∀(pre:List (Str×Value)),(∀n∈ps,pre.lookup n=none)->(ps.filterMap fun n=>((pre++ps.zip us).lookup n).map (n,·))=ps.zip us
 | [],[],_,_,_,_=>rfl
 | p::ps,u::us,h,nd,pre,hp=>by
  have e:(pre++(p::ps).zip (u::us)).lookup p=some u:=by rw[Pz,hp p aM];simp
  rw[rC,e];have q:=Fe (us:=us) (by simpa using h) (dZ.mp nd).2 (pre++[(p,u)]) (fun n hn=>by
   rw[Pz,hp n (aL _ hn)];have:(n == p)=false:=by rw[beq_eq_false_iff_ne];rintro rfl;exact(dZ.mp nd).1 hn
   simp[gZ,this])
  rw[eY]at q;exact congrArg _ q
theorem Iu (h1:fd.params.posonlyargs=[]) (h2:fd.params.args.map (·.arg)=ps) (h3:fd.params.kwonlyargs=[]) (h4:fd.params.vararg=none) (h5:fd.params.kwarg=none) (h6:fd.defaults=.none) (nd:ps.Nodup) (hl:us.length=ps.length):WO fd ⟨us,[]⟩=pure (ps.zip us):=by
 have q:=Fe hl nd [] (fun _ _=>rfl);have z:(ps.take (ps.length - 0)).filter (fun n=>((ps.zip us).lookup n).isNone)=[]:=by
  rw[List.filter_eq_nil_iff];intro n hn;have:=YW hl n (gP hn);cases e:(ps.zip us).lookup n with
  | none=>rw[e]at this;cases this
  | some x=>simp
 unfold WO;simp only[h1,h2,h3,h4,h5,h6,CV,gR,cI,hl];have pb:∀{α β:Type} (a:α) (f:α->Sem β),(pure a >>= f)=f a:=fun _ _=>rfl;have sq:AK sK=pure none:=rfl;simp only[GL,pb,sq,OA,fY,List.drop_nil,List.zip_nil_right,gt_iff_lt,eZ,decide_false,Bool.false_and,fR,↓reduceIte,z,List.isEmpty_nil,Bool.not_true];exact congrArg pure q
noncomputable def Zo (N ps:List Str) (st:wS):Bool:=(match (fU st).kind with | .function=>true | _=>false) && !(fU st).isCoroutine && !(fU st).isGenerator && decide N.Nodup && decide (N.take ps.length=ps) && ps.all (fun x=>match (fU st).names.lookup x with | some .local=>true | some .cell=>true | _=>false) && (fU st).names.all (fun y=>match y.2 with | .free=>false | _=>true) && (pB st).posonlyargs.isEmpty && decide ((pB st).args.map (·.arg)=ps) && (pB st).kwonlyargs.isEmpty && (pB st).vararg.isNone && (pB st).kwarg.isNone
theorem IQ {ps:List Str} {st:wS} (h:Zo N ps st=true):QV N ps (fU st)/\∀n q,L5 n q st ps:=by
 unfold Zo at h;simp only[aE,cA,decide_eq_true_iff,eX,vP,Option.isNone_iff_eq_none]at h;obtain⟨⟨⟨⟨⟨⟨⟨⟨⟨⟨⟨h1,h2⟩,h3⟩,h4⟩,h5⟩,h6⟩,h7⟩,b1⟩,b2⟩,b3⟩,b4⟩,b5⟩:=h;refine⟨⟨?_,h2,h3,h4,h5,fun x hx=>?_,fun y hy e=>?_⟩,fun n q kV doc pm an cdv ct us hl=>Iu b1 b2 b3 b4 b5 rfl ((h5▸List.take_sublist _ N).nodup h4) hl⟩
 ·split at h1
  ·assumption
  ·cases h1
 ·have:=h6 x hx;split at this
  ·exact .inl ‹_›
  ·exact .inr ‹_›
  ·cases this
 ·have:=h7 y hy;rw[e]at this;cases this
end
noncomputable abbrev Cx.marked (X:Cx) (e:aQ):Cx:={X with A:=X.A.mark (some (.ref e)),calm:=false,xe:=fun _ _=>False}
section
variable {X:Cx} {pins:List (aQ×Obj)} {σ:St} {H:Hp} {s:aV} {e:aQ}
theorem dH.marked (I:dH X pins σ H s) (e:aQ):dH (X.marked e) pins σ H s:=⟨⟨I.ok.mod,I.ok.kind,I.ok.glob,I.ok.blt,I.ok.above,I.ok.inj,I.ok.has,I.ok.cab,fun z=>(by cases z),I.ok.frames,I.ok.stk,I.ok.exf,I.ok.bs,I.ok.bsz,I.ok.noex,I.ok.exfs,I.ok.funs,I.ok.frf⟩,I.os,I.bare,I.base,I.loc,I.cell,I.free,I.freeC,I.pin,I.hok,I.len⟩
theorem dH.unmarked (I:dH (X.marked e) pins σ H s) (hd:X.calm=true->X.A.handled=none):dH X pins σ H s:=⟨⟨I.ok.mod,I.ok.kind,I.ok.glob,I.ok.blt,I.ok.above,I.ok.inj,I.ok.has,I.ok.cab,hd,I.ok.frames,I.ok.stk,I.ok.exf,I.ok.bs,I.ok.bsz,I.ok.noex,I.ok.exfs,I.ok.funs,I.ok.frf⟩,I.os,I.bare,I.base,I.loc,I.cell,I.free,I.freeC,I.pin,I.hok,I.len⟩
theorem SP.unmarked (hd:X.calm=true->X.A.handled=none) (h:SP (X.marked e) pins D f s'):SP X pins D f s':=by
 cases f with
 | next=>obtain⟨σ',H',I,q⟩:=h;exact⟨σ',H',I.unmarked hd,q⟩
 | brk=>obtain⟨σ',H',I,q⟩:=h;exact⟨σ',H',I.unmarked hd,q⟩
 | cont=>obtain⟨σ',H',I,q⟩:=h;exact⟨σ',H',I.unmarked hd,q⟩
 | ret u=>obtain⟨v,σ',H',I,r,q⟩:=h;exact⟨v,σ',H',I.unmarked hd,r,q⟩
end
def PH (X:Cx) (hs:List ExceptHandler) (t:aQ->TS):Prop:=∀(pins:List (aQ×Obj)) (σ:St) (H:Hp) (e C:aQ) (s:aV) (D:IL),RT X pins σ H e C s->yW X.K C=true->t C D σ H->bJ (cC X.prog X.w) X.A (handleBy (.ref e) X.env hs) (SP X pins D) X.xe s
def Yt (X:Cx) (st:List wS) (t:XK->TS):Prop:=∀(pins:List (aQ×Obj)) (s:aV) (σ:St) (H:Hp) (D:IL) (E:XK),dH X pins σ H s->t E D σ H->bJ (cC X.prog X.w) X.A (execs st X.env) (SP X pins D) (XP X pins σ E) s
section
variable {X:Cx}
theorem Cj:PH X [] (fun _ _ _ _=>False):=fun _ _ _ _ _ _ _ _ _ h=>h.elim
theorem FY {x:Str} {C1:aQ} {np pos:Pos} {b0:wS} {suite:List wS} {rest:List ExceptHandler} {t1:TS} {th:aQ->TS} (p:mL X) (hg:Gl X x) (hm:X.mg x=some (.ref C1)) (q1:yW X.K C1=true)
  (hs:∀e,Qn (X.marked e) (b0::suite) t1) (hr:PH X rest th) (hd:(x == ("__debug__":Str))=false:=by decide):
  PH X (.ExceptHandler (some (.Name x np)) none (b0::suite) pos::rest) (fun C D σ H=>(C=C1->t1 D σ H)/\(C≠C1->th C D σ H)):=by
 intro pins σ H e C s D F qC h;have I:=F.1;obtain⟨nm,qn,N,bs,hdct,sn,sub,ab,col,dd,k0,k1,k2,k3,k5,mN,hC,hN,hni⟩:=Je I.kIn qC;obtain⟨ob,hob,hobc⟩:∃ob,s.heap.get? e=some ob/\ob.cls=.ref C:=let ⟨_,_,_,hf,_⟩:=F;hf.there;refine wpAny_handleBy_cons (codeAny_handlers_test (BH (X:=X.marked e) (I.marked e) hg hm ?_ hd)) (by intro q;cases q);by_cases hc:C=C1
 ·subst hc;refine wpAny_excMatches_sub_self hC hob hobc (by decide) (codeAny_handlers_suite ?_);refine F.lands p fun h' F'=>?_;refine fZ (hs e pins _ σ H D (F'.1.marked e) (h.1 rfl)) (fun f s2 z=>z.unmarked I.ok.hd) fun _ _ z=>eN z
 ·obtain⟨nm',qn',N',bs',hdct',sn',sub',ab',col',dd',k0',k1',k2',k3',k5',mN',hC',hN',hni'⟩:=Je I.kIn q1;exact NF hC hC' hob hobc (fun z=>hc z.symm) (hr pins σ H e C s D F qC (h.2 hc))
theorem Jz (p:mL X) (hb:Yt X body tb) (hh:PH X (h0::hs) th):
  PS X (.Try body (h0::hs) [] [] pos) (fun D σ H=>tb (fun v _ H'=>∃C,v=.ref C/\yW X.K C=true/\th C D σ H') D σ H):=by
 intro pins s σ H D I h;refine wpAny_Try_except (fZ (hb pins s σ H D _ I h) (fun f s1 z=>?_) fun v s1 z=>?_)
 ·cases f with
  | next=>exact tV z
  | brk=>exact z
  | cont=>exact z
  | ret u=>exact z
 ·obtain⟨H',e,C,rfl,F,C',eC,qC,q⟩:=z;cases eC;exact F.note p fun h' F'=>F'.lands p fun h'' F''=>hh pins σ H' e C _ D F'' qC q
end
def Ys (X:Cx) (e:Expr) (t:XK->TE):Prop:=∀(pins:List (aQ×Obj)) (s:aV) (σ:St) (H:Hp) (Q:VK) (E:XK),dH X pins σ H s->t E σ H Q->bJ (cC X.prog X.w) X.A (hX e X.env) (EP X pins σ Q) (XP X pins σ E) s
theorem PE.mono (h:PE X.nox e t) (I:dH X pins σ H s) (hw:t σ H Q):bJ (cC X.prog X.w) X.A (hX e X.env) (EP X pins σ Q) E s:=fZ (h pins s σ H Q (I.wish _) hw) (fun _ _ ⟨v,H',I',r,q⟩=>⟨v,H',I'.unwish,r,q⟩) fun _ _ z=>eN z
theorem PA.mono (h:PA X.nox es t) (I:dH X pins σ H s) (hw:t σ H Q):bJ (cC X.prog X.w) X.A (spliced (jH pos (bO es X.env))) (AP X pins σ Q) E s:=fZ (h pos pins s σ H Q (I.wish _) hw) (fun _ _ ⟨v,H',I',r,q⟩=>⟨v,H',I'.unwish,r,q⟩) fun _ _ z=>eN z
section
variable {X:Cx} {k:Nat} {f:aQ} {fd:tU} {ps:List Str} {sp:Sp} {x:Str} {p pos:Pos} {e:Expr} {es:List Expr} {t:TA}
theorem Mj (pl:mL X) (F:vU X.prog X.w X.K X.mg X.base (WV X.prog X.w) k f fd ps sp) (hr:jI k X.A) (hb:sY X.K fd ps [])
  (I:dH X pins σ H s) (r:gB vs us) (h:sp vs H Q E):bJ (cC X.prog X.w) X.A (call (.ref f) us) (EP X pins σ Q) (XP X pins σ E) s:=by
 have hl:us.length=ps.length:=by rw[<-r.length];exact F.len _ _ _ _ h
 have hb':WK s fd ⟨us,[]⟩ (ps.zip us):=by
  have:=hb s us I.kIn (by rw[cI];exact hl)
  rwa [cI]at this
 refine RP (zL (F.run X.A X.stack s H ⟨us,[]⟩ us vs Q E hr I.env0 hb' r h) fun r s' hq=>?_);cases r with
 | error e=>exact En pl I hq
 | ok fl=>
  cases fl with
  | ret u=>exact I.after hq
  | next=>exact eN hq
  | brk=>exact eN hq
  | cont=>exact eN hq
theorem Vr (pl:mL X) (F:vU X.prog X.w X.K X.mg X.base (WV X.prog X.w) k f fd ps sp) (hr:jI k X.A) (hg:Gl X x) (hm:X.mg x=some (.ref f)) (hk:gJ X.K (.ref f)=true) (hb:sY X.K fd ps [])
  (ha:PA X.nox (e::es) t) (hdb:(x == ("__debug__":Str))=false:=by decide) (he:bO (e::es) X.env=(false,hX e X.env)::bO es X.env:=by rfl) (hpl:(jH pos (bO es X.env)).any (·.1)=false:=by rfl):
  Ys X (.Call (.Name x p) (e::es) [] pos) (fun E σ H Q=>t σ H fun vs H1=>sp vs H1 Q E):=by
 intro pins s σ H Q E I h;refine hZ (BH I hg hm ?_ hdb);refine nO (h₀:=X.base) I.ok.mod.kin hk (kY (ha.mono I h) fun us s1 ⟨vs,H1,I1,r,q⟩=>⟨I1.kIn,?_⟩) he hpl;exact Mj pl F hr hb I1 r q
theorem Vq (he:Ys X e te):Yt X [.Return (some e) rpos] (fun E D σ H=>te E σ H D.rt):=by intro pins s σ H D E I h;exact wU (wpAny_Return_some (kY (he pins s σ H _ E I h) fun v s1 ⟨x,H1,I1,r1,q1⟩=>(⟨x,σ,H1,I1,r1,q1⟩:SP X pins D (.ret v) s1)))
theorem Cn (hN:X.N.Nodup) (hi:X.N[i]?=some y) (hx:Xa X.env.scope y) (he:Ys X e te) (hs:wT e (some (.Name y pos')) rpos.line X.env=pure false:=by rfl)
  (hf:X.fn y=true\/X.env.scope.names.lookup y=some .local:=by first | exact .inl rfl | exact .inr rfl | assumption):
  Yt X [.Assign [.Name y pos'] e rpos] (fun E D σ H=>te E σ H fun v H1=>D.nx (σ.set i (some v)) H1):=by
 intro pins s σ H D E I h;refine wU (WQ (kY (he pins s σ H _ E I h) fun v s1 ⟨z,H1,I1,r1,q1⟩=>?_) hs);exact EV I1 hN hi hx r1 (fun s2 I2=>tV ⟨_,H1,I2,q1⟩) hf
end
structure L6 (X:Cx) (k:Nat) (v:V) (sp:Sp):Prop where
 ex:∃f fd ps,v=.ref f/\gJ X.K (.ref f)=true/\sY X.K fd ps []/\vU X.prog X.w X.K X.mg X.base (WV X.prog X.w) k f fd ps sp
section
variable {X:Cx} {k:Nat} {pos:Pos} {fe e:Expr} {es:List Expr} {te:TE} {t:TA}
noncomputable def Tn (X:Cx) (k:Nat) (te:TE) (t:TA) (E:XK):TE:=fun σ H Q=>te σ H fun v H1=>∃sp,L6 X k v sp/\t σ H1 fun vs H2=>sp vs H2 Q E
theorem Fy (pl:mL X) (hr:jI k X.A) (hf:PE (X.wish (XW X E)) fe te) (ha:PA (X.wish (XW X E)) (e::es) t)
  (hc:hX (.Call fe (e::es) [] pos) X.env=(do WP pos (<-hX fe X.env) [] (jH pos (bO (e::es) X.env)) (GH pos (uV [] X.env))):=by rfl)
  (he:bO (e::es) X.env=(false,hX e X.env)::bO es X.env:=by rfl) (hpl:(jH pos (bO es X.env)).any (·.1)=false:=by rfl):
  PE (X.wish (XW X E)) (.Call fe (e::es) [] pos) (Tn X k te t E):=by
 intro pins s σ H Q I h;refine Qb (kY (hf pins s σ H _ I h) fun u s1 ⟨v,H1,I1,r1,sp,⟨f,fd,ps,ev,hk,hb,F⟩,q⟩=>?_) hc;subst ev;obtain rfl:u=cO f:=r1;refine nO (h₀:=X.base) I.ok.mod.kin hk (kY (ha pos pins s1 σ H1 _ I1 q) fun us s2 ⟨vs,H2,I2,r2,q2⟩=>⟨I2.kIn,?_⟩) he hpl;exact Cs (X:=X.wish (XW X E)) (ds:=[]) (dvs:=[]) F hr hb .nil (ZH pl) I2 r2 (by rw[cI];exact q2)
theorem Ta (pl:mL X) (hr:jI k X.A) (hf:PE X.nox fe te) (ha:PA X.nox (e::es) t)
  (hc:hX (.Call fe (e::es) [] pos) X.env=(do WP pos (<-hX fe X.env) [] (jH pos (bO (e::es) X.env)) (GH pos (uV [] X.env))):=by rfl)
  (he:bO (e::es) X.env=(false,hX e X.env)::bO es X.env:=by rfl) (hpl:(jH pos (bO es X.env)).any (·.1)=false:=by rfl):
  Ys X (.Call fe (e::es) [] pos) (fun E=>Tn X k te t E):=by
 intro pins s σ H Q E I h;refine Qb (kY (hf.mono I h) fun u s1 ⟨v,H1,I1,r1,sp,⟨f,fd,ps,ev,hk,hb,F⟩,q⟩=>?_) hc;subst ev;obtain rfl:u=cO f:=r1;refine nO (h₀:=X.base) I.ok.mod.kin hk (kY (ha.mono I1 q) fun us s2 ⟨vs,H2,I2,r2,q2⟩=>⟨I2.kIn,?_⟩) he hpl;exact Mj pl F hr hb I2 r2 q2
end
structure xW (P:dF) (w:eW) (K:aB) (a:aQ) (kvs:List (CS×V)):Prop where
 nm:(a == pF)=false
 of:∀h:gF,K.In h->∃vs,KV kvs vs/\h.DictOf (lW P w) a vs
section
variable {X:Cx} {o i:Expr} {pos:Pos} {td ty:TE}
inductive Wp (X:Cx) (Q:VK) (x y:V) (H2:Hp):Prop
 | mk (a:_) (kvs:_) (k:_) (v:_):x=.ref a->xW X.prog X.w X.K a kvs->y=kV k->qP kvs k=some v->Q v H2->Wp X Q x y H2
noncomputable def D3 (X:Cx) (td ty:TE):TE:=fun σ H Q=>td σ H fun x H1=>ty σ H1 fun y H2=>Wp X Q x y H2
inductive C6 (X:Cx) (neg:Bool) (Q:VK) (x y:V) (H2:Hp):Prop
 | mk (a:_) (kvs:_) (k:_):x=.ref a->xW X.prog X.w X.K a kvs->y=kV k->Q (.bl (if neg then !(qP kvs k).isSome else (qP kvs k).isSome)) H2->C6 X neg Q x y H2
noncomputable def K1 (X:Cx) (neg:Bool) (ty td:TE):TE:=fun σ H Q=>ty σ H fun y H1=>td σ H1 fun x H2=>C6 X neg Q x y H2
theorem BO (ho:PE X o td) (hi:PE X i ty) (hs:Xb i):PE X (.Subscript o i pos) (D3 X td ty):=by intro pins s σ H Q I h;refine Ml PySem.F.slot_dict_getitem.lookup hs (kY (ho pins s σ H _ I h) fun u s1 ⟨x,H1,I1,rx,q1⟩=>kY (hi pins s1 σ H1 _ I1 q1) fun iv s2 ⟨y,H2,I2,ry,a,kvs,k,v,ex,kd,ey,l,q2⟩=>?_);subst ex ey;obtain rfl:u=cO a:=rx;obtain⟨vs,rel,dd⟩:=kd.of _ I2.kIn;refine⟨dd.typeIs,?_⟩;obtain⟨w',hw,rw'⟩:=DO.some_of (v:=v) (o:=valueAt vs k) (by rw[<-l];exact rel.val k);exact wpAny_getItem_of (Eu ry) dd.mapOf hw ⟨v,H2,I2.tok _,rw',q2⟩
theorem Ow (hi:PE X i ty) (ho:PE X o td):PC X .NotIn i o (K1 X true ty td):=by intro pins s σ H Q I h;refine kY (hi pins s σ H _ I h) fun iv s1 ⟨y,H1,I1,ry,q1⟩=>kY (ho pins s1 σ H1 _ I1 q1) fun u s2 ⟨x,H2,I2,rx,a,kvs,k,ex,kd,ey,q2⟩=>?_;subst ex ey;obtain rfl:u=cO a:=rx;obtain⟨vs,rel,dd⟩:=kd.of _ I2.kIn;refine wpAny_notIn_of (Eu ry) kd.nm dd.mapOf ?_;rw[<-(rel.val k).isSome_eq];exact⟨.bl _,H2,I2.tok _,rfl,q2⟩
end
structure gY (P:dF) (w:eW) (K:aB) (mg:Str->Option Value) (base:gF) (k:Nat) (n:Str) (ps:List Str) (sp:Sp):Prop where
 ex:∃f fd,mg n=some (.ref f)/\gJ K (.ref f)=true/\sY K fd ps []/\vU P w K mg base (WV P w) k f fd ps sp
theorem gY.mono {P:dF} {w:eW} {K:aB} {mg:Str->Option Value} {base:gF} {j k:Nat} {n:Str} {ps:List Str} {sp:Sp} (F:gY P w K mg base j n ps sp) (h:j<=k):gY P w K mg base k n ps sp:=let ⟨f,fd,a,b,c,d⟩:=F.ex;⟨f,fd,a,b,c,d.mono h⟩
section
variable {X:Cx} {k:Nat} {n:Str} {ps:List Str} {sp:Sp} {p pos:Pos} {e:Expr} {es:List Expr} {t:TA} {E:XK}
theorem bC (F:gY X.prog X.w X.K X.mg X.base k n ps sp) (hr:jI k X.A) (pl:mL X) (ha:PA (X.wish (XW X E)) (e::es) t) (hg:Gl X n:=by rfl)
  (hdb:(n == ("__debug__":Str))=false:=by decide) (he:bO (e::es) X.env=(false,hX e X.env)::bO es X.env:=by rfl) (hpl:(jH pos (bO es X.env)).any (·.1)=false:=by rfl):
  PE (X.wish (XW X E)) (.Call (.Name n p) (e::es) [] pos) (Mn sp [] E t):=by
 obtain⟨f,fd,hm,hk,hb,F⟩:=F.ex;exact Ma (X:=X.wish (XW X E)) F hr hg hm hk hb .nil (ZH pl) ha hdb he hpl
theorem NP (F:gY X.prog X.w X.K X.mg X.base k n ps sp) (hr:jI k X.A) (ha:PA X (e::es) t) (hg:Gl X n:=by rfl)
  (hdb:(n == ("__debug__":Str))=false:=by decide) (he:bO (e::es) X.env=(false,hX e X.env)::bO es X.env:=by rfl) (hpl:(jH pos (bO es X.env)).any (·.1)=false:=by rfl):
  PE X (.Call (.Name n p) (e::es) [] pos) (Mn sp [] E0 t):=by
 obtain⟨f,fd,hm,hk,hb,F⟩:=F.ex;exact Ma F hr hg hm hk hb .nil So ha hdb he hpl
theorem Mg (F:gY X.prog X.w X.K X.mg X.base k n ps sp) (hr:jI k X.A) (pl:mL X) (ha:PA X.nox (e::es) t) (hg:Gl X n:=by rfl)
  (hdb:(n == ("__debug__":Str))=false:=by decide) (he:bO (e::es) X.env=(false,hX e X.env)::bO es X.env:=by rfl) (hpl:(jH pos (bO es X.env)).any (·.1)=false:=by rfl):
  Ys X (.Call (.Name n p) (e::es) [] pos) (fun E σ H Q=>t σ H fun vs H1=>sp vs H1 Q E):=by
 obtain⟨f,fd,hm,hk,hb,F⟩:=F.ex;exact Vr pl F hr hg hm hk hb ha hdb he hpl
end
theorem bA.sqT {K:aB} {H H':Hp} {a:aQ} {xs:List V} (e:bA H H') (h:fK K H a xs):fK K H' a xs:=by
 rcases h with(h | ⟨o,h⟩) | h
 ·exact .inl (.inl (e _ _ h))
 ·exact .inl (.inr ⟨o,e _ _ h⟩)
 ·exact .inr h
theorem fK.of' {K:aB} {H:Hp} {a:aQ} {xs:List V} (h:H a=some (.tup xs)):fK K H a xs:=.inl (.inl h)
theorem bA.upd (h:H p=none):bA H (upd H p o):=fun b u e=>by rw[bL (dM e h)];exact e
def zP (H H':Hp):Prop:=(∀b xs,H b=some (.tup xs)->H' b=some (.tup xs))/\∀b o u,H b=some (.frz o u)->H' b=some (.frz o u)
theorem bA.tups (h:bA H H'):zP H H':=⟨fun b xs=>h b _,fun b o u=>h b _⟩
theorem zP.trans (a:zP H H1) (b:zP H1 H2):zP H H2:=⟨fun c xs e=>b.1 c xs (a.1 c xs e),fun c o u e=>b.2 c o u (a.2 c o u e)⟩
theorem zP.sqT {K:aB} {H H':Hp} {a:aQ} {xs:List V} (e:zP H H') (h:fK K H a xs):fK K H' a xs:=by
 rcases h with(h | ⟨o,h⟩) | h
 ·exact .inl (.inl (e.1 _ _ h))
 ·exact .inl (.inr ⟨o,e.2 _ _ _ h⟩)
 ·exact .inr h
noncomputable def Wt (K:aB):R2:=fun x y H Q=>∃a b xs ys,x=.ref a/\y=.ref b/\fK K H a xs/\fK K H b ys/\xs.length+ys.length<=aU/\∀p H',bA H H'->fK K H' p (xs++ys)->Q (.ref p) H'
theorem Re {prog:dF} {w:eW} {A:jW} {E:Value->aV->Prop} {s:aV} {t b:aQ} {vs ws:List Value} {Q:Value->aV->Prop} (ht:Qc s.heap t vs.toArray) (hb:Qc s.heap b ws.toArray) (hv:vs=[])
  (h1:Q (.ref b) s):bJ (cC prog w) A (GI .Add (.ref t) (.ref b)) Q E s:=by
 obtain⟨⟨cls,dd,data,sl⟩,ho,hc,n,hd⟩:=id ht;obtain⟨⟨cls2,dd2,data2,sl2⟩,ho2,hc2,n2,hd2⟩:=id hb;simp only at hc hd hc2 hd2;subst hc hd hc2 hd2;exact concat_meets ⟨_,ho,rfl⟩ ⟨_,ho2,rfl⟩ Ao Nd AM zJ (yN _ _)
   (tuple_addW0 t b vs.toArray ws.toArray n n2 dd dd2 sl sl2 (by simp[hv])) ⟨ho,ho2,h1⟩
section
variable {X:Cx}
theorem FX:Av X (GI .Add) (Wt X.K):=by
 intro pins s σ H x y v u Q I rx ry h;obtain⟨a,b,xs,ys,rfl,rfl,ha,hb,hz,q⟩:=h;by_cases hx:xs=[]
 ·cases rx;cases ry;obtain⟨eG,r1,p1,_⟩:=I.tuple ha;obtain⟨its2,r2,p2,_⟩:=I.tuple hb;refine Re p1 p2 (r1.nil_iff.mpr hx) ⟨.ref b,H,I,rfl,q b H (bA.refl H) ?_⟩;rw[hx,gR];exact hb
 ·refine Vi pins s σ H _ _ v u Q I rx ry ⟨a,b,xs,ys,rfl,rfl,ha,hb,hx,hz,fun e=>?_,fun _ p hp=>?_⟩
  ·refine q a H (bA.refl H) ?_;rw[e,cI];exact ha
  ·exact q p _ (bA.upd hp) (.of' aH)
theorem GJ {prog:dF} {w:eW} {A:jW} {E:Value->aV->Prop} {s:aV} {t sl:aQ} {items:Array Value} {vl vu:Value} {lo hi:Option Int} {Q:Value->aV->Prop} (ht:Qc s.heap t items) (hs:s.heap.IsSliceOf sl vl vu .none) (pl:MX vl lo) (pu:MX vu hi)
  (hw:HT.rT items.size 0 lo=0/\HT.rT items.size items.size hi=items.size) (h:Q (.ref t) s):bJ (cC prog w) A (DB (.ref t) (.ref sl)) Q E s:=by
 obtain⟨os,hos,hcs,hds⟩:=id hs;have hTs:s.TypeIs (.ref sl) "slice":=⟨os,hos,hcs⟩;unfold DB;try with_reducible refine iN ?_
 first | refine aF (aZ ?_) | skip
 refine aF (wpAny_sequenceKey ht.typeIs (by decide) ?_);refine aF (lC (name:=kD "__getitem__") ht.typeIs lK (sL lK ht.typeIs entry_tuple_getitem ?_ (args_tuple_getitem _ _)));show bJ _ _ (JV (.ref t) >>= _) _ _ s;refine aF (tupleItemsOf_ ht ?_);refine aF (wpAny_typeOf hTs ?_);rw[if_pos (by decide)];refine aF (HT.AE hs pl pu ?_);have hyes:(((HT.rT items.size 0 lo:Nat):Int) == 0 && (1:Int) == 1 && (HT.rT items.size items.size hi - HT.rT items.size 0 lo) == items.size)=true:=by rw[hw.1,hw.2];simp
 show bJ _ _ (if (((HT.rT items.size 0 lo:Nat):Int) == 0 && (1:Int) == 1 && (HT.rT items.size items.size hi - HT.rT items.size 0 lo) == items.size)=true then _ else _) _ _ s;rw[if_pos hyes];obtain⟨⟨cls,dd,data,sl'⟩,ho,hc,n,hd⟩:=id ht;simp only at hc hd;subst hc hd;obtain⟨hp,g,d,tk,oss⟩:=s
 wp_walk using wpAny_loadPart' ho
 exact⟨_,rfl,aZ h⟩
noncomputable def J3 (K:aB):V->Option Int->Option Int->Hp->VK->Prop:=fun x lo hi H Q=>∃a xs,x=.ref a/\fK K H a xs/\∀p H',bA H H'->fK K H' p (CT xs lo hi)->Q (.ref p) H'
theorem GD:E7 X (J3 X.K):=by
 intro pins s σ H x v vl vu lo hi sl Q I rx hs pl pu h;obtain⟨a,xs,rfl,hx,q⟩:=h;by_cases hw:HT.rT xs.length 0 lo=0/\HT.rT xs.length xs.length hi=xs.length
 ·cases rx;obtain⟨eG,r,ht,hz⟩:=I.tuple hx;have hlen:eG.toArray.size=xs.length:=by rw[bN];exact r.length.symm
  refine⟨"tuple",_,PyProof.Rows.slot_tuple_getitem.lookup,ht.typeIs,?_⟩;refine GJ ht hs pl pu (by rw[hlen];exact hw) ⟨.ref a,H,I,rfl,q a H (bA.refl H) ?_⟩;unfold CT;rw[hw.1,hw.2,xS,Hw,cN];exact hx
 ·exact Ye pins s σ H _ v vl vu lo hi sl Q I rx hs pl pu ⟨a,xs,rfl,hx,hw,fun p hp=>q p _ (bA.upd hp) (.of' aH)⟩
end
theorem Iy (xs:List V) (j:Nat):CT xs none (some (j:Int))=xs.take j:=by
 unfold CT;rw[HT.Go,HT.RG,xS,Hw];by_cases h:j<=xs.length
 ·rw[FD h]
 ·rw[Nat.min_eq_right (by lia),cN,CW (by lia)]
theorem SI (xs:List V) (j:Nat):CT xs (some (j:Int)) none=xs.drop j:=by
 unfold CT;rw[HT.Go,HT.RG];by_cases h:j<=xs.length
 ·rw[FD h];exact CW (by rw[cX];exact aR _)
 ·rw[Nat.min_eq_right (by lia),jT,oN (by lia),List.take_nil]
noncomputable def qV:List Int->Int
 | []=>0
 | a::l=>l.foldl max a
theorem KR:∀(l:List Int) (a:Int),a<=l.foldl max a/\∀x∈l,x<=l.foldl max a
 | [],a=>⟨Int.le_refl _,fun x h=>by cases h⟩
 | b::l,a=>by
  obtain⟨h1,h2⟩:=KR l (max a b);refine⟨Int.le_trans (Int.le_max_left a b) h1,fun x hx=>?_⟩;rcases aS.mp hx with rfl | hx
  ·exact Int.le_trans (Int.le_max_right a x) h1
  ·exact h2 x hx
theorem GW:∀(l:List Int) (a:Int),l.foldl max a=a\/l.foldl max a∈l
 | [],a=>.inl rfl
 | b::l,a=>by
  rw[mC];rcases GW l (max a b)with h | h
  ·rcases Int.le_total a b with c | c
   ·rw[h,Int.max_eq_right c];exact .inr aM
   ·rw[h,Int.max_eq_left c];exact .inl rfl
  ·exact .inr (aL _ h)
theorem OI (hm:m∈l) (h:∀x∈l,x<=m):qV l=m:=by
 cases l with
 | nil=>cases hm
 | cons a l=>
  show l.foldl max a=m;obtain⟨h1,h2⟩:=KR l a;apply Int.le_antisymm
  ·rcases GW l a with e | e
   ·rw[e];exact h a aM
   ·exact h _ (aL _ e)
  ·rcases aS.mp hm with rfl | hm
   ·exact h1
   ·exact h2 m hm
section
variable {X:Cx}
theorem yY (r:gB (ns.map V.int) eG):∃xs:Array (Int×Tok),eG.toArray=AQ xs/\ns=xs.toList.map (·.1):=by have hi:IntsAre eG ns:=Ji r;obtain⟨xs,e⟩:=hi.allInts.items;refine⟨xs,e,?_⟩;rw[<-hi.numsOf,<-nums_intItems,<-e]
theorem Rb (hc:X.calm=true):DK X (.builtin "sum") (fun xs H Q=>∃(a:aQ) (ns:List Int),xs=[.ref a]/\hJ X.K H a (ns.map V.int)/\Q (.int ns.sum) H):=by
 intro pins s σ H xs us Q I r h;obtain⟨a,ns,rfl,ha,q⟩:=h;obtain⟨u,rfl,ru⟩:=VZ r;cases ru;obtain⟨eG,rv,hl,_⟩:=I.list ha;obtain⟨ys,e1,e2⟩:=yY rv;have hl':s.heap.IsList a (AQ ys):=by obtain⟨o,n,ho,hcl,hdn,hd⟩:=hl;exact⟨o,ho,hcl,n,by rw[hd,e1]⟩
 refine sum_intListG (I.ok.hd hc) hl' fun h' tk t' hk=>?_;have e3:preSum (JQ ys) ys.size=ns.sum:=by rw[preSum_eq,CW (by simp),e2]
 rw[e3];exact⟨.int ns.sum,H,I.kept hk,⟨t',rfl⟩,q⟩
theorem Nr (hc:X.calm=true):DK X (.builtin "max") (fun xs H Q=>∃(a:aQ) (ns:List Int),xs=[.ref a]/\hJ X.K H a (ns.map V.int)/\ns≠[]/\Q (.int (qV ns)) H):=by
 intro pins s σ H xs us Q I r h;obtain⟨a,ns,rfl,ha,hne,q⟩:=h;obtain⟨u,rfl,ru⟩:=VZ r;cases ru;obtain⟨eG,rv,hl,_⟩:=I.list ha;obtain⟨ys,e1,e2⟩:=yY rv;have hl':s.heap.IsList a (AQ ys):=by obtain⟨o,n,ho,hcl,hdn,hd⟩:=hl;exact⟨o,ho,hcl,n,by rw[hd,e1]⟩
 have hsz:0 < ys.size:=by
  cases hy:ys.size with
  | zero=>exfalso;apply hne;rw[e2];have:ys=#[]:=Array.eq_empty_of_size_eq_zero hy;rw[this];rfl
  | succ n=>omega
 refine max_intList (I.ok.hd hc) hl' hsz fun v h' tk hv hk=>?_;obtain⟨t,rfl⟩:=intItems_at hv;obtain⟨b1,b2⟩:=argBest_gt (JQ ys) (ys.size - 1);have eg:qV ns=JQ ys (CZ (fun i j=>decide (JQ ys i > JQ ys j)) (ys.size - 1)):=by
  refine OI ?_ fun x hx=>?_
  ·rw[e2,numAt_eq];exact getD_mem (by rw[aJ,jF];omega)
  ·rw[e2]at hx;obtain⟨j,hj,rfl⟩:=mem_getD hx;rw[aJ,jF]at hj;rw[<-numAt_eq];exact b2 j (by omega)
 refine⟨.int (qV ns),H,I.kept hk,?_,q⟩;rw[eg];exact⟨t,rfl⟩
end
section
variable {prog:dF} {w:eW} {A:jW} {R:Result->aV->Prop} {I:aQ} {fp wr:List aQ} {n:Nat} {P:Nat->Value->Prop} {St:Nat->gF->Prop} {kw:List (Str×Value)}
theorem Se (W:Walks prog w A.in1 I fp wr n P St) (bt:Nat->Nat->Bool) (hcmp:CmpOf prog w A.in1 .Gt P bt) (S:aQ) (hSf:S∉fp):
  ∀(k j:Nat) (s:aV) (vb:Value) (c:Nat),n - (j+1)=k->j+1<=n->St (j+1) s.heap->P (CZ bt j) vb->s.heap.get? S=some {cls:=.type "list",dict:=none,data:=.seq #[vb,vb] c,slots:=#[]}->
  (∀v h' tk,P (CZ bt (n - 1)) v->(∀b o,b∉wr->b≠S->s.heap.get? b=some o->h'.get? b=some o)->R (.ok (.ret v)) {s with heap:=h',toks:=tk})->
  vT (cC prog w) A (.builtin "max.loop" ⟨[.ref I,.none,.ref S],kw⟩) R s:=by
 have nSw:S∉wr:=fun z=>hSf (W.sub _ z);have nm:(iQ "max"++iQ ".loop":String)="max.loop":=by decide
 intro k;induction k with
 | zero=>
  intro j s vb c hk hj hst hPb hS hR;have jn:j+1=n:=by omega
  refine pU AL ?_;rw[kC iX _];show bJ _ A.in1 (AK (.ref S) >>= _) _ _ s;refine aF (iO hS rfl ?_);show bJ _ A.in1 (vQ (DI (.ref I)) _ >>= _) _ _ s;refine aF (iP (W.done s _ _ (jn▸hst) fun h1 tk keep=>?_));have hS1:=keep S _ nSw hS;show bJ _ A.in1 (Ar S (fun _=>#[]) >>= _) _ _ _;refine aF ?_;refine pW hS1 rfl (aF (rK (aZ ?_)));exact hR vb _ tk (by rw[<-jn];exact hPb) fun b o nb nS e=>(eA _ _ (uU nS)).trans (keep b o nb e)
 | succ k ih=>
  intro j s vb c hk hj hst hPb hS hR;have lt:j+1 < n:=by omega
  refine pU AL ?_;rw[kC iX _];show bJ _ A.in1 (AK (.ref S) >>= _) _ _ s;refine aF (iO hS rfl ?_);show bJ _ A.in1 (vQ (DI (.ref I)) _ >>= _) _ _ s;refine aF (iP (W.item (j+1) s _ _ lt hst fun v h1 tk hP st1 keep=>?_));have hS1:=keep S _ nSw hS;show bJ _ A.in1 (vQ (IG [v,v] (richCompare .Gt v vb >>= _)) _ >>= _) _ _ _;refine aF (iP (iN (aF (hcmp (j+1) (CZ bt j) v vb _ _ _ hP hPb ?_))));refine aF (iN (nH ?_));refine aF (rK (aZ ?_));cases hb:bt (j+1) (CZ bt j)with
  | true=>
   simp only[if_true];refine aF ?_;refine pW hS1 rfl (aF (rK ?_));rw[nm];refine aZ ⟨nP iX _,ih (j+1) _ v _ (by omega) lt (W.frame _ _ _ st1 fun b bf o e=>?_) (by simp only[CZ,hb,if_true];exact hP) (jO _ hS1 rfl) fun v2 h2 tk2 hP2 keep2=>?_⟩
   ·exact(eA _ _ (fun z:S=b=>hSf (by rw[z];exact bf))).trans e
   ·exact hR v2 h2 tk2 hP2 fun b o nb nS e=>keep2 b o nb nS ((eA _ _ (uU nS)).trans (keep b o nb e))
  | false=>simp only[fR,if_false];refine aF (rK ?_);rw[nm];refine aZ ⟨nP iX _,ih (j+1) _ vb c (by omega) lt st1 (by simp only[CZ,hb,fR,if_false];exact hPb) hS1 fun v2 h2 tk2 hP2 keep2=>?_⟩;exact hR v2 h2 tk2 hP2 fun b o nb nS e=>keep2 b o nb nS (keep b o nb e)
theorem On (W:Walks prog w A.in1 I fp wr n P St) (bt:Nat->Nat->Bool) (hcmp:CmpOf prog w A.in1 .Gt P bt) (S:aQ) (hSf:S∉fp) (hst:St 0 s.heap)
  (hS:s.heap.get? S=some {cls:=.type "list",dict:=none,data:=.seq #[] c,slots:=#[]})
  (hR:∀v h' tk,(n=0/\v=d\/0 < n/\P (CZ bt (n - 1)) v)->(∀b o,b∉wr->b≠S->s.heap.get? b=some o->h'.get? b=some o)->R (.ok (.ret v)) {s with heap:=h',toks:=tk}):
  vT (cC prog w) A (.builtin "max.loop" ⟨[.ref I,.none,.ref S],[("default",d)]⟩) R s:=by
 have nSw:S∉wr:=fun z=>hSf (W.sub _ z);have nm:(iQ "max"++iQ ".loop":String)="max.loop":=by decide
 refine pU AL ?_;rw[kC iX _];show bJ _ A.in1 (AK (.ref S) >>= _) _ _ s;refine aF (iO hS rfl ?_);show bJ _ A.in1 (vQ (DI (.ref I)) _ >>= _) _ _ s;by_cases h0:n=0
 ·refine aF (iP (W.done s _ _ (h0▸hst) fun h1 tk keep=>?_));show bJ _ A.in1 (rule _ >>= _) _ _ _;exact aF (Ib (aZ (hR d _ tk (.inl ⟨h0,rfl⟩) fun b o nb nS e=>keep b o nb e)))
 ·have hn:0 < n:=Nat.pos_of_ne_zero h0;refine aF (iP (W.item 0 s _ _ hn hst fun v h1 tk hP st1 keep=>?_));have hS1:=keep S _ nSw hS;show bJ _ A.in1 (Ar S (fun _=>#[v,v]) >>= _) _ _ _;refine aF ?_;refine pW hS1 rfl ?_;rw[nm];refine aZ ⟨nP iX _,Se W bt hcmp S hSf _ 0 _ v _ rfl hn (W.frame _ _ _ st1 fun b bf o e=>?_) hP (jO _ hS1 rfl) fun v2 h2 tk2 hP2 keep2=>?_⟩
  ·exact(eA _ _ (fun z:S=b=>hSf (by rw[z];exact bf))).trans e
  ·exact hR v2 h2 tk2 (.inr ⟨hn,hP2⟩) fun b o nb nS e=>keep2 b o nb nS ((eA _ _ (uU nS)).trans (keep b o nb e))
end
theorem Nl (a d:Value):DF "max" ⟨[a],[("default",d)]⟩:=by unfold DF;kernel_rfl
section
variable {prog:dF} {w:eW} {A:jW} {E:Value->aV->Prop} {s:aV}
theorem Cy {id:String} {b:OB} {args:List Value} {kw:List (Str×Value)} {Q:Value->aV->Prop} (hk:builtinKind id=none) (hp:plainId id=true)
  (hb:entryFor table id=some b) (ha:DF id ⟨args,kw⟩)
  (hc:bJ (cC prog w) A.in1 (b ⟨args,kw⟩) (fun fin s'=>match fin with
   | .done f=>(match (Except.ok f:Result)with | .ok (.ret v)=>Q v s' | .ok _=>False | .error e=>E e s')
   | .again c'=>c'.quiet=true/\vT (cC prog w) A c' (fun r s'=>match r with | .ok (.ret v)=>Q v s' | .ok _=>False | .error e=>E e s') s') E s):
  bJ (cC prog w) A (call (.builtin id) args kw) Q E s:=by
 refine RP (codeAny_call_builtin hp hb ?_);simp only[checkBuiltinCall,hk];cases hsig:Manifest.signature? id with
 | none=>exact aZ hc
 | some sig=>
  have ok':Bind.checkArgs id sig ⟨args,kw⟩=pure ():=by simpa only[DF,hsig] using ha
  simp only[ok'];exact aZ hc
theorem Nt (hh:A.handled=none) (hl:s.heap.IsList l (AQ ys))
  (h:∀v h' tk,(ys.size=0/\v=d\/0 < ys.size/\(AQ ys)[CZ (fun i j=>decide (JQ ys i > JQ ys j)) (ys.size - 1)]?=some v)->(∀b o,s.heap.get? b=some o->h'.get? b=some o)->Q v {s with heap:=h',toks:=tk}):
  bJ (cC prog w) A (call (.builtin "max") [.ref l] [("default",d)]) Q E s:=by
 have nm:(iQ "max"++iQ ".loop":String)="max.loop":=by decide
 refine Cy PySem.F.kind_max PySem.F.plain_max PySem.F.entry_max (Nl _ _) ?_;show bJ _ A.in1 (iA "max" ["key","default"] 0 ⟨[],[("default",d)]⟩ >>= _) _ _ s;refine aF (Dj (show iA "max" ["key","default"] 0 ⟨[],[("default",d)]⟩=pure [none,some d]from rfl) ?_);refine aF (aZ ?_);refine aF (iter_intList hl fun s2 e st hfp hlI=>?_);subst e;refine aF (eO ?_);have W:=KA (prog:=prog) (w:=w) (A:=A.in1) hh s.heap.objs.size l hlI (AQ ys);have hz:(AQ ys).size=ys.size:=by simp[AQ]
 rw[nm];refine aZ ⟨nP iX _,On W (fun i j=>decide (JQ ys i > JQ ys j)) (CmpOf.ints_gt (JQ ys) (fun _ _=>intItems_at)) _ (fun hm=>eZ _ (hfp _ hm)) (W.frame _ _ _ st fun b _ o e=>aG _ e) (bQ _ rfl) fun v h' tk hP hk=>?_⟩;refine h v h' tk ?_ (old_kept (l:=l) fun b o hb e=>hk b o hb (eK (bY e)) (aG _ e));rcases hP with⟨a,b⟩ | ⟨a,b⟩
 ·exact .inl ⟨by rw[<-hz];exact a,b⟩
 ·rw[hz]at a b;exact .inr ⟨a,b⟩
end
section
variable {X:Cx} {e ed:Expr} {te td:TE} {p kp pos:Pos}
theorem Vk (hc:X.calm=true) (he:PE X e te) (hd:PE X ed td) (hm:X.mg "max"=none) (hg:Gl X "max":=by rfl) (hs:bO [e] X.env=[(false,hX e X.env)]:=by rfl):
  PE X (.Call (.Name "max" p) [e] [⟨some "default",ed,kp⟩] pos) (fun σ H Q=>te σ H fun x H1=>td σ H1 fun d H2=>∃(a:aQ) (ns:List Int) (z:Int),x=.ref a/\hJ X.K H2 a (ns.map V.int)/\d=.int z/\Q (.int (if ns.isEmpty then z else qV ns)) H2):=by
 intro pins s σ H Q I h;refine hZ (uG I hg hm boot_max ?_);refine callWith_kw ?_ (by rw[hs];rfl) (by rw[hs];rfl);refine spliced_more (kY (he pins s σ H _ I h) fun u s1 ⟨x,H1,I1,r1,q1⟩=>spliced_none ?_) hs;refine kws_cons (kY (hd pins s1 σ H1 _ I1 q1) fun u2 s2 ⟨d,H2,I2,r2,a,ns,z,ex,ha,ed,q⟩=>kws_nil ?_);subst ex ed;obtain rfl:u=cO a:=r1;obtain⟨t,rfl⟩:=r2;obtain⟨eG,rv,hl,_⟩:=I2.list ha;obtain⟨ys,e1,e2⟩:=yY rv;have hl':s2.heap.IsList a (AQ ys):=by obtain⟨o,n,ho,hcl,hdn,hd⟩:=hl;exact⟨o,ho,hcl,n,by rw[hd,e1]⟩
 show bJ _ _ (call (.builtin "max") [.ref a] [("default",.int z t)]) _ _ _;refine Nt (I2.ok.hd hc) hl' fun v h' tk hv hk=>?_;have hlen:ns.length=ys.size:=by rw[e2,aJ,jF]
 rcases hv with⟨h0,rfl⟩ | ⟨h0,hv⟩
 ·have:ns=[]:=iW.mp (by omega);refine⟨.int z,H2,I2.kept hk,⟨t,rfl⟩,?_⟩;rw[this]at q;exact q
 ·obtain⟨t',rfl⟩:=intItems_at hv;obtain⟨b1,b2⟩:=argBest_gt (JQ ys) (ys.size - 1);have eg:qV ns=JQ ys (CZ (fun i j=>decide (JQ ys i > JQ ys j)) (ys.size - 1)):=by
   refine OI ?_ fun x hx=>?_
   ·rw[e2,numAt_eq];exact getD_mem (by rw[aJ,jF];omega)
   ·rw[e2]at hx;obtain⟨j,hj,rfl⟩:=mem_getD hx;rw[aJ,jF]at hj;rw[<-numAt_eq];exact b2 j (by omega)
  have hne:ns.isEmpty=false:=by
   cases ns with
   | nil=>simp at hlen;omega
   | cons _ _=>rfl
  rw[hne]at q;refine⟨.int (qV ns),H2,I2.kept hk,?_,q⟩;rw[eg];exact⟨t',rfl⟩
end
noncomputable def Yd (items:Array Value) (x:Value) (i:Nat) (_r:Option Fin×Unit):Sem (ForInStep (Option Fin×Unit)):=
 match items[i]? with
 | some y=>do
  let same<-eqBool y x
  if same=true then do
    let r<-retInt (i:Int)
    pure (ForInStep.done (some r,()))
   else pure (qR (none,()))
 | _=>pure (qR (none,()))
theorem Pf {prog:dF} {w:eW} {A:jW} {E:Value->aV->Prop} {s:aV} {items:Array Value} {x:Value} {e:Value->Bool} {j:Nat} {Q:Option Fin×Unit->aV->Prop} (hj:j < items.size)
  (hit:e items[j]=true) (hno:∀m (hm:m < items.size),m < j->e items[m]=false) (he:∀y,y∈items->WN A s y x (e y))
  (h:Q (some (.done (.ret (.int j s.toks))),()) {s with toks:=s.toks+1}):
  ∀(k i:Nat) (r:Option Fin×Unit),i+k=items.size->i<=j->bJ (cC prog w) A (WH (m:=Sem) (List.range' i k) r (Yd items x)) Q E s:=by
 intro k;induction k with
 | zero=>intro i r hk hi;lia
 | succ k ih=>
  intro i r hk hi;rw[List.range'_succ,mD];have hlt:i < items.size:=by lia
  have hg:items[i]?=some items[i]:=by simp[hlt]
  unfold Yd;rw[hg];refine aF (aF (he _ (Array.getElem_mem hlt) prog w _ _ ?_));by_cases c:i=j
  ·subst c;rw[hit,if_pos rfl];obtain⟨hp,g,d,tk,os⟩:=s
   wp_walk
   exact h
  ·rw[hno i hlt (by lia),if_neg (by decide)];refine aZ ?_;exact ih (i+1) _ (by lia) (by lia)
theorem XN (l:aQ) (items:Array Value) (n:Nat) (dd:Option aQ) (sl:Array (Option Value)) (x:Value) (e:Value->Bool) (j:Nat) (hj:j < items.size)
  (hit:e items[j]=true) (hno:∀m (hm:m < items.size),m < j->e items[m]=false):
  Meets (OB.«tuple.index» ⟨[.ref l,x],[]⟩)
   (fun A R s=>s.heap.get? l=some {cls:=.type "tuple",dict:=dd,data:=.seq items n,slots:=sl}/\(∀y,y∈items->WN A.in1 s y x (e y))/\R (.ok (.ret (.int j s.toks))) {s with toks:=s.toks+1}):=by
 intro prog w A R s h;obtain⟨hp,g,d,tk,os⟩:=s;obtain⟨hl,he,h⟩:=h;unfold OB.«tuple.index»
 wp_walk using wpAny_loadPart' hl
 change bJ (cC prog w) A.in1 (WH (m:=Sem) [0:min items.size items.size] (none,()) (Yd items x)) _ _ _;rw[Std.Legacy.Range.forIn_eq_forIn_range',Hv];refine Pf hj hit hno he ?_ _ 0 _ ?_ (aY _)
 ·exact aZ h
 ·simp[Std.Legacy.Range.size]
section
variable {X:Cx}
theorem dH.tupleN (I:dH X pins σ H s) (h:fK X.K H a xs):∃eG:List Value,gB xs eG/\RX s.heap a eG.toArray:=by
 rcases h with h | ⟨o,eG,n,hk,hc,hs,hz,r⟩
 ·obtain⟨z,eG,r,p⟩:=h.ok I.hok;exact⟨eG,r,p⟩
 ·exact⟨eG.toList,r,o,I.kIn a o hk,hc.1,n,by simpa using hs,hc.2⟩
noncomputable def Mh (K:aB):V->List V->Hp->VK->Prop:=fun x xs H Q=>∃(a:aQ) (ys:List V) (y:V) (j:Nat) (z:V),x=V.ref a/\xs=[y]/\fK K H a ys/\zV y=true/\ys.all zV=true/\ys[j]?=some z/\Qp z y=true/\(∀(m:Nat) (z':V),m < j->ys[m]?=some z'->Qp z' y=false)/\Q (.int (j:Nat)) H
theorem Eb (a b:Value):DF "tuple.index" ⟨[a,b],[]⟩:=by unfold DF;kernel_rfl
theorem Oo:Yr X "tuple.index" (Mh X.K):=by
 intro pins s σ H x xs v us Q I rx rxs h;obtain⟨a,ys,y,j,z,rfl,rfl,hs,fy,fys,hz,hzj,hno,q⟩:=h;cases rx;cases rxs with
 | cons ry rt=>
  rename_i uy ut
  cases rt;obtain⟨eG,rv,⟨cls,dd,data,sl⟩,ho,hc,n,hd,_⟩:=I.tupleN hs;simp only at hc hd;subst hc hd;obtain⟨u,hu,ru⟩:=rv.get hz;obtain⟨hjl,hje⟩:=aT.mp hu;have hvl:=rv.length;have hj:j < eG.toArray.size:=by simpa using hjl
  refine Hz WM ⟨_,ho,rfl⟩ PySem.F.entry_tuple_index (Eb _ _)
   (XN a eG.toArray n dd sl uy (Hs y) j hj ?_ ?_) ⟨ho,fun u' hu'=>AA ry fy rv fys u' (by simpa using hu'),?_⟩
  ·have e1:eG.toArray[j]=u:=by simpa using hje
   rw[e1,Bh ru (Ln fys hz)];exact hzj
  ·intro m hm hmj;have hml:m < eG.length:=by simpa using hm
   have hmy:m < ys.length:=by lia
   have hy':ys[m]?=some ys[m]:=bD hmy;obtain⟨u2,hu2,ru2⟩:=rv.get hy';obtain⟨_,hme⟩:=aT.mp hu2;have e1:eG.toArray[m]=u2:=by simpa using hme
   rw[e1,Bh ru2 (Ln fys hy')];exact hno m _ hmj hy'
  ·exact⟨.int (j:Nat),H,I.tok _,⟨_,rfl⟩,q⟩
variable {o e:Expr} {to:TE} {t:TA} {apos cpos:Pos}
theorem Ox (ho:PE X o to) (ha:PA X [e] t) (hbase:DG o "index" X.env (hX o X.env)=hX o X.env:=by rfl)
  (hfew:((jH cpos (bO [e] X.env)).all (fun x=> !x.1) && (GH cpos (uV [] X.env)).all (fun x=>x.1.isSome) && decide ([e].length+([]:List Keyword).length+(if ([]:List Keyword).isEmpty then 0 else 1) < 30))=true:=by rfl)
  (hline:(apos.endLine == cpos.line)=true:=by rfl) (hs:bO [e] X.env=(false,hX e X.env)::bO [] X.env:=by rfl) (hplain:(jH cpos (bO [] X.env)).any (·.1)=false:=by rfl):
  PE X (.Call (.Attribute o "index" apos) [e] [] cpos) (fun σ H Q=>to σ H fun x H1=>(∃p ys,x=.ref p/\fK X.K H1 p ys)/\t σ H1 fun xs H2=>Mh X.K x xs H2 Q):=by
 intro pins s σ H Q I h;refine wpAny_Call_method_late hbase hfew hline rfl (kY (ho pins s σ H _ I h) fun v s1 ⟨x,H1,I1,r1,⟨p,ys,ex,hp⟩,q1⟩=>?_);subst ex;obtain rfl:v=cO p:=r1;obtain⟨eG,rv,ob,ho,hc,n,hd,hdn⟩:=I1.tupleN hp;refine⟨"tuple","tuple.index",PySem.F.plainAttrs_tuple,WM,PySem.F.type_tuple_index,⟨ob,ho,hc⟩,fun a ea=>?_,?_⟩
 ·cases ea;exact⟨ob,ho,hdn⟩
 ·have hA:=ha cpos pins s1 σ H1 _ I1 q1;rw[hs]at hA ⊢;refine tT (by show(false || (jH cpos (bO [] X.env)).any (·.1))=false;rw[hplain]<;>rfl) (GF ?_);exact kY hA fun us s2 ⟨vs,H2,I2,r2,q2⟩=>Oo pins s2 σ H2 (.ref p) vs (.ref p) us Q I2 rfl r2 q2
end
section
variable {X:Cx} {e:Expr} {te:TE} {p p2 pos:Pos}
noncomputable def Yi (te:TE):TE:=fun σ H Q=>te σ H fun x H1=>(∃z,x=.str z/\Q (.bl true) H1)\/(∃i,x=.int i/\Q (.bl false) H1)
theorem Ut (K:aB):RN K (.type "str") (.type "str")=some true:=rfl
theorem Us (K:aB):RN K (.type "int") (.type "str")=some false:=by
 have:PySem.W.kitMeta "str"=true:=by decide+kernel
 show(if _ then _ else PySem.W.kitCls K (.type "int") (.type "str"))=_;rw[if_neg (by decide)];unfold PySem.W.kitCls;simp only[this,if_true];show(fastBuiltinMro "int").map (·.contains (.type "str"))=some false;decide+kernel
theorem Ga (he:PE X e te) (hg:Gl X "isinstance") (hm:X.mg "isinstance"=none) (hg2:Gl X "str") (hm2:X.mg "str"=none) (hs:bO [e,.Name "str" p2] X.env=[(false,hX e X.env),(false,hX (.Name "str" p2) X.env)]:=by rfl):
  PE X (.Call (.Name "isinstance" p) [e,.Name "str" p2] [] pos) (Yi te):=by
 intro pins s σ H Q I h;refine hZ (uG I hg hm boot_isinstance ?_ (by decide) (by decide));rw[hs];refine tT rfl (GF (JW (kY (he pins s σ H _ I h) fun u s1 ⟨x,H1,I1,r1,q1⟩=>?_)));refine JW (uG I1 hg2 hm2 WJ (Qe ?_) (by decide) (by decide));rcases q1 with⟨z,rfl,q⟩ | ⟨i,rfl,q⟩
 ·exact YR I1 r1 (.str z) (Ut _) fun tk=>⟨.bl true,H1,I1.tok _,rfl,q⟩
 ·exact YR I1 r1 (.int i) (Us _) fun tk=>⟨.bl false,H1,I1.tok _,rfl,q⟩
end
structure La (P:dF) (w:eW) (K:aB) (mg:Str->Option Value) (base:gF) (k:Nat) (C:aQ) (n:Str) (ps:List Str) (sp:Sp):Prop where
 ex:∃f fd,Il K C n f/\sY K fd ps []/\vU P w K mg base (WV P w) k f fd ps sp
section
variable {X:Cx} {k:Nat} {C:aQ} {m:Str} {ps:List Str} {sp:Sp} {pos apos:Pos} {o e:Expr} {es:List Expr} {ta:TE} {t:TA} {E:XK}
theorem sI (F:La X.prog X.w X.K X.mg X.base k C m ps sp) (c:Dk X.K C) (hr:jI k X.A) (p:mL X) (he:PE (X.wish (XW X E)) o ta) (ha:PA (X.wish (XW X E)) (e::es) t)
  (hst:bO (e::es) X.env=(false,hX e X.env)::bO es X.env:=by rfl) (hpl:(jH pos (bO es X.env)).any (·.1)=false:=by rfl)
  (ht:hX (.Call (.Attribute o m apos) (e::es) [] pos) X.env=(do
   let ov<-hX o X.env
   standAt apos.atName
   let (f,first)<-IG [ov] (OC ov m pl)
   WP pos f first (jH pos (bO (e::es) X.env)) (GH pos (uV [] X.env))):=by rfl):
  PE (X.wish (XW X E)) (.Call (.Attribute o m apos) (e::es) [] pos) (Mo C m sp [] E ta t):=by
 obtain⟨f,fd,hm,hb,F⟩:=F.ex;exact Vl (X:=X.wish (XW X E)) he c hm F hr hb .nil (ZH p) ha hst hpl ht
theorem mK (F:La X.prog X.w X.K X.mg X.base k C m ps sp) (c:Dk X.K C) (hr:jI k X.A) (p:mL X) (he:PE (X.wish (XW X E)) o ta)
  (ht:hX (.Call (.Attribute o m apos) [] [] pos) X.env=(do
   let ov<-hX o X.env
   standAt apos.atName
   let (f,first)<-IG [ov] (OC ov m pl)
   WP pos f first (jH pos (bO [] X.env)) (GH pos (uV [] X.env))):=by rfl):
  PE (X.wish (XW X E)) (.Call (.Attribute o m apos) [] [] pos) (Mo C m sp [] E ta Gv):=by
 obtain⟨f,fd,hm,hb,F⟩:=F.ex;exact Sv (X:=X.wish (XW X E)) he c hm F hr hb .nil (ZH p) ht
structure Wk (P:dF) (w:eW) (K:aB) (mg:Str->Option Value) (base:gF) (k:Nat) (C:aQ) (ps:List Str) (sp:Sp):Prop where
 ex:∃f fd,Mk K C f/\sY K fd ps []/\vU P w K mg base (WV P w) k f fd ps sp
theorem nX (F:Wk X.prog X.w X.K X.mg X.base k C ps sp) (hm:X.mg x=some (.ref C)) (hr:jI (k+1) X.A) (pl:mL X) (ha:PA (X.wish (XW X E)) (e::es) t) (hg:Gl X x:=by rfl)
  (hdb:(x == ("__debug__":Str))=false:=by decide) (he:bO (e::es) X.env=(false,hX e X.env)::bO es X.env:=by rfl) (hpl:(jH pos (bO es X.env)).any (·.1)=false:=by rfl):
  PE (X.wish (XW X E)) (.Call (.Name x p) (e::es) [] pos) (Ab C sp [] E t):=by
 obtain⟨f,fd,M,hb,F⟩:=F.ex;exact Mb (X:=X.wish (XW X E)) M F hr hg hm hb .nil (ZH pl) ha hdb he hpl
theorem Vm (F:Wk X.prog X.w X.K X.mg X.base k C ps sp) (hm:X.mg x=some (.ref C)) (hr:jI (k+1) X.A) (pl:mL X) (hg:Gl X x:=by rfl) (hdb:(x == ("__debug__":Str))=false:=by decide):
  PE (X.wish (XW X E)) (.Call (.Name x p) [] [] pos) (Ab C sp [] E Gv):=by
 obtain⟨f,fd,M,hb,F⟩:=F.ex;exact Su (X:=X.wish (XW X E)) M F hr hg hm hb .nil (ZH pl) hdb
end
theorem Uk {z:Str} {g:TG} {tb:TS} {D:IL} {σ:St} {H:Hp} (Pv:Nat->St->Hp->Prop) (h0:Pv 0 σ H)
  (hs:∀i c σ H,z.cps[i]?=some c->Pv i σ H->g (.str ⟨#[c]⟩) σ H fun σ2 H2=>tb {D with nx:=Pv (i+1),ct:=Pv (i+1),bk:=D.nx} σ2 H2) (hd:∀σ H,Pv z.cps.size σ H->D.nx σ H):
  ∃W:Nat->Nat->St->Hp->Prop,(∃m,W 0 m σ H)/\∀i m σ H,W i m σ H->
   ((Wj z).stop i H/\D.nx σ H)\/((Wj z).go i H/\∃N:St->Hp->Prop,(∀σ' H',N σ' H'->∃m',m' < m/\W (i+1) m' σ' H')/\∀x H',(Wj z).yld i H x H'->g x σ H' fun σ2 H2=>tb {D with nx:=N,ct:=N,bk:=D.nx} σ2 H2):=by
 refine⟨fun i m σ H=>m=z.cps.size - i/\i<=z.cps.size/\Pv i σ H,⟨z.cps.size,by simp,aY _,h0⟩,?_⟩;rintro i m σ H ⟨rfl,hi,p⟩;by_cases hlt:i < z.cps.size
 ·refine .inr ⟨hlt,Pv (i+1),fun σ' H' p'=>⟨z.cps.size - (i+1),by omega,rfl,hlt,p'⟩,fun x H' y=>?_⟩;obtain⟨e,c,hc,ex⟩:=y;subst e ex;exact hs i c σ _ hc p
 ·have e:i=z.cps.size:=by omega
  subst e;exact .inl ⟨aR _,hd σ H p⟩
noncomputable def Ng (K:aB) (as:List aQ):It:=⟨fun i H=>∃(xss:List (List V)) (ys:List V),hU (fK K H) as xss/\hU (fun(xs:List V) y=>xs[i]?=some y) xss ys,fun i H v H'=>∃T ys,v=.ref T/\H T=none/\H'=upd H T (.tup ys)/\∀xss,hU (fK K H) as xss->hU (fun(xs:List V) y=>xs[i]?=some y) xss ys,fun i H=>∃xss:List (List V),hU (fK K H) as xss/\∃xs∈xss,xs.length<=i⟩
theorem Tv (I:dH X pins σ H s):∀{as:List aQ} {xss yss:List (List V)},hU (fK X.K H) as xss->hU (fK X.K H) as yss->yss=xss
 | _,_,_,.nil,.nil=>rfl
 | _,_,_,.cons a b,.cons c d=>by rw[Tv I b d,I.tuple_inj a c]
theorem Tw {X:Cx} {pins:List (aQ×Obj)} {σ:St} {H:Hp} {s:aV} (I:dH X pins σ H s) {ps:List (aQ×aQ)} {xss:List (List V)} (h:hU (fK X.K H) (ps.map (·.2)) xss):∀p∈ps,s.heap.IsTuple p.2 (ZN.cont s.heap p.2):=by
 induction ps generalizing xss with
 | nil=>intro p hp;cases hp
 | cons q ps ih=>
  cases h with
  | cons a b=>
   intro p hp;rcases aS.mp hp with rfl | hp
   ·obtain⟨is,r,t,_⟩:=I.tuple a;rw[ZN.Bb t];exact t
   ·exact ih b p hp
theorem Wh {X:Cx} {pins:List (aQ×Obj)} {σ:St} {H:Hp} {s:aV} (I:dH X pins σ H s) {i:Nat} {ps:List (aQ×aQ)} {xss:List (List V)} {ys:List V} (h:hU (fK X.K H) (ps.map (·.2)) xss) (g:hU (fun(xs:List V) y=>xs[i]?=some y) xss ys):
  gB ys (ps.map (ZN.Lr (ZN.cont s.heap) i))/\∀p∈ps,∃x,(ZN.cont s.heap p.2)[i]?=some x:=by
 induction ps generalizing xss ys with
 | nil=>cases h;cases g;exact⟨.nil,fun p hp=>by cases hp⟩
 | cons q ps ih=>
  cases h with
  | cons a b=>
   cases g with
   | cons c d=>
    obtain⟨v,m⟩:=ih b d;obtain⟨is,r,t,_⟩:=I.tuple a;obtain⟨u,hu,ru⟩:=r.get c;have e:(ZN.cont s.heap q.2)[i]?=some u:=by rw[ZN.Bb t];simpa using hu
    refine⟨.cons ?_ v,fun p hp=>?_⟩
    ·unfold ZN.Lr;rw[e];exact ru
    ·rcases aS.mp hp with rfl | hp
     ·exact⟨u,e⟩
     ·exact m p hp
theorem Wg {X:Cx} {pins:List (aQ×Obj)} {σ:St} {H:Hp} {s:aV} (I:dH X pins σ H s) {i:Nat} {ps:List (aQ×aQ)} {xss:List (List V)} (h:hU (fK X.K H) (ps.map (·.2)) xss):(∃xs∈xss,xs.length<=i)->∃p∈ps,(ZN.cont s.heap p.2)[i]?=none:=by
 induction ps generalizing xss with
 | nil=>cases h;rintro⟨xs,hx,_⟩;cases hx
 | cons q ps ih=>
  cases h with
  | cons a b=>
   rintro⟨xs,hx,hl⟩;rcases aS.mp hx with rfl | hx
   ·obtain⟨is,r,t,_⟩:=I.tuple a;have:=r.length;exact⟨q,aM,by rw[ZN.Bb t];simp;lia⟩
   ·obtain⟨p,hp,e⟩:=ih b ⟨xs,hx,hl⟩;exact⟨p,aL _ hp,e⟩
theorem Mq {P:dF} {w:eW} {K:aB} {elts:List Expr} {kk:Nat} {tpos:Pos} {z TI TO:aQ} {ps:List (aQ×aQ)} (D:ZN.Ky z TI TO ps) (hl:ps.length<=100) (hne:ps≠[]):
  WZ P w K (.Tuple elts kk tpos) (Ng K (ps.map (·.2))) (z::TI::TO::ZN.eG ps) z (fun i h=>ZN.Ok h z TI TO ps i) where
 mem:=aM
 obj:=fun i h st c hc=>by
  obtain⟨ys,_,hto⟩:=st.to
  rcases aS.mp hc with rfl | hc
  ·exact⟨_,st.zip,fun v q=>nomatch q⟩
  rcases aS.mp hc with rfl | hc
  ·exact⟨_,st.ti,fun v q=>nomatch q⟩
  rcases aS.mp hc with rfl | hc
  ·exact⟨_,hto,fun v q=>nomatch q⟩
  obtain⟨p,hp,rfl⟩:=aX.mp hc
  obtain⟨o,ho,_,d⟩:=st.it p hp
  exact⟨o,ho,fun v q=>by rw[d]at q;cases q⟩
 keep:=fun i h h' st k=>by
  obtain⟨ys,yl,hto⟩:=st.to
  refine⟨k _ (by simp) _ st.zip,k _ (by simp) _ st.ti,⟨ys,yl,k _ (by simp) _ hto⟩,fun p hp=>?_⟩
  obtain⟨o,ho,r⟩:=st.it p hp
  exact⟨o,k _ (by simp;exact .inr (.inr (.inr ⟨_,hp⟩))) _ ho,r⟩
 item:=by
  intro X hP hw hK hc i pins s σ H E I hf st hg
  subst hP hw hK
  obtain⟨xss,ys,hx,hy⟩:=hg
  obtain⟨hv,hall⟩:=Wh I hx hy
  have hT:s.TypeIs (.ref z) "zip":=⟨_,st.zip,rfl⟩
  have hzl:z < s.heap.objs.size:=bY st.zip
  unfold DI
  refine aF (wpAny_attempt (lC (name:=kD "__next__") hT GP (sL GP hT F.entry_zip_next
   (ZN.next (I.ok.hd hc) D st hl hne (xs:=ZN.cont s.heap) (Tw I hx) (fun _ h1 z1 to1 it1 t1 sz1 k1=>aZ ⟨_,rfl,?_⟩) fun⟨p,hp,e⟩=>?_) (F.args_zip_next_1 _))))
  rotate_left
  ·obtain⟨x,e'⟩:=hall p hp
   rw[e]at e';cases e'
  refine wpAny_letOwnedTupleGo_zip (s:={s with heap:=h1}) z1 fun h2 z2 sb=>?_
  have yl:ys.length=ps.length:=by rw[hv.length,aJ]
  have t2:ZN.Tu h2 s.heap.objs.size (ps.map (ZN.Lr (ZN.cont s.heap) i)):=(sb.2 _ (DC hzl)).trans t1
  have new:lF X.prog X.w (upd H s.heap.objs.size (.tup ys)) h2 s.heap.objs.size (.tup ys):=⟨bI (by lia:ys.length<=100) (by decide),_,hv,⟨_,t2,rfl,_,rfl,rfl⟩⟩
  have k2:∀c o,c∉z::TI::TO::ZN.eG ps->s.heap.get? c=some o->h2.get? c=some o:=fun c o hc e=>(sb.2 c (fun q=>hc (by rw[q];simp))).trans (k1 c o (fun q=>hc (by simp only[aS]at q ⊢;rcases q with q | q | q;exact .inl q;exact .inr (.inr (.inl q));exact .inr (.inr (.inr q)))) e)
  have nd:=D.nd
  rw[dZ,dZ,dZ]at nd
  obtain⟨n1,n2,n3,n4⟩:=nd
  have I1:dH X pins σ (upd H s.heap.objs.size (.tup ys)) {s with heap:=h2}:=I.turnedNew (t':=s.toks) (ch:=z::TI::TO::ZN.eG ps) k2 hf (aR _) new
  refine⟨.ref s.heap.objs.size,_,I1,rfl,⟨_,ys,rfl,I.hok.fresh (aR _),rfl,fun l h'=>by rw[Tv I hx h'];exact hy⟩,⟨z2,?_,⟨ps.map (ZN.Lr (ZN.cont s.heap) i),aJ _,?_⟩,fun p hp=>?_⟩,fun c hcm=>?_⟩
  ·refine(sb.2 _ (fun q=>n1 (by rw[<-q];simp))).trans (k1 _ _ (fun q=>?_) st.ti)
   rcases aS.mp q with q | q
   ·exact n1 (by rw[<-q];simp)
   ·exact n2 q
  ·exact(sb.2 _ (fun q=>n1 (by rw[<-q];simp))).trans to1
  ·obtain⟨o,ho,r⟩:=it1 p hp
   exact⟨o,(sb.2 _ (fun q=>n1 (by rw[<-q];simp;exact .inr (.inr ⟨_,hp⟩)))).trans ho,r⟩
  ·have hlt:c < s.heap.objs.size:=by
    obtain⟨ys',_,hto⟩:=st.to
    rcases aS.mp hcm with rfl | hcm
    ·exact hzl
    rcases aS.mp hcm with rfl | hcm
    ·exact bY st.ti
    rcases aS.mp hcm with rfl | hcm
    ·exact bY hto
    obtain⟨p,hp,rfl⟩:=aX.mp hcm
    obtain⟨o,ho,_⟩:=st.it p hp
    exact bY ho
   rw[bL (eK hlt)]
   exact(hf c hcm).1
 done:=by
  intro X hP hw hK hc i pins s σ H E I hf st hg
  subst hP hw hK
  obtain⟨xss,hx,hy⟩:=hg
  obtain⟨p0,hp0,e0⟩:=Wg I hx hy
  have hT:s.TypeIs (.ref z) "zip":=⟨_,st.zip,rfl⟩
  unfold DI
  refine aF (wpAny_attempt (lC (name:=kD "__next__") hT GP (sL GP hT F.entry_zip_next
   (ZN.next (I.ok.hd hc) D st hl hne (xs:=ZN.cont s.heap) (Tw I hx) (fun hall=>?_) fun _ h1 e k1 he=>?_) (F.args_zip_next_1 _))))
  ·obtain⟨x,e'⟩:=hall p0 hp0
   rw[e0]at e';cases e'
  ·obtain⟨o,ho,hco⟩:=he
   refine aF (wpAny_isInstance (T:="StopIteration") (b:=true) ⟨o,ho,hco⟩ isSubtype_stop (aZ ⟨rfl,I.turnedL (t':=s.toks) (ch:=z::TI::TO::ZN.eG ps) (fun c o hc e=>k1 c o (fun q=>hc ?_) e) hf⟩))
   simp only[aS]at q ⊢
   rcases q with q | q | q
   ·exact .inl q
   ·exact .inr (.inr (.inl q))
   ·exact .inr (.inr (.inr q))
 self:=fun A i s Q E st h=>As st.zip h
noncomputable abbrev Ik (K:aB) (a b:aQ):It:=Ng K [a,b]
noncomputable def A6 (K:aB) (ta:TA):TI:=fun σ H R=>ta σ H fun vs H1=>∃a b xs ys,vs=[.ref a,.ref b]/\fK K H1 a xs/\fK K H1 b ys/\R (Ik K a b) H1
noncomputable def A0 (K:aB) (ta:TA):TI:=fun σ H R=>ta σ H fun vs H1=>∃a b c xs ys zs,vs=[.ref a,.ref b,.ref c]/\fK K H1 a xs/\fK K H1 b ys/\fK K H1 c zs/\R (Ng K [a,b,c]) H1
section
variable {X:Cx} {e e2 e3:Expr} {ta:TA} {p pos tpos:Pos} {elts:List Expr} {kk:Nat}
theorem Cm (hg:Gl X "zip") (hm:X.mg "zip"=none) (ha:PA X [e,e2] ta) (hs:bO [e,e2] X.env=(false,hX e X.env)::bO [e2] X.env:=by rfl) (hpl:(jH pos (bO [e2] X.env)).any (·.1)=false:=by rfl):
  PI X (.Tuple elts kk tpos) (.Call (.Name "zip" p) [e,e2] [] pos) (A6 X.K ta):=by
 intro pins s σ H R I h;refine Qb (uG I hg hm YG (fW (kY (ha pos pins s σ H _ I h) fun us s1 ⟨vs,H1,I1,r1,a,b,xs,ys,ex,q1,q2,q⟩=>?_) hs hpl));subst ex;cases r1 with
 | cons r rr=>
 cases rr with
 | cons r' rr=>
 cases rr;cases r;cases r';obtain⟨i1,_,p1,_⟩:=I1.tuple q1;obtain⟨i2,_,p2,_⟩:=I1.tuple q2;have la:a < s1.heap.objs.size:=p1.lt;have lb:b < s1.heap.objs.size:=p2.lt;refine ZN.Zm p1 p2 fun h' ok hk=>As ok.zip ⟨_,_,_,_,H1,rfl,I1.kept (t':=s1.toks) hk,Mq (ZN.Xe _ _ _ la lb) (Ko rfl) (by intro q;cases q),ok,fun c hcm=>I1.fpOk (ZN.G2 hcm) (I1.hok.fresh (ZN.G2 hcm)),q⟩
theorem Vo (hg:Gl X "zip") (hm:X.mg "zip"=none) (ha:PA X [e,e2,e3] ta) (hs:bO [e,e2,e3] X.env=(false,hX e X.env)::bO [e2,e3] X.env:=by rfl) (hpl:(jH pos (bO [e2,e3] X.env)).any (·.1)=false:=by rfl):
  PI X (.Tuple elts kk tpos) (.Call (.Name "zip" p) [e,e2,e3] [] pos) (A0 X.K ta):=by
 intro pins s σ H R I h;refine Qb (uG I hg hm YG (fW (kY (ha pos pins s σ H _ I h) fun us s1 ⟨vs,H1,I1,r1,a,b,c,xs,ys,zs,ex,q1,q2,q3,q⟩=>?_) hs hpl));subst ex;cases r1 with
 | cons r rr=>
 cases rr with
 | cons r' rr=>
 cases rr with
 | cons r'' rr=>
 cases rr;cases r;cases r';cases r'';obtain⟨i1,_,p1,_⟩:=I1.tuple q1;obtain⟨i2,_,p2,_⟩:=I1.tuple q2;obtain⟨i3,_,p3,_⟩:=I1.tuple q3;have la:a < s1.heap.objs.size:=p1.lt;have lb:b < s1.heap.objs.size:=p2.lt;have lc:c < s1.heap.objs.size:=p3.lt;refine ZN.Zn p1 p2 p3 fun h' ok hk=>As ok.zip ⟨_,_,_,_,H1,rfl,I1.kept (t':=s1.toks) hk,Mq (ZN.Xf _ _ _ _ la lb lc) (Ko rfl) (by intro q;cases q),ok,fun c hcm=>I1.fpOk (ZN.G3 hcm) (I1.hok.fresh (ZN.G3 hcm)),q⟩
end
theorem Xs {z:Str} {g:TG} {tt:TT} {te:TE} {vs:List Nat} {σ:St} {H1:Hp} {D:aQ} {Qd:Hp->Prop} (Pv:Nat->Hp->Prop) (h0:Pv 0 (upd H1 D (.lst [])))
  (hs:∀i c H,z.cps[i]?=some c->Pv i H->g (.str ⟨#[c]⟩) (nJ σ vs) H fun σ2 H2=>nJ σ2 vs=nJ σ vs/\tt σ2 H2 fun b H3=>if b=true then te σ2 H3 fun y H4=>∃acc,H4 D=some (.lst acc)/\acc.length < aU/\Pv (i+1) (upd H4 D (.lst (acc++[y])))else Pv (i+1) H3) (hd:∀H,Pv z.cps.size H->Qd H):
  ∃W:Nat->Nat->Hp->Prop,(∃m,W 0 m (upd H1 D (.lst [])))/\∀i m H,W i m H->
   ((Wj z).stop i H/\Qd H)\/((Wj z).go i H/\∃Nx:Hp->Prop,(∀H',Nx H'->∃m',m' < m/\W (i+1) m' H')/\∀x H',(Wj z).yld i H x H'->g x (nJ σ vs) H' fun σ2 H2=>nJ σ2 vs=nJ σ vs/\tt σ2 H2 fun b H3=>if b=true then te σ2 H3 fun y H4=>∃acc,H4 D=some (.lst acc)/\acc.length < aU/\Nx (upd H4 D (.lst (acc++[y])))else Nx H3):=by
 refine⟨fun i m H=>m=z.cps.size - i/\i<=z.cps.size/\Pv i H,⟨z.cps.size,by simp,aY _,h0⟩,?_⟩;rintro i m H ⟨rfl,hi,p⟩;by_cases hlt:i < z.cps.size
 ·refine .inr ⟨hlt,Pv (i+1),fun H' p'=>⟨z.cps.size - (i+1),by lia,rfl,hlt,p'⟩,fun x H' y=>?_⟩;obtain⟨e,c,hc,ex⟩:=y;subst e ex;exact hs i c _ hc p
 ·have e:i=z.cps.size:=by lia
  subst e;exact .inl ⟨aR _,hd H p⟩
theorem Kh {i:Nat} {xs ys:List V} {zs:List V} (h:hU (fun(xs:List V) y=>xs[i]?=some y) [xs,ys] zs):∃x y,zs=[x,y]/\xs[i]?=some x/\ys[i]?=some y:=by
 cases h with
 | cons a r=>
  cases r with
  | cons b r=>cases r;exact⟨_,_,rfl,a,b⟩
theorem To {i:Nat} {xs ys ws:List V} {zs:List V} (h:hU (fun(xs:List V) y=>xs[i]?=some y) [xs,ys,ws] zs):∃x y u,zs=[x,y,u]/\xs[i]?=some x/\ys[i]?=some y/\ws[i]?=some u:=by
 cases h with
 | cons a r=>obtain⟨x,y,rfl,b,c⟩:=Kh r;exact⟨_,x,y,rfl,a,b,c⟩
theorem Rq {K:aB} {a b c:aQ} {xs ys ws:List V} {g:TG} {tb:TS} {D:IL} {σ:St} {H:Hp} (hlen:xs.length=ys.length) (hlen2:xs.length=ws.length) (Pv:Nat->St->Hp->Prop) (h0:Pv 0 σ H) (hl:∀i σ H,i<=xs.length->Pv i σ H->fK K H a xs/\fK K H b ys/\fK K H c ws)
  (hs:∀i x y u T σ H,xs[i]?=some x->ys[i]?=some y->ws[i]?=some u->H T=none->Pv i σ H->g (.ref T) σ (upd H T (.tup [x,y,u])) fun σ2 H2=>tb {D with nx:=Pv (i+1),ct:=Pv (i+1),bk:=D.nx} σ2 H2) (hd:∀σ H,Pv xs.length σ H->D.nx σ H):
  ∃W:Nat->Nat->St->Hp->Prop,(∃m,W 0 m σ H)/\∀i m σ H,W i m σ H->
   ((Ng K [a,b,c]).stop i H/\D.nx σ H)\/((Ng K [a,b,c]).go i H/\∃N:St->Hp->Prop,(∀σ' H',N σ' H'->∃m',m' < m/\W (i+1) m' σ' H')/\∀x H',(Ng K [a,b,c]).yld i H x H'->g x σ H' fun σ2 H2=>tb {D with nx:=N,ct:=N,bk:=D.nx} σ2 H2):=by
 refine⟨fun i m σ H=>m=xs.length - i/\i<=xs.length/\Pv i σ H,⟨xs.length,by simp,aY _,h0⟩,?_⟩;rintro i m σ H ⟨rfl,hi,p⟩;obtain⟨q1,q2,q3⟩:=hl i σ H hi p;by_cases hlt:i < xs.length
 ·refine .inr ⟨⟨[xs,ys,ws],[xs[i],ys[i],ws[i]],.cons q1 (.cons q2 (.cons q3 .nil)),.cons (bD hlt) (.cons (bD (by lia)) (.cons (bD (by lia)) .nil))⟩,Pv (i+1),fun σ' H' p'=>⟨xs.length - (i+1),by lia,rfl,hlt,p'⟩,fun v H' y=>?_⟩;obtain⟨T,zs,rfl,hT,rfl,k⟩:=y;obtain⟨x,y,u,rfl,k1,k2,k3⟩:=To (k _ (.cons q1 (.cons q2 (.cons q3 .nil))));exact hs i x y u T σ H k1 k2 k3 hT p
 ·have e:i=xs.length:=by lia
  subst e;exact .inl ⟨⟨[xs,ys,ws],.cons q1 (.cons q2 (.cons q3 .nil)),xs,aM,aR _⟩,hd σ H p⟩
theorem Ep {K:aB} {a b:aQ} {xs ys:List V} {g:TG} {tb:TS} {D:IL} {σ:St} {H:Hp} (hlen:xs.length=ys.length) (Pv:Nat->St->Hp->Prop) (h0:Pv 0 σ H) (hl:∀i σ H,i<=xs.length->Pv i σ H->fK K H a xs/\fK K H b ys)
  (hs:∀i x y T σ H,xs[i]?=some x->ys[i]?=some y->H T=none->Pv i σ H->g (.ref T) σ (upd H T (.tup [x,y])) fun σ2 H2=>tb {D with nx:=Pv (i+1),ct:=Pv (i+1),bk:=D.nx} σ2 H2) (hd:∀σ H,Pv xs.length σ H->D.nx σ H):
  ∃W:Nat->Nat->St->Hp->Prop,(∃m,W 0 m σ H)/\∀i m σ H,W i m σ H->
   ((Ik K a b).stop i H/\D.nx σ H)\/((Ik K a b).go i H/\∃N:St->Hp->Prop,(∀σ' H',N σ' H'->∃m',m' < m/\W (i+1) m' σ' H')/\∀x H',(Ik K a b).yld i H x H'->g x σ H' fun σ2 H2=>tb {D with nx:=N,ct:=N,bk:=D.nx} σ2 H2):=by
 refine⟨fun i m σ H=>m=xs.length - i/\i<=xs.length/\Pv i σ H,⟨xs.length,by simp,aY _,h0⟩,?_⟩;rintro i m σ H ⟨rfl,hi,p⟩;obtain⟨q1,q2⟩:=hl i σ H hi p;by_cases hlt:i < xs.length
 ·refine .inr ⟨⟨[xs,ys],[xs[i],ys[i]],.cons q1 (.cons q2 .nil),.cons (bD hlt) (.cons (bD (by lia)) .nil)⟩,Pv (i+1),fun σ' H' p'=>⟨xs.length - (i+1),by lia,rfl,hlt,p'⟩,fun v H' y=>?_⟩;obtain⟨T,zs,rfl,hT,rfl,k⟩:=y;obtain⟨x,y,rfl,k1,k2⟩:=Kh (k _ (.cons q1 (.cons q2 .nil)));exact hs i x y T σ H k1 k2 hT p
 ·have e:i=xs.length:=by lia
  subst e;exact .inl ⟨⟨[xs,ys],.cons q1 (.cons q2 .nil),xs,aM,aR _⟩,hd σ H p⟩
theorem Uv {K:aB} {a b:aQ} {xs ys:List V} {g:TG} {tt:TT} {te:TE} {vs:List Nat} {σ:St} {H1:Hp} {D:aQ} {Qd:Hp->Prop} (hlen:xs.length=ys.length) (Pv:Nat->Hp->Prop) (h0:Pv 0 (upd H1 D (.lst []))) (hl:∀i H,i<=xs.length->Pv i H->fK K H a xs/\fK K H b ys)
  (hs:∀i x y T H,xs[i]?=some x->ys[i]?=some y->H T=none->Pv i H->g (.ref T) (nJ σ vs) (upd H T (.tup [x,y])) fun σ2 H2=>nJ σ2 vs=nJ σ vs/\tt σ2 H2 fun b H3=>if b=true then te σ2 H3 fun y H4=>∃acc,H4 D=some (.lst acc)/\acc.length < aU/\Pv (i+1) (upd H4 D (.lst (acc++[y])))else Pv (i+1) H3) (hd:∀H,Pv xs.length H->Qd H):
  ∃W:Nat->Nat->Hp->Prop,(∃m,W 0 m (upd H1 D (.lst [])))/\∀i m H,W i m H->
   ((Ik K a b).stop i H/\Qd H)\/((Ik K a b).go i H/\∃Nx:Hp->Prop,(∀H',Nx H'->∃m',m' < m/\W (i+1) m' H')/\∀x H',(Ik K a b).yld i H x H'->g x (nJ σ vs) H' fun σ2 H2=>nJ σ2 vs=nJ σ vs/\tt σ2 H2 fun b H3=>if b=true then te σ2 H3 fun y H4=>∃acc,H4 D=some (.lst acc)/\acc.length < aU/\Nx (upd H4 D (.lst (acc++[y])))else Nx H3):=by
 refine⟨fun i m H=>m=xs.length - i/\i<=xs.length/\Pv i H,⟨xs.length,by simp,aY _,h0⟩,?_⟩;rintro i m H ⟨rfl,hi,p⟩;obtain⟨q1,q2⟩:=hl i H hi p;by_cases hlt:i < xs.length
 ·refine .inr ⟨⟨[xs,ys],[xs[i],ys[i]],.cons q1 (.cons q2 .nil),.cons (bD hlt) (.cons (bD (by lia)) .nil)⟩,Pv (i+1),fun H' p'=>⟨xs.length - (i+1),by lia,rfl,hlt,p'⟩,fun v H' y=>?_⟩;obtain⟨T,zs,rfl,hT,rfl,k⟩:=y;obtain⟨x,y,rfl,k1,k2⟩:=Kh (k _ (.cons q1 (.cons q2 .nil)));exact hs i x y T H k1 k2 hT p
 ·have e:i=xs.length:=by lia
  subst e;exact .inl ⟨⟨[xs,ys],.cons q1 (.cons q2 .nil),xs,aM,aR _⟩,hd H p⟩
theorem Eo {K:aB} {a:aQ} {xs:List V} {g:TG} {tb:TS} {D:IL} {σ:St} {H:Hp} (Pv:Nat->St->Hp->Prop) (h0:Pv 0 σ H) (hl:∀i σ H,i<=xs.length->Pv i σ H->hJ K H a xs)
  (hs:∀i x T σ H,xs[i]?=some x->H T=none->Pv i σ H->g (.ref T) σ (upd H T (.tup [.int (i:Nat),x])) fun σ2 H2=>tb {D with nx:=Pv (i+1),ct:=Pv (i+1),bk:=D.nx} σ2 H2) (hd:∀σ H,Pv xs.length σ H->D.nx σ H):
  ∃W:Nat->Nat->St->Hp->Prop,(∃m,W 0 m σ H)/\∀i m σ H,W i m σ H->
   ((Zc K a).stop i H/\D.nx σ H)\/((Zc K a).go i H/\∃N:St->Hp->Prop,(∀σ' H',N σ' H'->∃m',m' < m/\W (i+1) m' σ' H')/\∀x H',(Zc K a).yld i H x H'->g x σ H' fun σ2 H2=>tb {D with nx:=N,ct:=N,bk:=D.nx} σ2 H2):=by
 refine⟨fun i m σ H=>m=xs.length - i/\i<=xs.length/\Pv i σ H,⟨xs.length,by simp,aY _,h0⟩,?_⟩;rintro i m σ H ⟨rfl,hi,p⟩;have q:=hl i σ H hi p;by_cases hlt:i < xs.length
 ·refine .inr ⟨⟨xs,xs[i],q,by simp[hlt]⟩,Pv (i+1),fun σ' H' p'=>⟨xs.length - (i+1),by lia,rfl,hlt,p'⟩,fun v H' y=>?_⟩;obtain⟨T,x,rfl,hT,rfl,k1⟩:=y;exact hs i x T σ H (k1 xs q) hT p
 ·have e:i=xs.length:=by lia
  subst e;exact .inl ⟨⟨xs,q,aR _⟩,hd σ H p⟩
inductive DM (w:eW):List Al->List (CS×V)->Prop
 | nil:DM w [] []
 | cons {e:Al} {k:CS} {v:V} {es:List Al} {kvs:List (CS×V)}:TN k e.key=true->e.hash=A7 w k->gN v e.val->DM w es kvs->DM w (e::es) ((k,v)::kvs)
theorem DM.keys (h:DM w es kvs):∀e∈es,∃k,(lW P w).is k e.key=true/\e.hash=(lW P w).hash k:=by
 induction h with
 | nil=>intro e he;cases he
 | cons h1 h2 h3 _ ih=>
  intro e he;rcases aS.mp he with rfl | he
  ·exact⟨_,h1,h2⟩
  ·exact ih e he
theorem DM.pairs (h:DM w es kvs):∃vs,KV kvs vs/\Pairs (lW P w) es vs/\vs.map (·.1)=kvs.map (·.1):=by
 induction h with
 | nil=>exact⟨[],.nil,.nil,rfl⟩
 | @cons e k v es kvs h1 h2 h3 _ ih=>obtain⟨vs,a,b,c⟩:=ih;exact⟨(k,e.val)::vs,.cons ⟨rfl,h3⟩ a,.cons h1 rfl b,by rw[aP,aP,c]⟩
theorem KZ {P:dF} {w:eW} {K:aB} {a:aQ} {o:Obj} {es:Array Al} {ep:Nat} {kvs:List (CS×V)} (hl:K.lookup a=some o) (hx:o.ExactDict) (hd:o.data=.dict es ep) (he:DM w es.toList kvs) (hn:(kvs.map (·.1)).Nodup) (nm:(a == pF)=false):xW P w K a kvs:=by refine⟨nm,fun h X=>?_⟩;obtain⟨vs,h1,h2,h3⟩:=he.pairs (P:=P);refine⟨vs,h1,o,es,ep,X _ _ hl,hx,hd,fun e hm=>he.keys (P:=P) e (by simpa using hm),h2,by rw[h3];exact hn⟩
theorem Bo {K:aB} {a:aQ} {o:Obj} {eG:Array Value} {n:Nat} {xs:List V} (hl:K.lookup a=some o) (hc:o.cls=.type "tuple"/\o.dict=none) (hd:o.data=.seq eG n) (hz:eG.size<=aU) (hv:gB xs eG.toList) (H:Hp):fK K H a xs:=.inr ⟨o,eG,n,hl,hc,hd,hz,hv⟩
noncomputable def gV (ns:List Int):Nat->Nat
 | 0=>0
 | j+1=>if ns.getD (j+1) 0 < ns.getD (gV ns j) 0 then j+1 else gV ns j
theorem IV (ns:List Int):∀j,gV ns j<=j
 | 0=>aR _
 | j+1=>by unfold gV;have:=IV ns j;split<;>lia
structure OE (X:Cx) (k:Nat) (f:aQ) (H:Hp) (xs:List V) (ns:List Int):Prop where
 ex:∃fd ps sp,sY X.K fd ps []/\vU X.prog X.w X.K X.mg X.base (WV X.prog X.w) k f fd ps sp/\∀i v,xs[i]?=some v->∀(Q:VK) (E:XK),Q (.int (ns.getD i 0)) H->sp [v] H Q E
section
variable {X:Cx} {pins:List (aQ×Obj)} {σ:St} {H:Hp} {k:Nat} {f l:aQ} {xs:List V} {ns:List Int} {kw:List (Str×Value)}
theorem Ev (F:OE X k f H xs ns) (hr:jI (k+1) X.A) (I:dH X pins σ H s) (hv:xs[i]?=some v) (ru:gN v u):
  bJ (cC X.prog X.w) X.A.in1 (call (.ref f) [u]) (fun r s'=>(∃t,r=.int (ns.getD i 0) t)/\dH X pins σ H s') E s:=by
 obtain⟨fd,ps,sp,hb,F,hs⟩:=F.ex;have h:=hs i v hv (fun y H'=>y=.int (ns.getD i 0)/\H'=H) (fun _ _ _=>False) ⟨rfl,rfl⟩;have hl:[u].length=ps.length:=F.len _ _ _ _ h;have hb':WK s fd ⟨[u],[]⟩ (ps.zip [u]):=by
  have:=hb s [u] I.kIn (by rw[cI];exact hl)
  rwa [cI]at this
 have e0:=I.env0;refine RP (zL (F.run X.A.in1 X.stack s H ⟨[u],[]⟩ [u] [v] _ _ hr.in1 ⟨e0.frames,e0.mod,e0.bs,e0.bsz,e0.funs,e0.frf,e0.hok,e0.bare⟩ hb' (.cons ru .nil) h) fun r s' hq=>?_);cases r with
 | error e=>obtain⟨_,_,_,_,_,_,_,_,_,_,_,_,z⟩:=hq;exact eN z
 | ok fl=>
  cases fl with
  | ret w=>obtain⟨y,H',I',ry,e1,e2⟩:=I.after hq;subst e1 e2;exact⟨ry,I'⟩
  | next=>exact eN hq
  | brk=>exact eN hq
  | cont=>exact eN hq
noncomputable abbrev Tq (a b:Value) (c:Nat):Obj:={cls:=.type "list",dict:=none,data:=.seq #[a,b] c,slots:=#[]}
theorem Sh {R:Result->aV->Prop} {It S:aQ} (hc:X.calm=true) (F:OE X k f H xs ns) (hr:jI (k+1) X.A) (hq:hJ X.K H l xs)
  (hR:∀s' u,dH X pins σ H s'->(∀v,xs[gV ns (xs.length - 1)]?=some v->gN v u)->R (.ok (.ret u)) s') (fI:DN X pins H It) (fS:DN X pins H S) (hIS:It≠S):
  ∀(r j:Nat) (s:aV) (ub:Value) (tb:Tok) (c:Nat),xs.length - (j+1)=r->j+1<=xs.length->dH X pins σ H s->s.heap.IsListIter It l (j+1)->(∀v,xs[gV ns j]?=some v->gN v ub)->
   s.heap.get? S=some (Tq ub (.int (ns.getD (gV ns j) 0) tb) c)->vT (cC X.prog X.w) X.A (.builtin "min.loop" ⟨[.ref It,.ref f,.ref S],kw⟩) R s:=by
 have nm:(iQ "min"++iQ ".loop":String)="min.loop":=by decide
 intro r;induction r with
 | zero=>
  intro j s ub tb c hr0 hj I hit hub hS;obtain⟨us,rv,hl,_⟩:=I.list hq;have hl':s.heap.IsList l us.toArray:=let ⟨o,n,ho,hcl,_,hd⟩:=hl;⟨o,ho,hcl,n,hd⟩;have hlI:l≠It:=fun z=>by obtain⟨o,ho,c1,_⟩:=hl';obtain⟨o',ho',c2,_⟩:=hit;rw[z,ho']at ho;cases ho;rw[c2]at c1;exact absurd (rY c1) (by decide)
  have W:=KA (prog:=X.prog) (w:=X.w) (A:=X.A.in1) (I.ok.hd hc) It l hlI us.toArray;have hsz:us.toArray.size=xs.length:=by rw[bN,rv.length]
  refine pU sS ?_;rw[kC fP _];show bJ _ X.A.in1 (AK (.ref S) >>= _) _ _ s;refine aF (iO hS rfl ?_);show bJ _ X.A.in1 (vQ (DI (.ref It)) _ >>= _) _ _ s;refine aF (iP (W.done s _ _ ⟨by rw[hsz,show xs.length=j+1 by lia];exact hit,hl'⟩ fun h1 tk keep=>?_));have hS1:=keep S _ (by simpa using hIS.symm) hS;show bJ _ X.A.in1 (Ar S (fun _=>#[]) >>= _) _ _ _;refine aF ?_;refine pW hS1 rfl (aF (rK (aZ ?_)));have e:xs.length - 1=j:=by lia
  refine hR _ ub ?_ (by rw[e];exact hub);have I1:dH X pins σ H {s with heap:=h1,toks:=tk}:=I.turnedL (t':=tk) (ch:=[It]) (fun b o hb e=>keep b o hb e) (fun b hb=>by obtain rfl:=bU.mp hb;exact fI);exact I1.turnedL (t':=tk) (ch:=[S]) (fun b o hb e=>(eA _ _ (fun z=>hb (by rw[<-z];simp))).trans e) (fun b hb=>by obtain rfl:=bU.mp hb;exact fS)
 | succ r ih=>
  intro j s ub tb c hr0 hj I hit hub hS;have hlt:j+1 < xs.length:=by lia
  obtain⟨us,rv,hl,_⟩:=I.list hq;have hl':s.heap.IsList l us.toArray:=let ⟨o,n,ho,hcl,_,hd⟩:=hl;⟨o,ho,hcl,n,hd⟩;have hlI:l≠It:=fun z=>by obtain⟨o,ho,c1,_⟩:=hl';obtain⟨o',ho',c2,_⟩:=hit;rw[z,ho']at ho;cases ho;rw[c2]at c1;exact absurd (rY c1) (by decide)
  have W:=KA (prog:=X.prog) (w:=X.w) (A:=X.A.in1) (I.ok.hd hc) It l hlI us.toArray;have hsz:us.toArray.size=xs.length:=by rw[bN,rv.length]
  refine pU sS ?_;rw[kC fP _];show bJ _ X.A.in1 (AK (.ref S) >>= _) _ _ s;refine aF (iO hS rfl ?_);show bJ _ X.A.in1 (vQ (DI (.ref It)) _ >>= _) _ _ s;refine aF (iP (W.item (j+1) s _ _ (by rw[hsz];exact hlt) ⟨hit,hl'⟩ fun u h1 tk hP st1 keep=>?_));have hu:us[j+1]?=some u:=by simpa using hP
  have hxv:xs[j+1]?=some xs[j+1]:=bD hlt;obtain⟨u',hu',ru⟩:=rv.get hxv;rw[hu]at hu';cases hu';have hS1:=keep S _ (by simpa using hIS.symm) hS;have I1:dH X pins σ H {s with heap:=h1,toks:=tk}:=I.turnedL (t':=tk) (ch:=[It]) (fun b o hb e=>keep b o hb e) (fun b hb=>by obtain rfl:=bU.mp hb;exact fI);obtain⟨oI,hoI,hoc,hod⟩:=id st1.1;have Ip:=I1.pinned (fp:=[It,S]) (fun b hb=>by
   rcases aS.mp hb with rfl | hb
   ·exact fI
   ·obtain rfl:=bU.mp hb;exact fS) (fun b hb=>by
   rcases aS.mp hb with rfl | hb
   ·exact⟨oI,hoI,fun v z=>by rw[hod]at z;cases z⟩
   ·obtain rfl:=bU.mp hb;exact⟨_,hS1,fun v z=>nomatch z⟩)
  show bJ _ X.A.in1 (vQ (IG [u] (call (.ref f) [u])) _ >>= _) _ _ _;refine aF (iP (iN (fZ (Ev F hr Ip hxv ru) (fun y s2 he=>?_) fun _ _ z=>z)));obtain⟨⟨t2,rfl⟩,Iq⟩:=he;have hI2:s2.heap.get? It=some oI:=(Iq.pin (It,oI) (cT _ (cT _ (rQ (by simp) hoI)))).1;have hS2:s2.heap.get? S=some (Tq ub (.int (ns.getD (gV ns j) 0) tb) c):=(Iq.pin (S,_) (cT _ (cT _ (rQ (by simp) hS1)))).1;have I2:=Iq.unpinned;have hit2:s2.heap.IsListIter It l (j+1+1):=⟨oI,hI2,hoc,hod⟩;show bJ _ X.A.in1 (vQ (IG [u,.int (ns.getD (j+1) 0) t2] (richCompare .Lt (.int (ns.getD (j+1) 0) t2) (.int (ns.getD (gV ns j) 0) tb) >>= _)) _ >>= _) _ _ _;refine aF (iP (iN (aF (CmpOf.ints_lt (prog:=X.prog) (w:=X.w) (A:=X.A.in1) (P:=fun i v=>∃t,v=.int (ns.getD i 0) t) (fun i=>ns.getD i 0) (fun i v h=>h) (j+1) (gV ns j) _ _ _ _ _ ⟨t2,rfl⟩ ⟨tb,rfl⟩ ?_))));refine aF (iN (nH ?_));refine aF (rK (aZ ?_));by_cases hlt2:ns.getD (j+1) 0 < ns.getD (gV ns j) 0
  ·have el:gV ns (j+1)=j+1:=by unfold gV;rw[if_pos hlt2]
   simp only[hlt2,decide_true,if_true];refine aF ?_;refine pW hS2 rfl (aF (rK ?_));rw[nm];refine aZ ⟨nP fP _,ih (j+1) _ u t2 _ (by lia) hlt ?_ ⟨oI,(eA _ _ hIS.symm).trans hI2,hoc,hod⟩ (by rw[el,hxv];rintro v ⟨⟩;exact ru) (by rw[el];exact jO _ hS2 rfl)⟩;exact I2.turnedL (t':=s2.toks) (ch:=[S]) (fun b o hb e=>(eA _ _ (fun z=>hb (by rw[<-z];simp))).trans e) (fun b hb=>by obtain rfl:=bU.mp hb;exact fS)
  ·have el:gV ns (j+1)=gV ns j:=by rw[gV,if_neg hlt2]
   simp only[hlt2,decide_false,fR,if_false];refine aF (rK ?_);rw[nm];exact aZ ⟨nP fP _,ih (j+1) _ ub tb c (by lia) hlt I2 hit2 (by rw[el];exact hub) (by rw[el];exact hS2)⟩
theorem YX {R:Result->aV->Prop} {It S:aQ} {s:aV} {c:Nat} (hc:X.calm=true) (F:OE X k f H xs ns) (hr:jI (k+1) X.A) (hq:hJ X.K H l xs) (hne:0 < xs.length)
  (hR:∀s' u,dH X pins σ H s'->(∀v,xs[gV ns (xs.length - 1)]?=some v->gN v u)->R (.ok (.ret u)) s') (fI:DN X pins H It) (fS:DN X pins H S) (hIS:It≠S)
  (I:dH X pins σ H s) (hit:s.heap.IsListIter It l 0) (hS:s.heap.get? S=some {cls:=.type "list",dict:=none,data:=.seq #[] c,slots:=#[]}):vT (cC X.prog X.w) X.A (.builtin "min.loop" ⟨[.ref It,.ref f,.ref S],kw⟩) R s:=by
 have nm:(iQ "min"++iQ ".loop":String)="min.loop":=by decide
 obtain⟨us,rv,hl,_⟩:=I.list hq;have hl':s.heap.IsList l us.toArray:=let ⟨o,n,ho,hcl,_,hd⟩:=hl;⟨o,ho,hcl,n,hd⟩;have hlI:l≠It:=fun z=>by obtain⟨o,ho,c1,_⟩:=hl';obtain⟨o',ho',c2,_⟩:=hit;rw[z,ho']at ho;cases ho;rw[c2]at c1;exact absurd (rY c1) (by decide)
 have W:=KA (prog:=X.prog) (w:=X.w) (A:=X.A.in1) (I.ok.hd hc) It l hlI us.toArray;have hsz:us.toArray.size=xs.length:=by rw[bN,rv.length]
 refine pU sS ?_;rw[kC fP _];show bJ _ X.A.in1 (AK (.ref S) >>= _) _ _ s;refine aF (iO hS rfl ?_);show bJ _ X.A.in1 (vQ (DI (.ref It)) _ >>= _) _ _ s;refine aF (iP (W.item 0 s _ _ (by rw[hsz];exact hne) ⟨hit,hl'⟩ fun u h1 tk hP st1 keep=>?_));have hu:us[0]?=some u:=by simpa using hP
 have hxv:xs[0]?=some xs[0]:=bD hne;obtain⟨u',hu',ru⟩:=rv.get hxv;rw[hu]at hu';cases hu';have hS1:=keep S _ (by simpa using hIS.symm) hS;have I1:dH X pins σ H {s with heap:=h1,toks:=tk}:=I.turnedL (t':=tk) (ch:=[It]) (fun b o hb e=>keep b o hb e) (fun b hb=>by obtain rfl:=bU.mp hb;exact fI);obtain⟨oI,hoI,hoc,hod⟩:=id st1.1;have Ip:=I1.pinned (fp:=[It,S]) (fun b hb=>by
  rcases aS.mp hb with rfl | hb
  ·exact fI
  ·obtain rfl:=bU.mp hb;exact fS) (fun b hb=>by
  rcases aS.mp hb with rfl | hb
  ·exact⟨oI,hoI,fun v z=>by rw[hod]at z;cases z⟩
  ·obtain rfl:=bU.mp hb;exact⟨_,hS1,fun v z=>nomatch z⟩)
 show bJ _ X.A.in1 (vQ (IG [u] (call (.ref f) [u])) _ >>= _) _ _ _;refine aF (iP (iN (fZ (Ev F hr Ip hxv ru) (fun y s2 he=>?_) fun _ _ z=>z)));obtain⟨⟨t2,rfl⟩,Iq⟩:=he;have hI2:s2.heap.get? It=some oI:=(Iq.pin (It,oI) (cT _ (cT _ (rQ (by simp) hoI)))).1;have hS2:s2.heap.get? S=some {cls:=.type "list",dict:=none,data:=.seq #[] c,slots:=#[]}:=(Iq.pin (S,_) (cT _ (cT _ (rQ (by simp) hS1)))).1;have I2:=Iq.unpinned;show bJ _ X.A.in1 (Ar S (fun _=>#[u,.int (ns.getD 0 0) t2]) >>= _) _ _ _;refine aF ?_;refine pW hS2 rfl ?_;rw[nm];refine aZ ⟨nP fP _,Sh hc F hr hq hR fI fS hIS _ 0 _ u t2 _ rfl hne ?_ ⟨oI,(eA _ _ hIS.symm).trans hI2,hoc,hod⟩ (by show ∀v,xs[0]?=some v->_;rw[hxv];rintro v ⟨⟩;exact ru) (jO _ hS2 rfl)⟩;exact I2.turnedL (t':=s2.toks) (ch:=[S]) (fun b o hb e=>(eA _ _ (fun z=>hb (by rw[<-z];simp))).trans e) (fun b hb=>by obtain rfl:=bU.mp hb;exact fS)
theorem Sg {R:Result->aV->Prop} {It S:aQ} {s:aV} {c:Nat} {d:Value} (hc:X.calm=true) (hq:hJ X.K H l xs) (hne:xs.length=0)
  (hR:∀s',dH X pins σ H s'->R (.ok (.ret d)) s') (fI:DN X pins H It)
  (I:dH X pins σ H s) (hit:s.heap.IsListIter It l 0) (hS:s.heap.get? S=some {cls:=.type "list",dict:=none,data:=.seq #[] c,slots:=#[]}):vT (cC X.prog X.w) X.A (.builtin "min.loop" ⟨[.ref It,.ref f,.ref S],[("default",d)]⟩) R s:=by
 obtain⟨us,rv,hl,_⟩:=I.list hq;have hl':s.heap.IsList l us.toArray:=let ⟨o,n,ho,hcl,_,hd⟩:=hl;⟨o,ho,hcl,n,hd⟩;have hlI:l≠It:=fun z=>by obtain⟨o,ho,c1,_⟩:=hl';obtain⟨o',ho',c2,_⟩:=hit;rw[z,ho']at ho;cases ho;rw[c2]at c1;exact absurd (rY c1) (by decide)
 have W:=KA (prog:=X.prog) (w:=X.w) (A:=X.A.in1) (I.ok.hd hc) It l hlI us.toArray;have hsz:us.toArray.size=0:=by rw[bN,<-rv.length];exact hne
 refine pU sS ?_;rw[kC fP _];show bJ _ X.A.in1 (AK (.ref S) >>= _) _ _ s;refine aF (iO hS rfl ?_);show bJ _ X.A.in1 (vQ (DI (.ref It)) _ >>= _) _ _ s;refine aF (iP (W.done s _ _ ⟨by rw[hsz];exact hit,hl'⟩ fun h1 tk keep=>?_));show bJ _ X.A.in1 (rule _ >>= _) _ _ _;exact aF (Ib (aZ (hR _ (I.turnedL (t':=tk) (ch:=[It]) (fun b o hb e=>keep b o hb e) (fun b hb=>by obtain rfl:=bU.mp hb;exact fI)))))
end
theorem Nm (a v:Value):DF "min" ⟨[a],[("key",v)]⟩:=by unfold DF;kernel_rfl
theorem Is (a v d:Value):DF "min" ⟨[a],[("key",v),("default",d)]⟩:=by unfold DF;kernel_rfl
section
variable {X:Cx} {pins:List (aQ×Obj)} {σ:St} {H:Hp} {s:aV} {k:Nat} {f l:aQ} {xs:List V} {ns:List Int} {Q:VK} {E:Value->aV->Prop}
theorem Nu (hc:X.calm=true) (F:OE X k f H xs ns) (hr:jI (k+1) X.A) (hq:hJ X.K H l xs) (hne:0 < xs.length) (I:dH X pins σ H s) (h:∀v,xs[gV ns (xs.length - 1)]?=some v->Q v H):
  bJ (cC X.prog X.w) X.A (call (.builtin "min") [.ref l] [("key",.ref f)]) (EP X pins σ Q) E s:=by
 have nm:(iQ "min"++iQ ".loop":String)="min.loop":=by decide
 obtain⟨us,rv,hl,_⟩:=I.list hq;have hl':s.heap.IsList l us.toArray:=let ⟨o,n,ho,hcl,_,hd⟩:=hl;⟨o,ho,hcl,n,hd⟩;refine Cy Mx Ks Kr (Nm _ _) ?_;show bJ _ X.A.in1 (iA "min" ["key","default"] 0 ⟨[],[("key",.ref f)]⟩ >>= _) _ _ s;refine aF (Dj (show iA "min" ["key","default"] 0 ⟨[],[("key",.ref f)]⟩=pure [some (.ref f),none]from rfl) ?_);refine aF (aZ (aF (WR hl' (aF (wpAny_newList ?_ (aY _))))));rw[nm];have sz:(s.heap.push {cls:=.type "list_iterator",data:=.fields #[.ref l,.int 0 0]}).objs.size=s.heap.objs.size+1:=cF ..;have I1:dH X pins σ H {s with heap:=(s.heap.push {cls:=.type "list_iterator",data:=.fields #[.ref l,.int 0 0]}).push {cls:=.type "list",dict:=none,data:=.seq #[] 0,slots:=#[]}}:=I.kept (t':=s.toks) fun b u e=>aG _ (aG _ e);have l1:s.heap.objs.size<=s.heap.objs.size:=aR _;have l2:s.heap.objs.size<=(s.heap.push {cls:=.type "list_iterator",data:=.fields #[.ref l,.int 0 0]}).objs.size:=by rw[sz];exact wB _
 refine aZ ⟨nP fP _,YX hc F hr hq hne (fun s' u I' hv=>?_) (I.fpOk l1 (I.hok.fresh l1)) (I.fpOk l2 (I.hok.fresh l2)) (by rw[sz];exact eK (lI _)) I1 ⟨_,aG _ (bQ _ rfl),rfl,rfl⟩ (bQ _ rfl)⟩;have hi:gV ns (xs.length - 1) < xs.length:=gS (IV _ _) (by lia);exact⟨_,H,I',hv _ (bD hi),h _ (bD hi)⟩
theorem Iw {d:Value} {dv:V} (hc:X.calm=true) (F:OE X k f H xs ns) (hr:jI (k+1) X.A) (hq:hJ X.K H l xs) (I:dH X pins σ H s) (rd:gN dv d) (h0:xs.length=0->Q dv H) (h:∀v,xs[gV ns (xs.length - 1)]?=some v->Q v H):
  bJ (cC X.prog X.w) X.A (call (.builtin "min") [.ref l] [("key",.ref f),("default",d)]) (EP X pins σ Q) E s:=by
 have nm:(iQ "min"++iQ ".loop":String)="min.loop":=by decide
 obtain⟨us,rv,hl,_⟩:=I.list hq;have hl':s.heap.IsList l us.toArray:=let ⟨o,n,ho,hcl,_,hd⟩:=hl;⟨o,ho,hcl,n,hd⟩;refine Cy Mx Ks Kr (Is _ _ _) ?_;show bJ _ X.A.in1 (iA "min" ["key","default"] 0 ⟨[],[("key",.ref f),("default",d)]⟩ >>= _) _ _ s;refine aF (Dj (show iA "min" ["key","default"] 0 ⟨[],[("key",.ref f),("default",d)]⟩=pure [some (.ref f),some d]from rfl) ?_);refine aF (aZ (aF (WR hl' (aF (wpAny_newList ?_ (aY _))))));rw[nm];have sz:(s.heap.push {cls:=.type "list_iterator",data:=.fields #[.ref l,.int 0 0]}).objs.size=s.heap.objs.size+1:=cF ..;have I1:dH X pins σ H {s with heap:=(s.heap.push {cls:=.type "list_iterator",data:=.fields #[.ref l,.int 0 0]}).push {cls:=.type "list",dict:=none,data:=.seq #[] 0,slots:=#[]}}:=I.kept (t':=s.toks) fun b u e=>aG _ (aG _ e);have l1:s.heap.objs.size<=s.heap.objs.size:=aR _;have l2:s.heap.objs.size<=(s.heap.push {cls:=.type "list_iterator",data:=.fields #[.ref l,.int 0 0]}).objs.size:=by rw[sz];exact wB _
 refine aZ ⟨nP fP _,?_⟩;by_cases hz:xs.length=0
 ·exact Sg hc hq hz (fun s' I'=>⟨dv,H,I',rd,h0 hz⟩) (I.fpOk l1 (I.hok.fresh l1)) I1 ⟨_,aG _ (bQ _ rfl),rfl,rfl⟩ (bQ _ rfl)
 ·have hi:gV ns (xs.length - 1) < xs.length:=gS (IV _ _) (by lia);exact YX hc F hr hq (by lia) (fun s' u I' hv=>⟨_,H,I',hv _ (bD hi),h _ (bD hi)⟩) (I.fpOk l1 (I.hok.fresh l1)) (I.fpOk l2 (I.hok.fresh l2)) (by rw[sz];exact eK (lI _)) I1 ⟨_,aG _ (bQ _ rfl),rfl,rfl⟩ (bQ _ rfl)
end
section
variable {X:Cx} {k:Nat} {e ek ed:Expr} {te tk td:TE} {p kp kp2 pos:Pos}
theorem Mc (hr:jI (k+1) X.A) (hc:X.calm=true) (he:PE X e te) (hk:PE X ek tk) (hm:X.mg "min"=none) (hg:Gl X "min":=by rfl) (hs:bO [e] X.env=[(false,hX e X.env)]:=by rfl):
  PE X (.Call (.Name "min" p) [e] [⟨some "key",ek,kp⟩] pos) (fun σ H Q=>te σ H fun x H1=>tk σ H1 fun y H2=>∃l f xs ns,x=.ref l/\y=.ref f/\hJ X.K H2 l xs/\OE X k f H2 xs ns/\0 < xs.length/\∀v,xs[gV ns (xs.length - 1)]?=some v->Q v H2):=by
 intro pins s σ H Q I h;refine hZ (uG I hg hm boot_min ?_);refine callWith_kw ?_ (by rw[hs];rfl) (by rw[hs];rfl);refine spliced_more (kY (he pins s σ H _ I h) fun u s1 ⟨x,H1,I1,r1,q1⟩=>spliced_none ?_) hs;refine kws_cons (kY (hk pins s1 σ H1 _ I1 q1) fun u2 s2 ⟨y,H2,I2,r2,l,f,xs,ns,ex,ey,hq,F,hne,q⟩=>kws_nil ?_);subst ex ey;obtain rfl:u=cO l:=r1;obtain rfl:u2=cO f:=r2;exact Nu hc F hr hq hne I2 q
theorem Sw (hr:jI (k+1) X.A) (hc:X.calm=true) (he:PE X e te) (hk:PE X ek tk) (hd:PE X ed td) (hm:X.mg "min"=none) (hg:Gl X "min":=by rfl) (hs:bO [e] X.env=[(false,hX e X.env)]:=by rfl):
  PE X (.Call (.Name "min" p) [e] [⟨some "key",ek,kp⟩,⟨some "default",ed,kp2⟩] pos) (fun σ H Q=>te σ H fun x H1=>tk σ H1 fun y H2=>td σ H2 fun z H3=>∃l f xs ns,x=.ref l/\y=.ref f/\hJ X.K H3 l xs/\OE X k f H3 xs ns/\(xs.length=0->Q z H3)/\∀v,xs[gV ns (xs.length - 1)]?=some v->Q v H3):=by
 intro pins s σ H Q I h;refine hZ (uG I hg hm boot_min ?_);refine callWith_kw ?_ (by rw[hs];rfl) (by rw[hs];rfl);refine spliced_more (kY (he pins s σ H _ I h) fun u s1 ⟨x,H1,I1,r1,q1⟩=>spliced_none ?_) hs;refine kws_cons (kY (hk pins s1 σ H1 _ I1 q1) fun u2 s2 ⟨y,H2,I2,r2,q2⟩=>kws_cons (kY (hd pins s2 σ H2 _ I2 q2) fun u3 s3 ⟨z,H3,I3,r3,l,f,xs,ns,ex,ey,hq,F,h0,q⟩=>kws_nil ?_));subst ex ey;obtain rfl:u=cO l:=r1;obtain rfl:u2=cO f:=r2;exact Iw hc F hr hq I3 r3 h0 q
end
section
variable {X:Cx} {k:Nat} {C:aQ} {ps:List Str} {sp:Sp} {x:Str} {p pos:Pos} {e:Expr} {es:List Expr} {t:TA}
theorem Vn (F:Wk X.prog X.w X.K X.mg X.base k C ps sp) (hm:X.mg x=some (.ref C)) (hr:jI (k+1) X.A) (ha:PA X (e::es) t) (hg:Gl X x:=by rfl)
  (hdb:(x == ("__debug__":Str))=false:=by decide) (he:bO (e::es) X.env=(false,hX e X.env)::bO es X.env:=by rfl) (hpl:(jH pos (bO es X.env)).any (·.1)=false:=by rfl):
  PE X (.Call (.Name x p) (e::es) [] pos) (Ab C sp [] E0 t):=by
 obtain⟨f,fd,M,hb,F⟩:=F.ex;exact Mb M F hr hg hm hb .nil So ha hdb he hpl
end
theorem dH.forget (I:dH X pins (σ.set i (some v)) H s) (h:σ[i]?=some none):dH X pins σ H s:=
 ⟨I.ok,I.os,I.bare,I.base,(let ⟨m,hn,hl⟩:=I.loc
  ⟨m,hn,fun j x v' e1 e2 e3=>hl j x v' e1 (by rw[vX (fun z=>by rw[<-z,h]at e2;cases e2)];exact e2) e3⟩),I.cell,I.free,I.freeC,I.pin,I.hok,by rw[<-I.len,List.length_set]⟩
theorem Gg {X:Cx} {e:Expr} {i:Nat} {y:Str} {te:XK->TE} {tr:XK->TS} {pos' rpos:Pos} {rest:List wS} (hN:X.N.Nodup) (hi:X.N[i]?=some y) (hx:Xa X.env.scope y) (he:Ys X e te) (hr:Yt X rest tr) (hs:wT e (some (.Name y pos')) rpos.line X.env=pure false:=by rfl)
  (hf:X.fn y=true\/X.env.scope.names.lookup y=some .local:=by first | exact .inl rfl | exact .inr rfl | assumption):
  Yt X (.Assign [.Name y pos'] e rpos::rest) (fun E D σ H=>te E σ H fun v H1=>σ[i]?=some none/\tr E D (σ.set i (some v)) H1):=by
 intro pins s σ H D E I h;refine wU (WQ (kY (he pins s σ H _ E I h) fun v s1 ⟨z,H1,I1,r1,e0,q1⟩=>?_) hs);exact EV I1 hN hi hx r1 (fun s2 I2=>fZ (hr pins s2 _ H1 D E I2 q1) (fun _ _ z=>z) fun v s' ⟨H',e',C,a1,F,c⟩=>⟨H',e',C,a1,⟨F.1.forget e0,F.2⟩,c⟩) hf
noncomputable def K7 (K:aB) (tb:XK->TS) (th:aQ->TS):TS:=fun D σ H=>tb (fun v _ H'=>∃C,v=.ref C/\yW K C=true/\th C D σ H') D σ H
theorem Mf (p:mL X) (hb:Yt X body tb) (hh:PH X (h0::hs) th):PS X (.Try body (h0::hs) [] [] pos) (K7 X.K tb th):=Jz p hb hh
end L2
end
section
namespace VM
open Vatwva
open Vatwvc (Edit Path changeAt doneAt pathIn onList onRecord putAt takeAt moveAt hasField placeOf turned turnedAll applyFrom applyAll rowOn Found Move Plan cheaper andThen plan better lastRow nextRow editsOfPlan diffFrom wordsOfEdit editFrom editOf editsOf isEdit isStep)
theorem gL:∀r:Row,rowOf (entries r)=r
 | .nil=>rfl
 | .text n t r=>by show Row.text n t (rowOf (entries r))=_;rw[gL r]
 | .num n z r=>by show Row.num n z (rowOf (entries r))=_;rw[gL r]
 | .sub n l k r=>by show Row.sub n l k (rowOf (entries r))=_;rw[gL r]
def mQ (v:Value):Prop:=entries v=[([],v)]
theorem mQ.cases (h:mQ v):(∃t,v=vText t)\/(∃z,v=vNum z)\/(∃k,v=vRec k)\/(∃k,v=vList k):=by
 unfold mQ at h;cases v with
 | nil=>simp[entries]at h
 | text n t r=>simp only[entries,dE,GO]at h;obtain⟨⟨rfl,e⟩,_⟩:=h;exact .inl ⟨t,e.symm⟩
 | num n z r=>simp only[entries,dE,GO]at h;obtain⟨⟨rfl,e⟩,_⟩:=h;exact .inr (.inl ⟨z,e.symm⟩)
 | sub n l k r=>
  simp only[entries,dE,GO]at h;obtain⟨⟨rfl,e⟩,_⟩:=h;cases l
  ·exact .inr (.inr (.inl ⟨k,e.symm⟩))
  ·exact .inr (.inr (.inr ⟨k,e.symm⟩))
theorem qZ (t:bW):mQ (vText t):=rfl
theorem Vg (z:Int):mQ (vNum z):=rfl
theorem qA (l:List (Name×Value)):mQ (recordOf l):=rfl
theorem uK (l:List Value):mQ (listOf l):=rfl
theorem sC:∀(r:Row),∀x∈entries r,mQ x.2
 | .nil,x,h=>by simp[entries]at h
 | .text n t r,x,h=>by
  rcases aS.mp h with rfl | h
  ·rfl
  ·exact sC r x h
 | .num n z r,x,h=>by
  rcases aS.mp h with rfl | h
  ·rfl
  ·exact sC r x h
 | .sub n l k r,x,h=>by
  rcases aS.mp h with rfl | h
  ·rfl
  ·exact sC r x h
theorem XC (n:Name) (r:Row) (h:mQ v):entries (entry n v r)=(n,v)::entries r:=by rcases h.cases with⟨t,rfl⟩ | ⟨z,rfl⟩ | ⟨k,rfl⟩ | ⟨k,rfl⟩<;>rfl
theorem fH:∀(l:List (Name×Value)),(∀x∈l,mQ x.2)->entries (rowOf l)=l
 | [],_=>rfl
 | (n,v)::l,h=>by show entries (entry n v (rowOf l))=_;rw[XC n _ (h _ aM),fH l (fun x hx=>h x (aL _ hx))]
theorem oR (h:∀x∈l,mQ x.2):kidsOf (recordOf l)=l:=fH l h
theorem Ew (h:∀x∈l,mQ x):kidsOf (listOf l)=l.map fun v=>([],v):=by refine fH _ fun x hx=>?_;obtain⟨v,hv,rfl⟩:=aX.mp hx;exact h v hv
theorem lS (h:∀x∈l,mQ x):itemsOf (listOf l)=l:=by unfold itemsOf;rw[Ew h,cQ];show l.map (fun x=>x)=l;exact List.map_id' l
theorem mW:∀x∈kidsOf v,mQ x.2:=by
 cases v with
 | nil=>intro x h;simp[kidsOf]at h
 | text n t r=>intro x h;simp[kidsOf]at h
 | num n z r=>intro x h;simp[kidsOf]at h
 | sub n l k r=>exact sC k
theorem lN:∀x∈itemsOf v,mQ x:=by intro x h;obtain⟨y,hy,rfl⟩:=aX.mp h;exact mW y hy
theorem fX (h:mQ v) (hr:isRecord v=true):recordOf (kidsOf v)=v:=by
 rcases h.cases with⟨t,rfl⟩ | ⟨z,rfl⟩ | ⟨k,rfl⟩ | ⟨k,rfl⟩
 ·cases hr
 ·cases hr
 ·show vRec (rowOf (entries k))=vRec k;rw[gL]
 ·cases hr
theorem iK (h:mQ v) (hr:isList v=true) (hn:∀x∈kidsOf v,x.1=[]):listOf (itemsOf v)=v:=by
 rcases h.cases with⟨t,rfl⟩ | ⟨z,rfl⟩ | ⟨k,rfl⟩ | ⟨k,rfl⟩
 ·cases hr
 ·cases hr
 ·cases hr
 ·show vList (rowOf (((entries k).map fun x=>x.2).map fun v=>([],v)))=vList k;rw[cQ];have e:(entries k).map ((fun v=>(([]:Name),v))∘fun x=>x.2)=entries k:=by
   conv=>rhs;rw[<-oB (entries k)]
   refine eQ fun x hx=>?_;have:=hn x hx;obtain⟨n,v⟩:=x;simp only at this;subst this;rfl
  rw[e,gL]
noncomputable def pX:List Nat->Nat
 | []=>0
 | a::l=>max a (pX l)
theorem OO (l m:List Nat):pX (l++m)=max (pX l) (pX m):=by
 induction l with
 | nil=>simp[pX]
 | cons a l ih=>show max a (pX (l++m))=max (max a (pX l)) (pX m);rw[ih,Nat.max_assoc]
theorem pY:pX l<=n↔∀x∈l,x<=n:=by
 induction l with
 | nil=>simp[pX]
 | cons a l ih=>simp[pX,Nat.max_le,ih]
theorem FJ (h:mQ v):1<=count v:=by rcases h.cases with⟨t,rfl⟩ | ⟨z,rfl⟩ | ⟨k,rfl⟩ | ⟨k,rfl⟩<;>simp only[vText,vNum,vRec,vList,count]<;>lia
theorem qU (h:mQ v):1<=deep v:=by rcases h.cases with⟨t,rfl⟩ | ⟨z,rfl⟩ | ⟨k,rfl⟩ | ⟨k,rfl⟩<;>simp only[vText,vNum,vRec,vList,deep]<;>lia
theorem kU:∀r:Row,count r=((entries r).map fun x=>count x.2).sum
 | .nil=>rfl
 | .text n t r=>by show 1+count r=(count (vText t)::(entries r).map _).sum;rw[dW,<-kU r];rfl
 | .num n z r=>by show 1+count r=(count (vNum z)::(entries r).map _).sum;rw[dW,<-kU r];rfl
 | .sub n l k r=>by
  show 1+count k+count r=(count (.sub [] l k .nil)::(entries r).map _).sum;rw[dW,<-kU r];show _=1+count k+0+count r
  lia
theorem jQ:∀r:Row,deep r=pX ((entries r).map fun x=>deep x.2)
 | .nil=>rfl
 | .text n t r=>by show max 1 (deep r)=max (deep (vText t)) (pX _);rw[<-jQ r];rfl
 | .num n z r=>by show max 1 (deep r)=max (deep (vNum z)) (pX _);rw[<-jQ r];rfl
 | .sub n l k r=>by show max (deep k+1) (deep r)=max (deep (.sub [] l k .nil)) (pX _);rw[<-jQ r];show _=max (max (deep k+1) 0) (deep r);rw[qS]
theorem mS (h:∀x∈l,mQ x.2):count (recordOf l)=1+(l.map fun x=>count x.2).sum:=by show 1+count (rowOf l)+0=_;rw[kU,fH l h];rfl
theorem mG (h:∀x∈l,mQ x.2):deep (recordOf l)=pX (l.map fun x=>deep x.2)+1:=by show max (deep (rowOf l)+1) 0=_;rw[jQ,fH l h,qS]
theorem sH {l:List Value} (h:∀x∈l,mQ x):∀x∈l.map (fun v=>(([]:Name),v)),mQ x.2:=by intro x hx;obtain⟨v,hv,rfl⟩:=aX.mp hx;exact h v hv
theorem lP {l:List Value} (h:∀x∈l,mQ x):count (listOf l)=1+(l.map count).sum:=by show 1+count (rowOf _)+0=_;rw[kU,fH _ (sH h),cQ];rfl
theorem lQ {l:List Value} (h:∀x∈l,mQ x):deep (listOf l)=pX (l.map deep)+1:=by show max (deep (rowOf _)+1) 0=_;rw[jQ,fH _ (sH h),cQ,qS];rfl
noncomputable def ok (W:Nat) (named:Bool):Row->Bool
 | .nil=>true
 | .text n t r=>(if named=true then isName n else n.isEmpty) && (isText t && ok W named r)
 | .num n z r=>(if named=true then isName n else n.isEmpty) && (decide (z.natAbs<=GREATEST) && ok W named r)
 | .sub n l k r=>(if named=true then isName n else n.isEmpty) && (decide ((entries k).length<=W) && ((l || distinct ((entries k).map fun x=>x.1)) && (ok W (!l) k && ok W named r)))
theorem EC:∀(r:Row) (named:Bool),isRow named r=ok mP named r
 | .nil,_=>rfl
 | .text n t r,b=>by simp only[isRow,ok,EC r]
 | .num n z r,b=>by simp only[isRow,ok,EC r]
 | .sub n l k r,b=>by simp only[isRow,ok,EC r,EC k]
theorem qW:∀(r:Row) (named:Bool),yT named r=ok (2 * mP) named r
 | .nil,_=>rfl
 | .text n t r,b=>by simp only[yT,ok,qW r]
 | .num n z r,b=>by simp only[yT,ok,qW r]
 | .sub n l k r,b=>by simp only[yT,ok,qW r,qW k]
theorem JC:∀(r:Row) (named:Bool),ok W named r=true↔∀x∈entries r,(if named=true then isName x.1 else x.1.isEmpty)=true/\ok W false x.2=true
 | .nil,_=>by simp[ok,entries]
 | .text n t r,b=>by simp[ok,entries,vText,JC r b,and_assoc]
 | .num n z r,b=>by simp[ok,entries,vNum,JC r b,and_assoc]
 | .sub n l k r,b=>by simp[ok,entries,JC r b,and_assoc]
def eI (W:Nat) (v:Value):Prop:=mQ v/\ok W false v=true
theorem Lo (h1:(entries v).length=1) (h2:ok W false v=true):eI W v:=by
 refine⟨?_,h2⟩;cases v with
 | nil=>simp[entries]at h1
 | text n t r=>
  simp only[ok,fR,if_false,aE,vP]at h2;simp only[entries,aK,RL,iW]at h1;have:r=.nil:=by rw[<-gL r,h1];rfl
  rw[h2.1,this];rfl
 | num n z r=>
  simp only[ok,fR,if_false,aE,vP]at h2;simp only[entries,aK,RL,iW]at h1;have:r=.nil:=by rw[<-gL r,h1];rfl
  rw[h2.1,this];rfl
 | sub n l k r=>
  simp only[ok,fR,if_false,aE,vP]at h2;simp only[entries,aK,RL,iW]at h1;have:r=.nil:=by rw[<-gL r,h1];rfl
  rw[h2.1,this];rfl
theorem eI.len (h:eI W v):(entries v).length=1:=by rw[show entries v=[([],v)]from h.1];rfl
theorem FP:eI W (vText t)↔isText t=true:=⟨fun h=>by simpa [ok,vText] using h.2,fun h=>⟨qZ t,by simpa [ok,vText] using h⟩⟩
theorem KW:eI W (vNum z)↔z.natAbs<=GREATEST:=⟨fun h=>by simpa [ok,vNum] using h.2,fun h=>⟨Vg z,by simpa [ok,vNum] using h⟩⟩
theorem zW (h:∀x∈l,mQ x.2):eI W (recordOf l)↔l.length<=W/\distinct (l.map fun x=>x.1)=true/\∀x∈l,isName x.1=true/\eI W x.2:=by
 unfold eI;have e:ok W false (recordOf l)=(decide (l.length<=W) && (distinct (l.map fun x=>x.1) && ok W true (rowOf l))):=by show(([]:Name).isEmpty && (decide ((entries (rowOf l)).length<=W) && ((false || distinct ((entries (rowOf l)).map fun x=>x.1)) && (ok W true (rowOf l) && true))))=_;rw[fH l h];simp
 rw[e];simp only[qA,aE,decide_eq_true_eq,true_and];rw[JC,fH l h];simp only[if_true];constructor
 ·rintro⟨a,b,c⟩;exact⟨a,b,fun x hx=>⟨(c x hx).1,h x hx,(c x hx).2⟩⟩
 ·rintro⟨a,b,c⟩;exact⟨a,b,fun x hx=>⟨(c x hx).1,(c x hx).2.2⟩⟩
theorem sE {W:Nat} {l:List Value} (h:∀x∈l,mQ x):eI W (listOf l)↔l.length<=W/\∀x∈l,eI W x:=by
 unfold eI;have e:ok W false (listOf l)=(decide (l.length<=W) && ok W false (rowOf (l.map fun v=>([],v)))):=by show(([]:Name).isEmpty && (decide ((entries (rowOf _)).length<=W) && ((true || distinct ((entries (rowOf _)).map fun x=>x.1)) && (ok W false (rowOf _) && true))))=_;rw[fH _ (sH h)];simp
 rw[e];simp only[uK,aE,decide_eq_true_eq,true_and];rw[JC,fH _ (sH h)];constructor
 ·rintro⟨a,b⟩;exact⟨a,fun x hx=>⟨h x hx,(b ([],x) (aX.mpr ⟨x,hx,rfl⟩)).2⟩⟩
 ·rintro⟨a,b⟩;refine⟨a,fun x hx=>?_⟩;obtain⟨v,hv,rfl⟩:=aX.mp hx;exact⟨rfl,(b v hv).2⟩
theorem eI.kids (h:eI W v) (hr:isRecord v=true):(kidsOf v).length<=W/\distinct ((kidsOf v).map fun x=>x.1)=true/\∀x∈kidsOf v,isName x.1=true/\eI W x.2:=by rw[<-fX h.1 hr]at h;exact(zW mW).mp h
theorem eI.names (h:eI W v) (hr:isList v=true):∀x∈kidsOf v,x.1=[]:=by
 rcases h.1.cases with⟨t,rfl⟩ | ⟨z,rfl⟩ | ⟨k,rfl⟩ | ⟨k,rfl⟩
 ·cases hr
 ·cases hr
 ·cases hr
 ·intro x hx;have h2:=h.2;simp only[vList,ok,aE]at h2;have:=((JC k (!true)).mp h2.2.2.2.1 x hx).1;simpa using this
theorem eI.items (h:eI W v) (hr:isList v=true):(itemsOf v).length<=W/\∀x∈itemsOf v,eI W x:=by rw[<-iK h.1 hr (h.names hr)]at h;exact(sE lN).mp h
theorem eI.cases (h:eI W v):(∃t,isText t=true/\v=vText t)\/(∃z,z.natAbs<=GREATEST/\v=vNum z)\/
  (∃l:List (Name×Value),v=recordOf l/\l.length<=W/\distinct (l.map fun x=>x.1)=true/\(∀x∈l,isName x.1=true/\eI W x.2))\/(∃l:List Value,v=listOf l/\l.length<=W/\∀x∈l,eI W x):=by
 rcases h.1.cases with⟨t,rfl⟩ | ⟨z,rfl⟩ | ⟨k,rfl⟩ | ⟨k,rfl⟩
 ·exact .inl ⟨t,FP.mp h,rfl⟩
 ·exact .inr (.inl ⟨z,KW.mp h,rfl⟩)
 ·exact .inr (.inr (.inl ⟨_,(fX h.1 rfl).symm,h.kids rfl⟩))
 ·exact .inr (.inr (.inr ⟨_,(iK h.1 rfl (h.names rfl)).symm,h.items rfl⟩))
theorem NK {l:List Value} {x:Value} (hx:x∈l):count x<=(l.map count).sum:=by
 induction l with
 | nil=>cases hx
 | cons a l ih=>
  rw[aP,dW];rcases aS.mp hx with rfl | hx
  ·lia
  ·have:=ih hx;lia
theorem IY {l:List (Name×Value)} {x:Name×Value} (hx:x∈l):count x.2<=(l.map fun x=>count x.2).sum:=by
 induction l with
 | nil=>cases hx
 | cons a l ih=>
  rw[aP,dW];rcases aS.mp hx with rfl | hx
  ·lia
  ·have:=ih hx;lia
theorem eI.ind {W:Nat} {P:Value->Prop} (ht:∀t,isText t=true->P (vText t)) (hn:∀z:Int,z.natAbs<=GREATEST->P (vNum z))
  (hr:∀l:List (Name×Value),l.length<=W->distinct (l.map fun x=>x.1)=true->(∀x∈l,isName x.1=true/\eI W x.2)->(∀x∈l,P x.2)->P (recordOf l))
  (hl:∀l:List Value,l.length<=W->(∀x∈l,eI W x)->(∀x∈l,P x)->P (listOf l)):∀{v:Value},eI W v->P v:=by
 have key:∀(n:Nat) (v:Value),count v<=n->eI W v->P v:=by
  intro n;induction n with
  | zero=>intro v h g;have:=FJ g.1;lia
  | succ n ih=>
   intro v h g;rcases g.cases with⟨t,a,rfl⟩ | ⟨z,a,rfl⟩ | ⟨l,rfl,a,b,c⟩ | ⟨l,rfl,a,b⟩
   ·exact ht t a
   ·exact hn z a
   ·refine hr l a b c fun x hx=>ih _ ?_ (c x hx).2;rw[mS fun x hx=>(c x hx).2.1]at h;have:=IY hx;lia
   ·refine hl l a b fun x hx=>ih _ ?_ (b x hx);rw[lP fun x hx=>(b x hx).1]at h;have:=NK hx;lia
 exact fun {v} g=>key _ v (aR _) g
theorem dS:isValue v=true↔eI mP v/\count v<=OD/\deep v<=DEEP:=by
 unfold isValue;rw[EC];simp only[aE,beq_iff_eq,decide_eq_true_eq];constructor
 ·rintro⟨a,b,c⟩;exact⟨Lo a b,c⟩
 ·rintro⟨a,c⟩;exact⟨a.len,a.2,c⟩
theorem lR:iG v=true↔eI (2 * mP) v/\count v<=2 * OD/\deep v<=DEEP:=by
 unfold iG;rw[qW];simp only[aE,beq_iff_eq,decide_eq_true_eq];constructor
 ·rintro⟨a,b,c⟩;exact⟨Lo a b,c⟩
 ·rintro⟨a,c⟩;exact⟨a.len,a.2,c⟩
theorem eI.mono {W W':Nat} (hW:W<=W') {v:Value} (h:eI W v):eI W' v:=by
 refine eI.ind (P:=eI W') (fun t h=>FP.mpr h) (fun z h=>KW.mpr h) (fun l a b c d=>?_) (fun l a b c=>?_) h
 ·exact(zW fun x hx=>(c x hx).2.1).mpr ⟨bI a hW,b,fun x hx=>⟨(c x hx).1,d x hx⟩⟩
 ·exact(sE fun x hx=>(b x hx).1).mpr ⟨bI a hW,c⟩
theorem Gx (l:List A) (i:Nat) (a:A) (h:i<=l.length):(l.take i++(a::l.drop i)).eraseIdx i=l:=by
 rw[MW (by rw[bK];lia)];have e:i - (l.take i).length=0:=by rw[bK];lia
 rw[e];show l.take i++l.drop i=l;exact gE i l
theorem Gi (h:l[i]?=some a):(l.eraseIdx i).take i++(a::(l.eraseIdx i).drop i)=l:=by
 obtain⟨hi,e⟩:=aT.mp h;rw[jM,List.take_append_of_le_length (by rw[bK];lia),List.take_take,Hv];have e2:(l.take i++l.drop (i+1)).drop i=l.drop (i+1):=by
  rw[List.drop_append_of_le_length (by rw[bK];lia)];have:(l.take i).drop i=[]:=by rw[Kk,bK];lia
  rw[this];rfl
 rw[e2,<-e,List.getElem_cons_drop,gE]
theorem jA:putAt l i a=some m↔i<=l.length/\m=l.take i++(a::l.drop i):=by
 unfold putAt;split
 ·rename_i h;simp[h,eq_comm]
 ·rename_i h;simp[h]
theorem iI [BEq A] [LawfulBEq A] (l:List A):distinct l=true↔l.Nodup:=by
 induction l with
 | nil=>simp[distinct]
 | cons a l ih=>simp[distinct,ih]
theorem ZB {l:List (Name×Value)} (h:distinct (l.map fun x=>x.1)=true):∀x∈l,∀y∈l,x.1=y.1->x=y:=by
 rw[iI]at h;induction l with
 | nil=>intro x hx;cases hx
 | cons a l ih=>
  rw[aP,dZ]at h;intro x hx y hy e;rcases aS.mp hx with hx1 | hx1<;>rcases aS.mp hy with hy1 | hy1
  ·rw[hx1,hy1]
  ·exact absurd (aX.mpr ⟨y,hy1,by rw[<-e,hx1]⟩:a.1∈l.map fun x=>x.1) h.1
  ·exact absurd (aX.mpr ⟨x,hx1,by rw[e,hy1]⟩:a.1∈l.map fun x=>x.1) h.1
  ·exact ih h.2 x hx1 y hy1 e
theorem jR:hasField l n=true↔∃x∈l,x.1=n:=by simp[hasField]
theorem pK:hasField l n=false↔∀x∈l,x.1≠n:=by simp[hasField]
theorem CC (h:valueAt n l=some v):(n,v)∈l:=by
 unfold valueAt at h;cases e:l.find? (fun x=>x.1 == n)with
 | none=>rw[e]at h;cases h
 | some x=>rw[e]at h;have h1:=Aj e;have h2:=List.find?_some e;simp only[beq_iff_eq]at h2;cases h;rw[<-h2];exact h1
theorem DR:∀(p:Path) {v x:Value},eI W v->atPath p v=some x->eI W x
 | [],v,x,g,h=>by cases h;exact g
 | .field n::p,v,x,g,h=>by
  unfold atPath at h;split at h
  ·rename_i hr
   cases e:valueAt n (kidsOf v)with
   | none=>rw[e]at h;cases h
   | some y=>rw[e]at h;exact DR p (((g.kids hr).2.2 _ (CC e)).2) h
  ·cases h
 | .item i::p,v,x,g,h=>by
  unfold atPath at h;split at h
  ·rename_i hr
   cases e:(itemsOf v)[i]? with
   | none=>rw[e]at h;cases h
   | some y=>rw[e]at h;exact DR p ((g.items hr).2 _ (bB e)) h
  ·cases h
theorem KH (hf:∀x y,f x=some y->mQ y):∀(p:Path) {v w:Value},changeAt f p v=some w->mQ w
 | [],v,w,h=>hf _ _ h
 | .field n::p,v,w,h=>by
  unfold changeAt at h;split at h
  ·simp only at h;split at h
   ·obtain⟨y,_,rfl⟩:=aO.mp h;exact qA _
   ·cases h
  ·cases h
 | .item i::p,v,w,h=>by
  unfold changeAt at h;split at h
  ·simp only at h;split at h
   ·obtain⟨y,_,rfl⟩:=aO.mp h;exact uK _
   ·cases h
  ·cases h
theorem FO {l:List (Name×Value)} {n:Name} {x:Name×Value} (h:l.find? (fun x=>x.1 == n)=some x):x∈l/\x.1=n:=by have h1:=Aj h;have h2:=List.find?_some h;simp only[beq_iff_eq]at h2;exact⟨h1,h2⟩
theorem Bk {l:List (Name×Value)} {n:Name} {x:Name×Value} {w:Value} (h:l.find? (fun x=>x.1 == n)=some x):
  (l.map fun y=>if y.1=n then (n,w)else y).find? (fun x=>x.1 == n)=some (n,w):=by
 induction l with
 | nil=>cases h
 | cons a l ih=>
  rw[aP,jK];by_cases e:a.1=n
  ·rw[if_pos e];simp
  ·rw[if_neg e];rw[jK]at h;have:(a.1 == n)=false:=by simpa using e
   rw[this]at h ⊢;exact ih h
theorem yU {W:Nat} {f g:Value->Option Value} (hf:∀x y,f x=some y->mQ y):∀(p:Path) {v w x:Value},eI W v->changeAt f p v=some w->atPath p v=some x->
  (∀y,f x=some y->g y=some x)->changeAt g p w=some v
 | [],v,w,x,_,h,e,hg=>by cases e;exact hg w h
 | .field n::p,v,w,x,gv,h,e,hg=>by
  unfold changeAt at h;unfold atPath at e;by_cases hr:isRecord v=true
  ·rw[if_pos hr]at h e;simp only at h;cases q:(kidsOf v).find? (fun x=>x.1 == n)with
   | none=>rw[q]at h;cases h
   | some x0=>
    rw[q]at h;simp only at h;obtain⟨w0,h0,rfl⟩:=aO.mp h;have e0:valueAt n (kidsOf v)=some x0.2:=by unfold valueAt;rw[q];rfl
    rw[e0]at e;obtain⟨m0,n0⟩:=FO q;have gk:=gv.kids hr;have ih:=yU hf p (gk.2.2 _ m0).2 h0 e hg;have o0:mQ w0:=KH hf p h0;have hk:kidsOf (recordOf ((kidsOf v).map fun y=>if y.1=n then (n,w0)else y))=(kidsOf v).map fun y=>if y.1=n then (n,w0)else y:=by
     refine oR fun y hy=>?_;obtain⟨z,hz,rfl⟩:=aX.mp hy;by_cases c:z.1=n
     ·rw[if_pos c];exact o0
     ·rw[if_neg c];exact mW z hz
    unfold changeAt;rw[if_pos (show isRecord (recordOf _)=true from rfl)];simp only;rw[hk,Bk q];simp only;rw[ih];simp only[kI,lJ]
    conv=>rhs;rw[<-fX gv.1 hr]
    congr 1;rw[cQ]
    conv=>rhs;rw[<-oB (kidsOf v)]
    refine eQ fun y hy=>?_;simp only[Do,id];by_cases c:y.1=n
    ·rw[if_pos c,if_pos rfl];have:y=x0:=ZB gk.2.1 y hy x0 m0 (c.trans n0.symm);rw[this,<-n0]
    ·rw[if_neg c,if_neg c]
  ·rw[if_neg hr]at h;cases h
 | .item i::p,v,w,x,gv,h,e,hg=>by
  unfold changeAt at h;unfold atPath at e;by_cases hr:isList v=true
  ·rw[if_pos hr]at h e;simp only at h;cases q:(itemsOf v)[i]? with
   | none=>rw[q]at h;cases h
   | some x0=>
    rw[q]at h e;simp only at h;obtain⟨w0,h0,rfl⟩:=aO.mp h;have gk:=gv.items hr;have ih:=yU hf p (gk.2 _ (bB q)) h0 e hg;have o0:mQ w0:=KH hf p h0;obtain⟨hi,ei⟩:=aT.mp q;have hk:itemsOf (listOf ((itemsOf v).set i w0))=(itemsOf v).set i w0:=by
     refine lS fun y hy=>?_;rcases List.mem_or_eq_of_mem_set hy with c | c
     ·exact lN y c
     ·rw[c];exact o0
    unfold changeAt;rw[if_pos (show isList (listOf _)=true from rfl)];simp only;rw[hk,oO hi];simp only;rw[ih];simp only[kI,lJ];rw[NZ,<-ei,List.set_getElem_self];exact iK gv.1 hr (gv.names hr)
  ·rw[if_neg hr]at h;cases h
theorem xY:∀(p:Path) {v w:Value},changeAt f p v=some w->∃x y,atPath p v=some x/\f x=some y
 | [],v,w,h=>⟨v,w,rfl,h⟩
 | .field n::p,v,w,h=>by
  unfold changeAt at h;by_cases hr:isRecord v=true
  ·rw[if_pos hr]at h;simp only at h;cases q:(kidsOf v).find? (fun x=>x.1 == n)with
   | none=>rw[q]at h;cases h
   | some x0=>rw[q]at h;simp only at h;obtain⟨w0,h0,_⟩:=aO.mp h;obtain⟨x,y,h1,h2⟩:=xY p h0;refine⟨x,y,?_,h2⟩;unfold atPath;rw[if_pos hr];unfold valueAt;rw[q];exact h1
  ·rw[if_neg hr]at h;cases h
 | .item i::p,v,w,h=>by
  unfold changeAt at h;by_cases hr:isList v=true
  ·rw[if_pos hr]at h;simp only at h;cases q:(itemsOf v)[i]? with
   | none=>rw[q]at h;cases h
   | some x0=>rw[q]at h;simp only at h;obtain⟨w0,h0,_⟩:=aO.mp h;obtain⟨x,y,h1,h2⟩:=xY p h0;refine⟨x,y,?_,h2⟩;unfold atPath;rw[if_pos hr,q];exact h1
  ·rw[if_neg hr]at h;cases h
noncomputable def uB (W:Nat):gH->Prop
 | .set _ v=>eI W v
 | .put _ _ v=>eI W v
 | .add _ _ n v=>isName n=true/\eI W v
 | .drop _ n=>isName n=true
 | .rename _ n m=>isName n=true/\isName m=true
 | _=>True
theorem eU:onList f v=some w↔isList v=true/\∃m,f (itemsOf v)=some m/\w=listOf m:=by
 unfold onList;split
 ·rename_i h
  rw[aO];exact⟨fun⟨m,a,b⟩=>⟨h,m,a,b.symm⟩,fun⟨_,m,a,b⟩=>⟨m,a,b.symm⟩⟩
 ·rename_i h;simp[h]
theorem dU:onRecord f v=some w↔isRecord v=true/\∃m,f (kidsOf v)=some m/\w=recordOf m:=by
 unfold onRecord;split
 ·rename_i h
  rw[aO];exact⟨fun⟨m,a,b⟩=>⟨h,m,a,b.symm⟩,fun⟨_,m,a,b⟩=>⟨m,a,b.symm⟩⟩
 ·rename_i h;simp[h]
theorem SL (h:doneAt (.put p i w) x=some y):onList (fun l=>putAt l i w) x=some y:=h
theorem NE (h:doneAt (.take p i) x=some y):onList (fun l=>takeAt l i) x=some y:=h
theorem ND (h:doneAt (.move p i j) x=some y):onList (fun l=>moveAt l i j) x=some y:=h
theorem SJ (h:doneAt (.add p i n w) x=some y):onRecord (fun l=>if hasField l n=true then none else putAt l i (n,w)) x=some y:=h
theorem FM (h:doneAt (.drop p n) x=some y):onRecord (fun l=>if hasField l n=true then some (l.filter fun x=>x.1 != n)else none) x=some y:=h
theorem DX (h:doneAt (.rename p n m) x=some y):onRecord (fun l=>if (hasField l n && (n == m || !hasField l m))=true then some (l.map fun x=>if x.1=n then (m,x.2)else x)else none) x=some y:=h
theorem Jc (hf:uB W e) (h:doneAt e x=some y):mQ y:=by
 cases e with
 | set p v=>cases h;exact hf.1
 | put p i v=>obtain⟨_,m,_,rfl⟩:=eU.mp (SL h);exact uK m
 | take p i=>obtain⟨_,m,_,rfl⟩:=eU.mp (NE h);exact uK m
 | move p i j=>obtain⟨_,m,_,rfl⟩:=eU.mp (ND h);exact uK m
 | add p i n v=>obtain⟨_,m,_,rfl⟩:=dU.mp (SJ h);exact qA m
 | drop p n=>obtain⟨_,m,_,rfl⟩:=dU.mp (FM h);exact qA m
 | rename p n m=>obtain⟨_,m,_,rfl⟩:=dU.mp (DX h);exact qA m
noncomputable def Ay (e:gH) (x:Value):Option gH:=match e with
 | .set p _=>some (.set p x)
 | .put p i _=>some (.take p i)
 | .take p i=>((itemsOf x)[i]?).map fun w=>.put p i w
 | .move p i j=>some (.move p j i)
 | .add p _ n _=>some (.drop p n)
 | .drop p n=>(valueAt n (kidsOf x)).map fun w=>.add p (placeOf (kidsOf x) n) n w
 | .rename p n m=>some (.rename p m n)
theorem yX (h:l.find? (fun x=>x.1 == n)=some x):
  ∃a b,l=a++x::b/\(∀y∈a,y.1≠n)/\placeOf l n=a.length:=by
 induction l with
 | nil=>cases h
 | cons c l ih=>
  rw[jK]at h;by_cases e:c.1=n
  ·have:(c.1 == n)=true:=by simpa using e
   rw[this]at h;cases h;refine⟨[],l,rfl,fun y hy=>(by cases hy),?_⟩;simp[placeOf,List.findIdx_cons,e]
  ·have:(c.1 == n)=false:=by simpa using e
   rw[this]at h;obtain⟨a,b,h1,h2,h3⟩:=ih h;refine⟨c::a,b,by rw[h1];rfl,fun y hy=>?_,?_⟩
   ·rcases aS.mp hy with rfl | hy
    ·exact e
    ·exact h2 y hy
   ·unfold placeOf at h3 ⊢;rw[List.findIdx_cons,this,aK,cond_false,h3]
theorem Nn {W:Nat} {e:gH} {x y:Value} (hf:uB W e) (gx:eI W x) (h:doneAt e x=some y):
  ∃b,Ay e x=some b/\pathIn b=pathIn e/\uB W b/\doneAt b y=some x:=by
 cases e with
 | set p v=>exact⟨_,rfl,rfl,gx,rfl⟩
 | put p i v=>
  refine⟨_,rfl,rfl,trivial,?_⟩;obtain⟨hl,m,hm,rfl⟩:=eU.mp (SL h);obtain⟨hi,rfl⟩:=jA.mp hm;refine(eU (f:=fun l=>takeAt l i)).mpr ⟨rfl,itemsOf x,?_,(iK gx.1 hl (gx.names hl)).symm⟩;rw[lS]
  ·unfold takeAt;rw[if_pos (by simp only[aC,bK,aK,cX];lia),Gx _ _ _ hi]
  ·intro z hz;rcases eJ.mp hz with hz | hz
   ·exact lN z (gP hz)
   ·rcases aS.mp hz with rfl | hz
    ·exact hf.1
    ·exact lN z (fQ hz)
 | take p i=>
  obtain⟨hl,m,hm,rfl⟩:=eU.mp (NE h);unfold takeAt at hm;split at hm
  ·rename_i hi
   cases hm;have ei:(itemsOf x)[i]?=some (itemsOf x)[i]:=bD hi;refine⟨.put p i (itemsOf x)[i],?_,rfl,?_,?_⟩
   ·show((itemsOf x)[i]?).map _=_;rw[ei];rfl
   ·exact(gx.items hl).2 _ (List.getElem_mem hi)
   ·refine(eU (f:=fun l=>putAt l i (itemsOf x)[i])).mpr ⟨rfl,itemsOf x,?_,(iK gx.1 hl (gx.names hl)).symm⟩;rw[lS fun z hz=>lN z (jZ hz)];exact jA.mpr ⟨by rw[qH hi];lia,(Gi ei).symm⟩
  ·cases hm
 | move p i j=>
  refine⟨_,rfl,rfl,trivial,?_⟩;obtain⟨hl,m,hm,rfl⟩:=eU.mp (ND h);unfold moveAt at hm;split at hm
  ·rename_i hj
   cases ei:(itemsOf x)[i]? with
   | none=>rw[ei]at hm;cases hm
   | some a=>
    rw[ei]at hm;obtain⟨hj',rfl⟩:=jA.mp hm;obtain⟨hi,ea⟩:=aT.mp ei;refine(eU (f:=fun l=>moveAt l j i)).mpr ⟨rfl,itemsOf x,?_,(iK gx.1 hl (gx.names hl)).symm⟩;have ho:∀z∈((itemsOf x).eraseIdx i).take j++(a::((itemsOf x).eraseIdx i).drop j),mQ z:=by
     intro z hz;rcases eJ.mp hz with hz | hz
     ·exact lN z (jZ (gP hz))
     ·rcases aS.mp hz with rfl | hz
      ·exact lN _ (bB ei)
      ·exact lN z (jZ (fQ hz))
    rw[lS ho];unfold moveAt;have hlen:(((itemsOf x).eraseIdx i).take j++(a::((itemsOf x).eraseIdx i).drop j)).length=(itemsOf x).length:=by
     simp only[aC,bK,aK,cX];have:=qH hi
     lia
    rw[if_pos (by rw[hlen];exact hi)];have ej:(((itemsOf x).eraseIdx i).take j++(a::((itemsOf x).eraseIdx i).drop j))[j]?=some a:=by
     rw[gO (by rw[bK];lia)];have:j - (((itemsOf x).eraseIdx i).take j).length=0:=by rw[bK];lia
     rw[this];rfl
    rw[ej];show putAt _ i a=_;rw[Gx _ _ _ hj'];exact jA.mpr ⟨by rw[qH hi];lia,(Gi ei).symm⟩
  ·cases hm
 | add p i n v=>
  refine⟨_,rfl,rfl,hf.1,?_⟩;obtain⟨hl,m,hm,rfl⟩:=dU.mp (SJ h);split at hm
  ·cases hm
  ·rename_i hn
   have hn:=pK.mp (iD.mpr hn);obtain⟨hi,rfl⟩:=jA.mp hm;refine(dU (f:=fun l=>if hasField l n=true then some (l.filter fun x=>x.1 != n)else none)).mpr ⟨rfl,kidsOf x,?_,(fX gx.1 hl).symm⟩;rw[oR]
   ·rw[if_pos (jR.mpr ⟨(n,v),by simp,rfl⟩)];rw[MS,CF];have hno:∀l:List (Name×Value),(∀z∈l,z.1≠n)->l.filter (fun x=>x.1 != n)=l:=fun l h=>by rw[JN];intro z hz;simpa using h z hz
    rw[hno _ fun z hz=>hn z (gP hz),hno _ fun z hz=>hn z (fQ hz)];simp[gE]
   ·intro z hz;rcases eJ.mp hz with hz | hz
    ·exact mW z (gP hz)
    ·rcases aS.mp hz with rfl | hz
     ·exact hf.2.1
     ·exact mW z (fQ hz)
 | drop p n=>
  obtain⟨hl,m,hm,rfl⟩:=dU.mp (FM h);split at hm
  ·rename_i hn
   cases hm;obtain⟨x1,hx1,n1⟩:=jR.mp hn;cases q:(kidsOf x).find? (fun x=>x.1 == n)with
   | none=>have:=xT.mp q x1 hx1;simp[n1]at this
   | some x0=>
    obtain⟨m0,n0⟩:=FO q;have gk:=gx.kids hl;refine⟨.add p (placeOf (kidsOf x) n) n x0.2,?_,rfl,⟨by rw[<-n0];exact(gk.2.2 _ m0).1,(gk.2.2 _ m0).2⟩,?_⟩
    ·show(valueAt n (kidsOf x)).map _=_;unfold valueAt;rw[q];rfl
    ·refine(dU (f:=fun l=>if hasField l n=true then none else putAt l (placeOf (kidsOf x) n) (n,x0.2))).mpr ⟨rfl,kidsOf x,?_,(fX gx.1 hl).symm⟩;rw[oR fun z hz=>mW z (kM.mp hz).1];rw[if_neg (by intro c;obtain⟨z,hz,zn⟩:=jR.mp c;have:=(kM.mp hz).2;simp[zn]at this)];obtain⟨a,b,h1,h2,h3⟩:=yX q;have hb:∀y∈b,y.1≠n:=by have hd:=gk.2.1;rw[iI,h1,aW,aP,pD]at hd;intro y hy c;have:=(dZ.mp hd.2.1).1;exact this (aX.mpr ⟨y,hy,by rw[c,n0]⟩)
     have hno:∀l:List (Name×Value),(∀z∈l,z.1≠n)->l.filter (fun x=>x.1 != n)=l:=fun l h=>by rw[JN];intro z hz;simpa using h z hz
     have ef:(kidsOf x).filter (fun x=>x.1 != n)=a++b:=by rw[h1,MS,CF,hno a h2,hno b hb];simp[n0]
     rw[ef,h3];refine jA.mpr ⟨by rw[aC];lia,?_⟩;rw[GN,qG,h1,<-n0]
  ·cases hm
 | rename p n m=>
  refine⟨_,rfl,rfl,⟨hf.2,hf.1⟩,?_⟩;obtain⟨hl,k,hk,rfl⟩:=dU.mp (DX h);split at hk
  ·rename_i hc
   cases hk;rw[aE,gQ,beq_iff_eq,eX]at hc;obtain⟨hn,hm⟩:=hc;obtain⟨x1,hx1,n1⟩:=jR.mp hn;refine(dU (v:=recordOf _) (f:=fun l=>if (hasField l m && (m == n || !hasField l n))=true then some (l.map fun x=>if x.1=m then (n,x.2)else x)else none)).mpr ⟨rfl,kidsOf x,?_,(fX gx.1 hl).symm⟩;rw[oR fun z hz=>by
    obtain⟨y,hy,rfl⟩:=aX.mp hz;by_cases c:y.1=n
    ·rw[if_pos c];exact mW y hy
    ·rw[if_neg c];exact mW y hy]
   have h1:hasField ((kidsOf x).map fun x=>if x.1=n then (m,x.2)else x) m=true:=jR.mpr ⟨(m,x1.2),aX.mpr ⟨x1,hx1,by rw[if_pos n1]⟩,rfl⟩;have h2:(m == n || !hasField ((kidsOf x).map fun x=>if x.1=n then (m,x.2)else x) n)=true:=by
    by_cases c:n=m
    ·simp[c]
    ·rw[gQ,eX];refine .inr (pK.mpr fun z hz=>?_);obtain⟨y,hy,rfl⟩:=aX.mp hz;by_cases cc:y.1=n
     ·rw[if_pos cc];exact fun q=>c q.symm
     ·rw[if_neg cc];exact cc
   rw[h1,h2];simp only[Bool.and_self,if_true,lJ];rw[cQ]
   conv=>rhs;rw[<-oB (kidsOf x)]
   refine eQ fun y hy=>?_;simp only[Do,id];by_cases c:y.1=n
   ·rw[if_pos c,if_pos rfl,<-c]
   ·rw[if_neg c];rcases hm with hm | hm
    ·rw[if_neg (by rw[<-hm];exact c)]
    ·rw[if_neg (pK.mp hm y hy)]
  ·cases hk
theorem NW (e:gH) (v:Value):turned e v=(dP e v).bind fun _=>(atPath (pathIn e) v).bind (Ay e):=by unfold turned Ay;rfl
theorem nT:dP e v=some w↔changeAt (doneAt e) (pathIn e) v=some w/\iG w=true:=by
 unfold dP;cases changeAt (doneAt e) (pathIn e) v with
 | none=>simp
 | some u=>
  simp only[jN];split
  ·rename_i h
   simp only[lJ];constructor
   ·rintro rfl;exact⟨rfl,h⟩
   ·exact fun h=>h.1
  ·rename_i h
   simp only[lJ];constructor
   ·rintro⟨⟩
   ·rintro⟨rfl,h'⟩;exact absurd h' h
theorem Ad (hf:uB (2 * mP) e) (hv:iG v=true) (h:dP e v=some w):
  ∃b,turned e v=some b/\uB (2 * mP) b/\dP b w=some v:=by
 have gv:=(lR.mp hv).1;have hc:=(nT.mp h).1;obtain⟨x,y,hx,hy⟩:=xY _ hc;obtain⟨b,hb,hp,fb,db⟩:=Nn hf (DR _ gv hx) hy;refine⟨b,?_,fb,nT.mpr ⟨?_,hv⟩⟩
 ·rw[NW,h,hx];exact hb
 ·rw[hp];refine yU (fun _ _ q=>Jc hf q) _ gv hc hx fun z hz=>?_;rw[hy]at hz;cases hz;exact db
noncomputable def runs:List gH->Value->Option Value
 | [],v=>some v
 | e::r,v=>(dP e v).bind (runs r)
theorem AW:∀(es:List gH) (k:Nat) (v w:Value),applyFrom k es v=.ok w↔runs es v=some w
 | [],k,v,w=>by simp[applyFrom,runs]
 | e::r,k,v,w=>by
  unfold applyFrom runs;cases dP e v with
  | none=>simp
  | some u=>exact AW r (k+1) u w
theorem nZ:rowOn es v=some x↔runs es v=some x.1/\isValue x.1=true/\x.2=turnedAll es v:=by
 unfold rowOn applyAll;cases h:applyFrom 0 es v with
 | error k=>simp only[reduceCtorEq,false_iff];rintro⟨q,_⟩;rw[<-AW es 0 v]at q;rw[h]at q;cases q
 | ok w=>
  have e:=(AW es 0 v w).mp h;rw[e];simp only[lJ];obtain⟨x1,x2⟩:=x;split
  ·rename_i hw
   simp only[lJ,GO];constructor
   ·rintro⟨rfl,rfl⟩;exact⟨rfl,hw,rfl⟩
   ·rintro⟨rfl,_,rfl⟩;exact⟨rfl,rfl⟩
  ·rename_i hw
   simp only[reduceCtorEq,false_iff];rintro⟨rfl,q,_⟩;exact hw q
theorem PD:∀(a b:List gH) (v:Value),runs (a++b) v=(runs a v).bind (runs b)
 | [],b,v=>rfl
 | e::a,b,v=>by
  show(dP e v).bind (runs (a++b))=((dP e v).bind (runs a)).bind (runs b);cases dP e v with
  | none=>rfl
  | some u=>exact PD a b u
theorem gU (h:isValue v=true):iG v=true:=by
 obtain⟨a,b,c⟩:=dS.mp h;have q:OD<=2 * OD:=by decide
 exact lR.mpr ⟨a.mono (by decide),bI b q,c⟩
theorem MO:∀{es:List gH} {v w:Value},(∀e∈es,uB (2 * mP) e)->iG v=true->runs es v=some w->
  runs (turnedAll es v) w=some v/\(∀b∈turnedAll es v,uB (2 * mP) b)
 | [],v,w,_,_,h=>by cases h;exact⟨rfl,fun b hb=>by cases hb⟩
 | e::r,v,w,hf,hv,h=>by
  unfold runs at h;cases q:dP e v with
  | none=>rw[q]at h;cases h
  | some u=>
   rw[q]at h;have h:runs r u=some w:=h;obtain⟨b,hb,fb,ab⟩:=Ad (hf e aM) hv q;obtain⟨i1,i2⟩:=MO (fun e he=>hf e (aL _ he)) (nT.mp q).2 h;unfold turnedAll;rw[hb,q];simp only;refine⟨?_,fun c hc=>?_⟩
   ·rw[PD,i1];show(dP b u).bind (runs [])=_;rw[ab];rfl
   ·rcases eJ.mp hc with hc | hc
    ·exact i2 c hc
    ·rw[bU]at hc;rw[hc];exact fb
theorem Kc (hf:∀e∈es,uB (2 * mP) e) (hv:isValue v=true) (h:rowOn es v=some x):
  rowOn x.2 x.1=some (v,turnedAll x.2 x.1)/\∀b∈x.2,uB (2 * mP) b:=by
 obtain⟨h1,h2,h3⟩:=nZ.mp h;obtain⟨i1,i2⟩:=MO hf (gU hv) h1;rw[h3];exact⟨nZ.mpr ⟨i1,hv,rfl⟩,i2⟩
inductive sZ:Value->List (List gH)->List Value->Prop where
 | nil (v:Value):sZ v [] []
 | cons {v u:Value} {es b:List gH} {ls:List (List gH)} {vs:List Value}:rowOn es v=some (u,b)->(∀e∈es,uB (2 * mP) e)->isValue u=true->sZ u ls vs->sZ v (es::ls) (u::vs)
theorem sZ.length (h:sZ v ls vs):ls.length=vs.length:=by
 induction h with
 | nil=>rfl
 | cons _ _ _ _ ih=>simp[ih]
theorem sZ.deed (hv:isValue v=true) (hf:∀e∈es,uB (2 * mP) e) (h:rowOn es v=some x) (c:sZ v ls vs):
  sZ x.1 (x.2::ls) (v::vs):=by
 obtain⟨i1,i2⟩:=Kc hf hv h;exact .cons i1 i2 hv c
theorem KL (s:Step) (e:gH):doneAt (gX s e)=doneAt e:=by cases e<;>rfl
theorem tM (s:Step) (e:gH):pathIn (gX s e)=s::pathIn e:=by cases e<;>rfl
theorem SS (h:uB W e):uB W (gX s e):=by cases e<;>exact h
inductive rO (C D:Nat):List gH->Value->Value->Prop where
 | nil (x:Value):rO C D [] x x
 | cons {e:gH} {es:List gH} {x y z:Value}:uB (2 * mP) e->changeAt (doneAt e) (pathIn e) x=some y->eI (2 * mP) y->count y<=C->deep y<=D->rO C D es y z->rO C D (e::es) x z
theorem rO.append (h:rO C D a x y) (k:rO C D b y z):rO C D (a++b) x z:=by
 induction h with
 | nil=>exact k
 | cons f e g c d _ ih=>exact .cons f e g c d (ih k)
theorem rO.fine (h:rO C D a x y):∀e∈a,uB (2 * mP) e:=by
 induction h with
 | nil=>intro e he;cases he
 | cons f _ _ _ _ _ ih=>
  intro e he;rcases aS.mp he with rfl | he
  ·exact f
  ·exact ih e he
theorem rO.runs (hC:C<=2 * OD) (hD:D<=DEEP) (h:rO C D a x y):runs a x=some y:=by
 induction h with
 | nil=>rfl
 | cons f e g c d _ ih=>show(dP _ _).bind _=_;rw[nT.mpr ⟨e,lR.mpr ⟨g,bI c hC,bI d hD⟩⟩];exact ih
theorem sum_append (a b:List Nat):(a++b).sum=a.sum+b.sum:=by
 induction a with
 | nil=>simp
 | cons x a ih=>simp[ih,Dr]
noncomputable def wY (l:List Value):Nat:=(l.map count).sum
noncomputable def xQ (l:List Value):Nat:=pX (l.map deep)
theorem vE (a b:List Value):wY (a++b)=wY a+wY b:=by unfold wY;rw[aW,sum_append]
theorem sB (x:Value) (b:List Value):wY (x::b)=count x+wY b:=by unfold wY;rw[aP,dW]
theorem vC (a b:List Value):xQ (a++b)=max (xQ a) (xQ b):=by unfold xQ;rw[aW,OO]
theorem rZ (x:Value) (b:List Value):xQ (x::b)=max (deep x) (xQ b):=rfl
theorem oQ {W:Nat} {l:List Value} (h:∀x∈l,eI W x):∀x∈l,mQ x:=fun x hx=>(h x hx).1
theorem FR (ha:∀x∈a,eI W x) (hx:eI W x) (hb:∀x∈b,eI W x):∀y∈a++x::b,eI W y:=by
 intro y hy;rcases eJ.mp hy with h | h
 ·exact ha y h
 ·rcases aS.mp h with rfl | h
  ·exact hx
  ·exact hb y h
theorem zX {W:Nat} {a b:List Value} (ha:∀x∈a,eI W x) (hb:∀x∈b,eI W x):∀y∈a++b,eI W y:=by
 intro y hy;rcases eJ.mp hy with h | h
 ·exact ha y h
 ·exact hb y h
theorem Vw (a b:List A) (x y:A):(a++x::b).set a.length y=a++y::b:=by rw[Ht _ _ (aR _),mO];rfl
theorem Um (a b:List A) (x:A):(a++x::b)[a.length]?=some x:=by rw[gO (aR _),mO];rfl
theorem Qq:max a b+1<=c↔a+1<=c/\b+1<=c:=by lia
theorem rO.item {C D:Nat} {es:List gH} {x y:Value} (h:rO C D es x y) {a b:List Value} (ha:∀x∈a,eI (2 * mP) x) (hb:∀x∈b,eI (2 * mP) x) (gx:eI (2 * mP) x)
  (hl:a.length+1+b.length<=2 * mP) {C' D':Nat} (hC:1+wY a+C+wY b<=C') (hD:max (xQ a) (max D (xQ b))+1<=D'):
  rO C' D' (es.map (gX (.item a.length))) (listOf (a++x::b)) (listOf (a++y::b)):=by
 induction h with
 | nil=>exact .nil _
 | @cons e es x y z f e1 g c d _ ih=>
  have o1:=oQ (FR ha gx hb);have o2:=oQ (FR ha g hb);refine .cons (y:=listOf (a++y::b)) (SS f) ?_ ((sE o2).mpr ⟨by simp only[aC,aK];lia,FR ha g hb⟩) ?_ ?_ (ih g)
  ·rw[KL,tM];unfold changeAt;rw[if_pos (show isList (listOf _)=true from rfl)];simp only;rw[lS o1,Um];simp only;rw[e1];simp only[kI,Vw]
  ·rw[lP o2];show 1+wY (a++y::b)<=C';rw[vE,sB];lia
  ·rw[lQ o2];show xQ (a++y::b)+1<=D';rw[vC,rZ]
   lia
noncomputable def CU (l:List (Name×Value)):Nat:=(l.map fun x=>count x.2).sum
noncomputable def EH (l:List (Name×Value)):Nat:=pX (l.map fun x=>deep x.2)
theorem OW (a b:List (Name×Value)):CU (a++b)=CU a+CU b:=by unfold CU;rw[aW,sum_append]
theorem GB (x:Name×Value) (b:List (Name×Value)):CU (x::b)=count x.2+CU b:=by unfold CU;rw[aP,dW]
theorem OV (a b:List (Name×Value)):EH (a++b)=max (EH a) (EH b):=by unfold EH;rw[aW,OO]
theorem FZ (x:Name×Value) (b:List (Name×Value)):EH (x::b)=max (deep x.2) (EH b):=rfl
def pH (W:Nat) (l:List (Name×Value)):Prop:=∀x∈l,isName x.1=true/\eI W x.2
theorem pH.one (h:pH W l):∀x∈l,mQ x.2:=fun x hx=>(h x hx).2.1
theorem pH.mid (ha:pH W a) (hn:isName n=true) (hx:eI W x) (hb:pH W b):pH W (a++(n,x)::b):=by
 intro y hy;rcases eJ.mp hy with h | h
 ·exact ha y h
 ·rcases aS.mp h with rfl | h
  ·exact⟨hn,hx⟩
  ·exact hb y h
theorem Ro {a b:List (Name×Value)} {n:Name} {x:Value} (ha:∀y∈a,y.1≠n):(a++(n,x)::b).find? (fun x=>x.1 == n)=some (n,x):=by
 induction a with
 | nil=>simp
 | cons c a ih=>
  rw[iV,jK];have:(c.1 == n)=false:=by simpa using ha c aM
  rw[this];exact ih fun y hy=>ha y (aL _ hy)
theorem Uy {a b:List (Name×Value)} {n:Name} {x w:Value} (ha:∀y∈a,y.1≠n) (hb:∀y∈b,y.1≠n):((a++(n,x)::b).map fun y=>if y.1=n then (n,w)else y)=a++(n,w)::b:=by
 have e:∀l:List (Name×Value),(∀y∈l,y.1≠n)->(l.map fun y=>if y.1=n then (n,w)else y)=l:=fun l h=>by
  conv=>rhs;rw[<-oB l]
  exact eQ fun y hy=>by rw[if_neg (h y hy)];rfl
 rw[aW,aP,e a ha,e b hb,if_pos rfl]
theorem Op {a b:List (Name×Value)} {n:Name} {x:Value} (h:distinct ((a++(n,x)::b).map fun x=>x.1)=true):(∀y∈a,y.1≠n)/\(∀y∈b,y.1≠n):=by
 rw[iI,aW,aP,pD]at h;refine⟨fun y hy c=>?_,fun y hy c=>?_⟩
 ·exact h.2.2 y.1 (aX.mpr ⟨y,hy,rfl⟩) n aM c
 ·exact(dZ.mp h.2.1).1 (aX.mpr ⟨y,hy,c⟩)
theorem YZ {a b:List (Name×Value)} {n:Name} (x y:Value):((a++(n,x)::b).map fun x=>x.1)=((a++(n,y)::b).map fun x=>x.1):=by simp only[aW,aP]
theorem rO.field {C D:Nat} {es:List gH} {x y:Value} (h:rO C D es x y) {a b:List (Name×Value)} {n:Name} (ha:pH (2 * mP) a) (hb:pH (2 * mP) b) (hn:isName n=true) (gx:eI (2 * mP) x)
  (hd:distinct ((a++(n,x)::b).map fun x=>x.1)=true) (hl:a.length+1+b.length<=2 * mP) {C' D':Nat} (hC:1+CU a+C+CU b<=C') (hD:max (EH a) (max D (EH b))+1<=D'):
  rO C' D' (es.map (gX (.field n))) (recordOf (a++(n,x)::b)) (recordOf (a++(n,y)::b)):=by
 induction h with
 | nil=>exact .nil _
 | @cons e es x y z f e1 g c d _ ih=>
  have o1:=(pH.mid ha hn gx hb).one;have f2:=pH.mid ha hn g hb;have hd2:=hd;rw[YZ x y]at hd2;obtain⟨na,nb⟩:=Op hd;refine .cons (y:=recordOf (a++(n,y)::b)) (SS f) ?_ ((zW f2.one).mpr ⟨by simp only[aC,aK];lia,hd2,f2⟩) ?_ ?_ (ih g hd2)
  ·rw[KL,tM];unfold changeAt;rw[if_pos (show isRecord (recordOf _)=true from rfl)];simp only;rw[oR o1,Ro na];simp only;rw[e1];simp only[kI,Uy na nb]
  ·rw[mS f2.one];show 1+CU (a++(n,y)::b)<=C';rw[OW,GB];simp only;lia
  ·rw[mG f2.one];show EH (a++(n,y)::b)+1<=D';rw[OV,FZ];simp only
   lia
inductive DP:List Move->List Value->List Value->Prop where
 | nil:DP [] [] []
 | keep {es:List gH} {m:List Move} {x y:Value} {a b:List Value}:rO (count x+count y) (max (deep x) (deep y)) es x y->DP m a b->DP (.keep es::m) (x::a) (y::b)
 | take {m:List Move} {x:Value} {a b:List Value}:DP m a b->DP (.take::m) (x::a) b
 | put {m:List Move} {y:Value} {a b:List Value}:DP m a b->DP (.put y::m) a (y::b)
theorem uC (a b:List A) (x:A):a++x::b=(a++[x])++b:=by simp
theorem Ps {m:List Move} {a b:List Value} (h:DP m a b):∀{pre:List Value} {C D:Nat},(∀x∈pre,eI (2 * mP) x)->(∀x∈a,eI (2 * mP) x)->(∀x∈b,eI (2 * mP) x)->
  pre.length+a.length+b.length<=2 * mP->1+wY pre+wY a+wY b<=C->max (xQ pre) (max (xQ a) (xQ b))+1<=D->
  rO C D (rM pre.length m) (listOf (pre++a)) (listOf (pre++b)):=by
 induction h with
 | nil=>intro pre C D _ _ _ _ _ _;exact .nil _
 | @keep es m x y a b w v ih=>
  intro pre C D gp ga gb hl hC hD;rw[sB,sB]at hC;rw[rZ,rZ]at hD;simp only[Qq]at hD;simp only[aK]at hl;have gx:=ga x aM;have gy:=gb y aM;have ga':∀x∈a,eI (2 * mP) x:=fun z hz=>ga z (aL _ hz);have gb':∀x∈b,eI (2 * mP) x:=fun z hz=>gb z (aL _ hz);show rO C D (es.map (gX (.item pre.length))++rM (pre.length+1) m) _ _;refine(w.item gp ga' gx (by lia) (by lia) (by simp only[Qq];lia)).append ?_;rw[uC pre a y,uC pre b y];have e:pre.length+1=(pre++[y]).length:=by simp
  rw[e];refine ih (zX gp fun z hz=>by rw[bU]at hz;rw[hz];exact gy) ga' gb' (by simp only[aC,aK,fY];lia) ?_ ?_
  ·rw[vE,sB];show 1+(wY pre+(count y+0))+wY a+wY b<=C;lia
  ·rw[vC,rZ];show max (max (xQ pre) (max (deep y) 0)) (max (xQ a) (xQ b))+1<=D;simp only[Qq];lia
 | @take m x a b v ih=>
  intro pre C D gp ga gb hl hC hD;rw[sB]at hC;rw[rZ]at hD;simp only[Qq]at hD;simp only[aK]at hl;have ga':∀x∈a,eI (2 * mP) x:=fun z hz=>ga z (aL _ hz);have gpa:=zX gp ga';show rO C D (.take [] pre.length::rM pre.length m) _ _;refine .cons (y:=listOf (pre++a)) trivial ?_ ((sE (oQ gpa)).mpr ⟨by rw[aC];lia,gpa⟩) ?_ ?_ (ih gp ga' gb (by lia) (by lia) (by simp only[Qq];lia))
  ·show Vatwvc.onList (fun l=>Vatwvc.takeAt l pre.length) (listOf (pre++x::a))=some (listOf (pre++a));refine eU.mpr ⟨rfl,_,?_,rfl⟩;rw[lS (oQ (zX gp ga))];unfold Vatwvc.takeAt;rw[if_pos (by simp only[aC,aK];lia),MW (aR _),mO];rfl
  ·rw[lP (oQ gpa)];show 1+wY (pre++a)<=C;rw[vE];lia
  ·rw[lQ (oQ gpa)];show xQ (pre++a)+1<=D;rw[vC];simp only[Qq];lia
 | @put m y a b v ih=>
  intro pre C D gp ga gb hl hC hD;rw[sB]at hC;rw[rZ]at hD;simp only[Qq]at hD;simp only[aK]at hl;have gy:=gb y aM;have gb':∀x∈b,eI (2 * mP) x:=fun z hz=>gb z (aL _ hz);have gpa:=FR gp gy ga;show rO C D (.put [] pre.length y::rM (pre.length+1) m) _ _;refine .cons (y:=listOf (pre++y::a)) gy ?_ ((sE (oQ gpa)).mpr ⟨by simp only[aC,aK];lia,gpa⟩) ?_ ?_ ?_
  ·show Vatwvc.onList (fun l=>Vatwvc.putAt l pre.length y) (listOf (pre++a))=some (listOf (pre++y::a));refine eU.mpr ⟨rfl,_,?_,rfl⟩;rw[lS (oQ (zX gp ga))];refine jA.mpr ⟨by rw[aC];lia,?_⟩;rw[GN,qG]
  ·rw[lP (oQ gpa)];show 1+wY (pre++y::a)<=C;rw[vE,sB];lia
  ·rw[lQ (oQ gpa)];show xQ (pre++y::a)+1<=D;rw[vC,rZ];simp only[Qq];lia
  ·rw[uC pre a y,uC pre b y];have e:pre.length+1=(pre++[y]).length:=by simp
   rw[e];refine ih (zX gp fun z hz=>by rw[bU]at hz;rw[hz];exact gy) ga gb' (by simp only[aC,aK,fY];lia) ?_ ?_
   ·rw[vE,sB];show 1+(wY pre+(count y+0))+wY a+wY b<=C;lia
   ·rw[vC,rZ];show max (max (xQ pre) (max (deep y) 0)) (max (xQ a) (xQ b))+1<=D;simp only[Qq];lia
inductive Rows (a:List Value):List Value->List Plan->Prop where
 | nil {p:Plan}:DP p.moves a []->Rows a [] [p]
 | cons {p:Plan} {y:Value} {b:List Value} {ps:List Plan}:DP p.moves a (y::b)->Rows a b ps->Rows a (y::b) (p::ps)
theorem Rows.head (h:Rows a b ps):∃p r,ps=p::r/\DP p.moves a b:=by
 cases h with
 | nil v=>exact⟨_,_,rfl,v⟩
 | cons v _=>exact⟨_,_,rfl,v⟩
theorem TV:∀b:List Value,Rows [] b (WT b)
 | []=>.nil .nil
 | w::r=>by have ih:=TV r;obtain⟨p,t,e,v⟩:=ih.head;show Rows [] (w::r) (WU (1+count w) (.put w) ((WT r).headD ⟨0,[]⟩)::WT r);refine .cons ?_ ih;rw[e];exact .put v
theorem KG (a b:Plan):IH a b=a\/IH a b=b:=by unfold IH;split<;>simp
theorem UB:∀{b:List Value} {ps:List Plan},(∀y∈b,rO (count x+count y) (max (deep x) (deep y)) (g y).edits x y)->Rows a b ps->Rows (x::a) b (sM (b.map g) b ps)
 | [],_,_,.nil v=>by show Rows (x::a) [] [WU 1 .take _];exact .nil (.take v)
 | y::b,_,hw,.cons (p:=p) (ps:=ps) v t=>by
  have ih:=UB (fun z hz=>hw z (aL _ hz)) t;obtain⟨q,r,e,vq⟩:=ih.head;obtain⟨q',r',e',vq'⟩:=t.head;show Rows (x::a) (y::b) (IH (IH (WU (g y).cost (.keep (g y).edits) (ps.headD ⟨0,[]⟩)) (WU 1 .take p)) (WU (1+count y) (.put y) ((sM (b.map g) b ps).headD ⟨0,[]⟩))::sM (b.map g) b ps);refine .cons ?_ ih;rcases KG (IH (WU (g y).cost (.keep (g y).edits) (ps.headD ⟨0,[]⟩)) (WU 1 .take p)) (WU (1+count y) (.put y) ((sM (b.map g) b ps).headD ⟨0,[]⟩))with h | h
  ·rw[h];rcases KG (WU (g y).cost (.keep (g y).edits) (ps.headD ⟨0,[]⟩)) (WU 1 .take p)with h | h
   ·rw[h,e'];exact .keep (hw y aM) vq'
   ·rw[h];exact .take v
  ·rw[h,e];exact .put vq
theorem Mi {g:Value->Value->iR} {b:List Value}:∀{a:List Value},(∀x∈a,∀y∈b,rO (count x+count y) (max (deep x) (deep y)) (g x y).edits x y)->
  Rows a b (a.foldr (fun x row=>sM (b.map (g x)) b row) (WT b))
 | [],_=>TV b
 | x::a,h=>UB (h x aM) (Mi fun z hz=>h z (aL _ hz))
noncomputable def uD (g:Value->Value->iR) (l:List ((Name×Value)×(Name×Value))):List gH:=l.flatMap fun z=>(g z.1.2 z.2.2).edits.map (gX (.field z.1.1))
theorem KQ (g:Value->Value->iR):∀(l:List ((Name×Value)×(Name×Value))) (d:iR),
  l.foldl (fun d z=>(let x:=g z.1.2 z.2.2;andThen d ⟨x.cost,x.edits.map (gX (.field z.1.1))⟩)) d=⟨d.cost+(l.map fun z=>(g z.1.2 z.2.2).cost).sum,d.edits++uD g l⟩
 | [],d=>by simp[uD]
 | z::l,d=>by rw[mC,KQ g l];simp[andThen,uD,Dr]
theorem PY {g:Value->Value->iR}:∀(a b:List (Name×Value)) {pre:List (Name×Value)} {C D:Nat},a.map (fun x=>x.1)=b.map (fun x=>x.1)->pH (2 * mP) pre->pH (2 * mP) a->pH (2 * mP) b->
  distinct ((pre++a).map fun x=>x.1)=true->pre.length+a.length<=2 * mP->1+CU pre+CU a+CU b<=C->max (EH pre) (max (EH a) (EH b))+1<=D->
  (∀z∈a.zip b,rO (count z.1.2+count z.2.2) (max (deep z.1.2) (deep z.2.2)) (g z.1.2 z.2.2).edits z.1.2 z.2.2)->
  rO C D (uD g (a.zip b)) (recordOf (pre++a)) (recordOf (pre++b))
 | [],[],pre,C,D,_,_,_,_,_,_,_,_,_=>.nil _
 | [],_::_,_,_,_,h,_,_,_,_,_,_,_,_=>by cases h
 | _::_,[],_,_,_,h,_,_,_,_,_,_,_,_=>by cases h
 | (n,x)::a,(m,y)::b,pre,C,D,h,fp,fa,fb,hd,hl,hC,hD,hw=>by
  simp only[aP,dE]at h;obtain⟨rfl,h⟩:=h;rw[GB,GB]at hC;rw[FZ,FZ]at hD;simp only[aK]at hl;simp only[Qq]at hC hD;obtain⟨hn,gx⟩:=fa _ aM;obtain⟨_,gy⟩:=fb _ aM;have fa':pH (2 * mP) a:=fun z hz=>fa z (aL _ hz);have fb':pH (2 * mP) b:=fun z hz=>fb z (aL _ hz);have w:=hw ((n,x),(n,y)) (by rw[xU];exact aM);have e:uD g (((n,x)::a).zip ((n,y)::b))=(g x y).edits.map (gX (.field n))++uD g (a.zip b):=by rw[xU];unfold uD;rw[dY]
  rw[e];refine(w.field fp fa' hn gx hd (by lia) (by simp only;lia) (by simp only[Qq];lia)).append ?_;simp only;rw[uC pre a (n,y),uC pre b (n,y)];refine PY a b h (fun z hz=>?_) fa' fb' ?_ (by simp only[aC,aK,fY];lia) ?_ ?_ (fun z hz=>hw z (by rw[xU];exact aL _ hz))
  ·  rcases eJ.mp hz with hz | hz
     ·exact fp z hz
     ·rw[bU]at hz;rw[hz];exact⟨hn,gy⟩
  ·  rw[<-uC,<-YZ x y];exact hd
  ·  rw[OW,GB];show 1+(CU pre+(count y+0))+CU a+CU b<=C;lia
  ·  rw[OV,FZ];show max (max (EH pre) (max (deep y) 0)) (max (EH a) (EH b))+1<=D;simp only[Qq];lia
theorem Oc:∀(f:Nat) {v w:Value},eI mP v->eI mP w->rO (count v+count w) (max (deep v) (deep w)) (rL f v w).edits v w:=by
 have hset:∀{v w:Value},eI mP w->rO (count v+count w) (max (deep v) (deep w)) [.set [] w] v w:=fun {v w} gw=>.cons (gw.mono (by decide)) rfl (gw.mono (by decide)) (by lia) (by lia) (.nil _);have hch:∀{v w:Value} {a b:iR} {C D:Nat},rO C D a.edits v w->rO C D b.edits v w->rO C D (cheaper a b).edits v w:=fun {v w a b C D} ha hb=>by
  unfold cheaper;split
  ·exact hb
  ·exact ha
 intro f;induction f with
 | zero=>
  intro v w gv gw;unfold rL;split
  ·rename_i h;rw[h];exact .nil _
  ·exact hset gw
 | succ f ih=>
  intro v w gv gw;unfold rL;simp only;split
  ·rename_i h;rw[h];exact .nil _
  ·split
   ·rename_i hr
    split
    ·rename_i hn
     refine hch ?_ (hset gw);rw[KQ (fun x y=>rL f x y)];simp only[gR];have ka:=gv.kids hr.1;have kb:=gw.kids hr.2;have fa:pH mP (kidsOf v):=ka.2.2;have fb:pH mP (kidsOf w):=kb.2.2;have cv:count v=1+CU (kidsOf v):=by
      conv=>lhs;rw[<-fX gv.1 hr.1]
      exact mS fa.one
     have cw:count w=1+CU (kidsOf w):=by
      conv=>lhs;rw[<-fX gw.1 hr.2]
      exact mS fb.one
     have dv:deep v=EH (kidsOf v)+1:=by
      conv=>lhs;rw[<-fX gv.1 hr.1]
      exact mG fa.one
     have dw:deep w=EH (kidsOf w)+1:=by
      conv=>lhs;rw[<-fX gw.1 hr.2]
      exact mG fb.one
     have:=PY (g:=fun x y=>rL f x y) (kidsOf v) (kidsOf w) (pre:=[]) (C:=count v+count w) (D:=max (deep v) (deep w)) hn (fun z hz=>by cases hz)
      (fun z hz=>⟨(fa z hz).1,(fa z hz).2.mono (by decide)⟩) (fun z hz=>⟨(fb z hz).1,(fb z hz).2.mono (by decide)⟩) ka.2.1
      (by have:=ka.1;simp only[fY];unfold mP at *;lia) (by rw[cv,cw];show 1+0+_+_<=_;lia) (by rw[dv,dw];show max 0 _+1<=_;lia)
      (fun z hz=>by have m:=oY hz;exact ih (fa _ m.1).2 (fb _ m.2).2)
     simp only[gR]at this;rw[fX gv.1 hr.1,fX gw.1 hr.2]at this;exact this
    ·exact hset gw
   ·split
    ·rename_i hr
     refine hch ?_ (hset gw);have ka:=gv.items hr.1;have kb:=gw.items hr.2;obtain⟨p,r,e,vp⟩:=(Mi (g:=fun x y=>rL f x y) (b:=itemsOf w) (a:=itemsOf v) fun x hx y hy=>ih (ka.2 x hx) (kb.2 y hy)).head;have e':(List.foldr (fun x row=>sM (List.map (rL f x) (itemsOf w)) (itemsOf w) row) (WT (itemsOf w)) (itemsOf v)).headD ⟨0,[]⟩=p:=by have:List.foldr (fun x row=>sM (List.map (rL f x) (itemsOf w)) (itemsOf w) row) (WT (itemsOf w)) (itemsOf v)=p::r:=e;rw[this];rfl
     rw[e'];simp only;have cv:count v=1+wY (itemsOf v):=by
      conv=>lhs;rw[<-iK gv.1 hr.1 (gv.names hr.1)]
      exact lP lN
     have cw:count w=1+wY (itemsOf w):=by
      conv=>lhs;rw[<-iK gw.1 hr.2 (gw.names hr.2)]
      exact lP lN
     have dv:deep v=xQ (itemsOf v)+1:=by
      conv=>lhs;rw[<-iK gv.1 hr.1 (gv.names hr.1)]
      exact lQ lN
     have dw:deep w=xQ (itemsOf w)+1:=by
      conv=>lhs;rw[<-iK gw.1 hr.2 (gw.names hr.2)]
      exact lQ lN
     have:=Ps vp (pre:=[]) (C:=count v+count w) (D:=max (deep v) (deep w)) (fun z hz=>by cases hz) (fun z hz=>(ka.2 z hz).mono (by decide)) (fun z hz=>(kb.2 z hz).mono (by decide))
      (by have:=ka.1;have:=kb.1;simp only[fY];unfold mP at *;lia) (by rw[cv,cw];show 1+0+_+_<=_;lia) (by rw[dv,dw];show max 0 _+1<=_;lia)
     simp only[gR,fY]at this;rw[iK gv.1 hr.1 (gv.names hr.1),iK gw.1 hr.2 (gw.names hr.2)]at this;exact this
    ·exact hset gw
theorem Ja (hv:isValue v=true) (hw:isValue w=true):Vatwvc.rowOn (cD v w).edits v=some (w,Vatwvc.turnedAll (cD v w).edits v)/\∀e∈(cD v w).edits,uB (2 * mP) e:=by
 obtain⟨gv,cv,dv⟩:=dS.mp hv;obtain⟨gw,cw,dw⟩:=dS.mp hw;have h:=Oc (deep v+1) gv gw;refine⟨nZ.mpr ⟨h.runs ?_ ?_,hw,rfl⟩,h.fine⟩
 ·unfold OD at *;lia
 ·lia
theorem xA (o:mQ v) (h:x∈kidsOf v):deep x.2+1<=deep v:=by
 rcases o.cases with⟨t,rfl⟩ | ⟨z,rfl⟩ | ⟨k,rfl⟩ | ⟨k,rfl⟩
 ·cases h
 ·cases h
 all_goals
  show _<=max (deep k+1) 0
  rw[jQ k]
  have:=pY.mp (aR (pX ((entries k).map fun x=>deep x.2))) _ (aX.mpr ⟨x,h,rfl⟩)
  lia
theorem Ny (o:mQ v) (h:x∈kidsOf v):count x.2+1<=count v:=by
 rcases o.cases with⟨t,rfl⟩ | ⟨z,rfl⟩ | ⟨k,rfl⟩ | ⟨k,rfl⟩
 ·cases h
 ·cases h
 all_goals
  show _<=1+count k+0
  rw[kU k]
  have:=IY (l:=entries k) h
  lia
theorem oW (h:isValue v=true) (hx:x∈kidsOf v):isValue x.2=true:=by
 obtain⟨g,c,d⟩:=dS.mp h;refine dS.mpr ⟨?_,by have:=Ny g.1 hx;lia,by have:=xA g.1 hx;lia⟩;rcases g.1.cases with⟨t,rfl⟩ | ⟨z,rfl⟩ | ⟨k,rfl⟩ | ⟨k,rfl⟩
 ·cases hx
 ·cases hx
 ·exact((g.kids rfl).2.2 x hx).2
 ·exact(g.items rfl).2 x.2 (aX.mpr ⟨x,hx,rfl⟩)
theorem CD (h:isValue v=true) (hx:x∈itemsOf v):isValue x=true:=by obtain⟨y,hy,rfl⟩:=aX.mp hx;exact oW h hy
theorem SU:∀{l:List A} (b:B),(∀b,∀a∈l,f b a=g b a)->l.foldl f b=l.foldl g b
 | [],_,_=>rfl
 | a::l,b,h=>by rw[mC,mC,h b a aM];exact SU _ fun b x hx=>h b x (aL _ hx)
theorem SV:∀{l:List A} (b:B),(∀b,∀a∈l,f a b=g a b)->l.foldr f b=l.foldr g b
 | [],_,_=>rfl
 | a::l,b,h=>by rw[List.foldr_cons,List.foldr_cons,SV b fun b x hx=>h b x (aL _ hx)];exact h _ a aM
noncomputable def nB (w:Value):iR:=⟨1+count w,[.set [] w]⟩
noncomputable def CL (s:Step) (x:iR):iR:=⟨x.cost,x.edits.map (gX s)⟩
noncomputable def NT (G:Value->Value->iR) (a b:List (Name×Value)):iR:=(a.zip b).foldl (fun d z=>andThen d (CL (.field z.1.1) (G z.1.2 z.2.2))) ⟨0,[]⟩
noncomputable def oJ (G:Value->Value->iR) (a b:List Value):List Plan:=a.foldr (fun x row=>sM (b.map (G x)) b row) (WT b)
noncomputable def mX (G:Value->Value->iR) (a b:List Value):Plan:=(oJ G a b).headD ⟨0,[]⟩
noncomputable def gT (G:Value->Value->iR) (a b:List Value) (j:Nat):iR:=⟨(mX G a b).cost,rM j (mX G a b).moves⟩
noncomputable def lU (G:Value->Value->iR) (v w:Value):iR:=if v=w then ⟨0,[]⟩else if isRecord v=true/\isRecord w=true then (if (kidsOf v).map (fun x=>x.1)=(kidsOf w).map (fun x=>x.1)then cheaper (NT G (kidsOf v) (kidsOf w)) (nB w)else nB w)else if isList v=true/\isList w=true then cheaper (gT G (itemsOf v) (itemsOf w) 0) (nB w)else nB w
theorem yV (f:Nat) (v w:Value):rL (f+1) v w=lU (rL f) v w:=rfl
theorem LA (h:∀x∈kidsOf v,∀y,F x.2 y=G x.2 y):lU F v w=lU G v w:=by
 have e1:NT F (kidsOf v) (kidsOf w)=NT G (kidsOf v) (kidsOf w):=SU _ fun b z hz=>by show andThen b (CL _ (F _ _))=andThen b (CL _ (G _ _));rw[h z.1 (oY hz).1 z.2.2]
 have e2:oJ F (itemsOf v) (itemsOf w)=oJ G (itemsOf v) (itemsOf w):=SV _ fun b x hx=>by obtain⟨y,hy,rfl⟩:=aX.mp hx;show sM ((itemsOf w).map (F y.2)) _ _=sM ((itemsOf w).map (G y.2)) _ _;rw[show F y.2=G y.2 from funext (h y hy)]
 unfold lU gT mX;rw[e1,e2]
theorem YL:∀(f g:Nat) {v w:Value},mQ v->deep v<=f->deep v<=g->rL f v w=rL g v w
 | 0,_,v,w,o,hf,_=>absurd (qU o) (by lia)
 | _+1,0,v,w,o,_,hg=>absurd (qU o) (by lia)
 | f+1,g+1,v,w,o,hf,hg=>by rw[yV,yV];refine LA fun x hx y=>?_;have:=xA o hx;exact YL f g (mW x hx) (by lia) (by lia)
theorem Lj (o:mQ v):cD v w=lU cD v w:=by show rL (deep v+1) v w=_;rw[yV];refine LA fun x hx y=>?_;have:=xA o hx;exact YL _ _ (mW x hx) (by lia) (by lia)
section
variable {G:Value->Value->iR}
theorem LP:∀a:List Value,∃p,oJ G a []=[p]
 | []=>⟨_,rfl⟩
 | x::a=>by obtain⟨p,e⟩:=LP a;refine⟨WU 1 .take p,?_⟩;show sM [] [] (oJ G a [])=_;rw[e];rfl
theorem HF:∀(a:List Value) (w:Value) (b:List Value),∃p,oJ G a (w::b)=p::oJ G a b
 | [],w,b=>⟨_,rfl⟩
 | x::a,w,b=>by obtain⟨p,e⟩:=HF a w b;show ∃q,sM (G x w::b.map (G x)) (w::b) (oJ G a (w::b))=q::sM (b.map (G x)) b (oJ G a b);rw[e];exact⟨_,rfl⟩
theorem Ge (x:Value) (a:List Value):mX G (x::a) []=WU 1 .take (mX G a []):=by obtain⟨p,e⟩:=LP (G:=G) a;show(sM [] [] (oJ G a [])).headD _=WU 1 .take ((oJ G a []).headD _);rw[e];rfl
theorem Gd (x:Value) (a:List Value) (w:Value) (b:List Value):mX G (x::a) (w::b)=
  IH (IH (WU (G x w).cost (.keep (G x w).edits) (mX G a b)) (WU 1 .take (mX G a (w::b)))) (WU (1+count w) (.put w) (mX G (x::a) b)):=by
 obtain⟨p,e⟩:=HF (G:=G) a w b;have e2:mX G a (w::b)=p:=by unfold mX;rw[e];rfl
 show(sM (G x w::b.map (G x)) (w::b) (oJ G a (w::b))).headD _=_;rw[e2,e];rfl
noncomputable def MM (j:Nat):iR:=⟨1,[.take [] j]⟩
noncomputable def VC (j:Nat) (w:Value):iR:=⟨1+count w,[.put [] j w]⟩
theorem SG (w:Value) (b:List Value) (j:Nat):gT G [] (w::b) j=andThen (VC j w) (gT G [] b (j+1)):=rfl
theorem SF (x:Value) (a:List Value) (j:Nat):gT G (x::a) [] j=andThen (MM j) (gT G a [] j):=by unfold gT;rw[Ge];rfl
theorem RZ (p q:Plan) (j:Nat):(⟨(IH p q).cost,rM j (IH p q).moves⟩:iR)=cheaper ⟨p.cost,rM j p.moves⟩ ⟨q.cost,rM j q.moves⟩:=by
 unfold IH cheaper;show _=if q.cost < p.cost then _ else _
 split<;>rfl
theorem SE (x:Value) (a:List Value) (w:Value) (b:List Value) (j:Nat):gT G (x::a) (w::b) j=
  cheaper (cheaper (andThen (CL (.item j) (G x w)) (gT G a b (j+1))) (andThen (MM j) (gT G a (w::b) j))) (andThen (VC j w) (gT G (x::a) b (j+1))):=by
 show(⟨(mX G (x::a) (w::b)).cost,rM j (mX G (x::a) (w::b)).moves⟩:iR)=_;rw[Gd,RZ,RZ];rfl
end
structure oE (n d:Nat) (r:iR):Prop where
 len:r.edits.length<=r.cost
 le:r.cost<=n
 ok:∀e∈r.edits,isEdit e=true/\(pathIn e).length<=d
theorem oE.mono (h:oE n d r) (l:n<=m) (l':d<=d'):oE m d' r:=⟨h.len,bI h.le l,fun e he=>⟨(h.ok e he).1,bI (h.ok e he).2 l'⟩⟩
theorem oE.zero (n d:Nat):oE n d ⟨0,[]⟩:=⟨aR _,aY _,fun e he=>by cases he⟩
theorem oE.andThen (h:oE n d r) (k:oE m d q):oE (n+m) d (andThen r q):=⟨by show(r.edits++q.edits).length<=r.cost+q.cost;rw[aC];have:=h.len;have:=k.len;lia,by show r.cost+q.cost<=_;have:=h.le;have:=k.le;lia,fun e he=>(eJ.mp he).elim (h.ok e) (k.ok e)⟩
theorem oE.cheaper (h:oE n d r) (k:oE n d q):oE n d (cheaper r q):=by unfold Vatwvc.cheaper;split<;>assumption
theorem oE.cheap (h:oE n d r) (k:oE m d q):oE m d (Vatwvc.cheaper r q):=by
 unfold Vatwvc.cheaper;split
 ·exact k
 ·exact⟨h.len,by have:=k.le;lia,h.ok⟩
theorem Bn (hs:isStep s=true) (h:isEdit e=true):isEdit (gX s e)=true:=by unfold isEdit at h ⊢;rw[aE]at h ⊢;refine⟨?_,by cases e<;>exact h.2⟩;rw[tM,cR,hs,h.1];rfl
theorem oE.led (hs:isStep s=true) (h:oE n d r):oE n (d+1) (CL s r):=⟨by show(r.edits.map _).length<=r.cost;rw[aJ];exact h.len,h.le,fun e he=>by obtain⟨e',he',rfl⟩:=aX.mp he;refine⟨Bn hs (h.ok e' he').1,?_⟩;rw[tM,aK];have:=(h.ok e' he').2;lia⟩
theorem BK (d:Nat) (h:isValue w=true):oE 61 d (nB w):=
 ⟨by show 1<=1+_;lia,by obtain⟨_,c,_⟩:=dS.mp h;show 1+count w<=61;unfold OD at c;lia,fun e he=>by
  cases he with
  | head=>exact⟨by unfold isEdit;exact h,aY _⟩
  | tail _ h=>cases h⟩
theorem pN (h:j<=100):decide (j<=GREATEST)=true:=decide_eq_true (bI h (by decide))
theorem ZA (d:Nat) (h:j<=100):oE 61 d (MM j):=
 ⟨aR _,by show 1<=61;lia,fun e he=>by
  cases he with
  | head=>exact⟨pN h,aY _⟩
  | tail _ h=>cases h⟩
theorem Fk (d:Nat) (h:j<=100) (hw:isValue w=true):oE 61 d (VC j w):=
 ⟨by show 1<=1+_;lia,by obtain⟨_,c,_⟩:=dS.mp hw;show 1+count w<=61;unfold OD at c;lia,fun e he=>by
  cases he with
  | head=>exact⟨by show(true && (decide (j<=GREATEST) && isValue w))=true;rw[pN h,hw];rfl,aY _⟩
  | tail _ h=>cases h⟩
theorem uI:∀(a b:List Value) (j:Nat),j+b.length<=100->(∀y∈b,isValue y=true)->(∀x∈a,∀y∈b,oE 61 d (G x y))->oE (61 * (a.length+b.length)) (d+1) (gT G a b j)
 | [],[],j,_,_,_=>oE.zero _ _
 | [],w::b,j,hj,hb,hg=>by rw[SG];rw[aK]at hj;have:=(Fk (d+1) (j:=j) (by lia) (hb w aM)).andThen (uI [] b (j+1) (by lia) (fun y hy=>hb y (aL _ hy)) (fun x hx=>by cases hx) (G:=G));exact this.mono (by simp only[aK];lia) (aR _)
 | x::a,[],j,hj,hb,hg=>by rw[SF];have:=(ZA (d+1) (j:=j) (by lia)).andThen (uI a [] j hj hb (fun x hx y hy=>by cases hy) (G:=G));exact this.mono (by simp only[aK];lia) (aR _)
 | x::a,w::b,j,hj,hb,hg=>by rw[SE];rw[aK]at hj;have hb':∀y∈b,isValue y=true:=fun y hy=>hb y (aL _ hy);have h1:=((hg x aM w aM).led (s:=.item j) (pN (by lia))).andThen (uI a b (j+1) (by lia) hb' fun x hx y hy=>hg x (aL _ hx) y (aL _ hy));have h2:=(ZA (d+1) (j:=j) (by lia)).andThen (uI a (w::b) j (by simp only[aK];lia) hb fun x hx=>hg x (aL _ hx));have h3:=(Fk (d+1) (j:=j) (by lia) (hb w aM)).andThen (uI (x::a) b (j+1) (by lia) hb' fun x hx y hy=>hg x hx y (aL _ hy));refine oE.cheaper (oE.cheaper (h1.mono ?_ (aR _)) (h2.mono ?_ (aR _))) (h3.mono ?_ (aR _))<;>simp only[aK]<;>lia
theorem NL {G:Value->Value->iR} {d:Nat}:∀(l:List ((Name×Value)×(Name×Value))) (r:iR) (n:Nat),oE n (d+1) r->(∀z∈l,isName z.1.1=true/\oE 61 d (G z.1.2 z.2.2))->
  oE (n+61 * l.length) (d+1) (l.foldl (fun d z=>andThen d (CL (.field z.1.1) (G z.1.2 z.2.2))) r)
 | [],r,n,h,_=>h
 | z::l,r,n,h,hl=>by have hz:=hl z aM;have:=NL l _ (n+61) (h.andThen (hz.2.led (s:=.field z.1.1) hz.1)) fun y hy=>hl y (aL _ hy);rw[mC];exact this.mono (by simp only[aK];lia) (aR _)
theorem uJ:∀(n:Nat) {v w:Value},deep v<=n->isValue v=true->isValue w=true->oE 61 n (cD v w)
 | 0,v,w,hn,hv,_=>absurd (qU (dS.mp hv).1.1) (by lia)
 | n+1,v,w,hn,hv,hw=>by
  obtain⟨gv,cv,dv⟩:=dS.mp hv;obtain⟨gw,cw,dw⟩:=dS.mp hw;have ih:∀x∈kidsOf v,∀y,isValue y=true->oE 61 n (cD x.2 y):=fun x hx y hy=>uJ n (by have:=xA gv.1 hx;lia) (oW hv hx) hy;rw[Lj gv.1];unfold lU;split
  ·exact oE.zero _ _
  ·split
   ·rename_i hr
    split
    ·refine oE.cheap (n:=0+61 * ((kidsOf v).zip (kidsOf w)).length) (NL _ _ _ (oE.zero _ _) fun z hz=>?_) (BK _ hw);have m:=oY hz;exact⟨((gv.kids hr.1).2.2 _ m.1).1,ih _ m.1 _ (oW hw m.2)⟩
    ·exact BK _ hw
   ·split
    ·rename_i hr
     refine oE.cheap (uI _ _ 0 ?_ (fun y hy=>CD hw hy) fun x hx y hy=>?_) (BK _ hw)
     ·have:=(gw.items hr.2).1;unfold mP at this;lia
     ·obtain⟨x',hx',rfl⟩:=aX.mp hx;exact ih x' hx' y (CD hw hy)
    ·exact BK _ hw
theorem QL:∀(n:Nat) (f g:Nat),n < f->n < g->RQ f n=RQ g n:=by
 intro n;induction n using wQ with
 | _ n ih=>
  intro f g hf hg;cases f with
  | zero=>lia
  | succ f=>
   cases g with
   | zero=>lia
   | succ g=>
    unfold RQ;split
    ·rfl
    ·rw[ih (n / 10) (by lia) f g (by lia) (by lia)]
theorem nU (h:n < 10):decimal n=[sP (48+n)]:=by unfold decimal RQ;rw[if_pos h]
theorem rP (h:¬n < 10):decimal n=decimal (n / 10)++[sP (48+n % 10)]:=by
 conv=>lhs;unfold decimal RQ
 rw[if_neg h];unfold decimal;rw[QL (n / 10) n (n / 10+1) (by lia) (by lia)]
noncomputable def DV (d:Nat):UInt8:=sP (48+d)
theorem pJ (h:d < 10):(DV d).toNat=48+d:=by unfold DV;rw[UInt8.toNat_ofNat'];lia
theorem kW:isDigit b=true↔48<=b.toNat/\b.toNat<=57:=by simp only[isDigit,aE,decide_eq_true_eq,DJ];exact PZ
theorem vG:isSmall b=true↔97<=b.toNat/\b.toNat<=122:=by simp only[isSmall,aE,decide_eq_true_eq,DJ];exact PZ
theorem TH:isSign b=true↔32<=b.toNat/\b.toNat<=126:=by simp only[isSign,aE,decide_eq_true_eq,DJ];exact PZ
theorem GZ (h:d < 10):isDigit (DV d)=true:=by rw[kW,pJ h];lia
theorem Ei (h:isDigit b=true):b=DV (b.toNat - 48):=by rw[kW]at h;apply lZ.mp;rw[pJ (by lia)];lia
theorem pI:∀n:Nat,(decimal n).all isDigit=true:=by
 intro n;induction n using wQ with
 | _ n ih=>
  by_cases h:n < 10
  ·rw[nU h];simp only[cR,List.all_nil,lE];exact GZ h
  ·rw[rP h,WD,ih _ (by lia)];simp only[cR,List.all_nil,lE,Bool.true_and];exact GZ (Ak _ (by decide))
theorem wZ (n:Nat):decimal n≠[]:=by
 by_cases h:n < 10
 ·rw[nU h];simp
 ·rw[rP h];simp
noncomputable def val (t:bW):Nat:=t.foldl (fun n b=>10 * n+(b.toNat - 48)) 0
theorem Hd (t:bW) (b:UInt8):val (t++[b])=10 * val t+(b.toNat - 48):=by unfold val;rw[NY];rfl
theorem FA:∀n:Nat,val (decimal n)=n:=by
 intro n;induction n using wQ with
 | _ n ih=>
  by_cases h:n < 10
  ·rw[nU h];show 10 * 0+((DV n).toNat - 48)=n;rw[pJ h];lia
  ·rw[rP h,Hd,ih _ (by lia)];show 10 * (n / 10)+((DV (n % 10)).toNat - 48)=n;rw[pJ (Ak _ (by decide))];lia
theorem Bd:∀n:Nat,1<=n->(decimal n).head?≠some 48:=by
 intro n;induction n using wQ with
 | _ n ih=>
  intro h1;by_cases h:n < 10
  ·rw[nU h];intro e;have e:DV n=48:=cP e;have:=congrArg iC e;rw[pJ h]at this;have:(48:UInt8).toNat=48:=rfl
   lia
  ·rw[rP h,List.head?_append];have h2:=ih (n / 10) (by lia) (by lia);cases q:(decimal (n / 10)).head? with
   | none=>exact absurd (List.head?_eq_none_iff.mp q) (wZ _)
   | some b=>rw[q]at h2;exact h2
theorem mT:∀(k n:Nat),n < 10 ^ (k+1)->(decimal n).length<=k+1
 | 0,n,h=>by rw[nU (by lia)];simp
 | k+1,n,h=>by
  by_cases c:n < 10
  ·rw[nU c];simp
  ·rw[rP c,aC];have:=mT k (n / 10) (by rw[Nat.pow_succ]at h;lia);simp only[aK,fY];lia
theorem gD (h:n<=GREATEST):naturalOf (decimal n)=some n:=by
 unfold naturalOf;have hl:=mT 9 n (by unfold GREATEST at h;lia);have c:(!(decimal n).isEmpty && (decide ((decimal n).length<=10) && ((decimal n).all isDigit && ((decimal n).length == 1 || (decimal n).head? != some 48))))=true:=by
  simp only[aE,decide_eq_true_eq,eX,gQ,beq_iff_eq,bne_iff_ne];refine⟨by cases q:decimal n with
   | nil=>exact absurd q (wZ n)
   | cons a b=>rfl,hl,pI n,?_⟩
  by_cases z:n < 1
  ·left;rw[nU (by lia)];rfl
  ·right;exact Bd n (by lia)
 rw[if_pos c];show(if val (decimal n)<=GREATEST then some (val (decimal n))else none)=some n;rw[FA,if_pos h]
theorem Vy (h:l≠[]):∃a b,l=a++[b]:=⟨l.dropLast,l.getLast h,(wK h).symm⟩
theorem Ef:∀(k:Nat) (t:bW),t.length=k->t≠[]->t.all isDigit=true->(t.length=1\/t.head?≠some 48)->decimal (val t)=t/\(t.head?≠some 48->1<=val t):=by
 intro k;induction k with
 | zero=>intro t h n;exact absurd (iW.mp h) n
 | succ k ih=>
  intro t h n hd hz;obtain⟨a,b,rfl⟩:=Vy n;rw[WD,aE]at hd;have hb:isDigit b=true:=by simpa using hd.2
  have hb':=kW.mp hb;cases a with
  | nil=>
   have e:val ([]++[b])=b.toNat - 48:=by show 10 * 0+_=_;lia
   rw[e];refine⟨?_,fun z=>?_⟩
   ·rw[nU (by lia)];show [DV (b.toNat - 48)]=[b];rw[<-Ei hb]
   ·have:b≠48:=fun q=>z (by rw[q];rfl);have:b.toNat≠48:=fun q=>this (lZ.mp q)
    lia
  | cons c a=>
   simp only[aC,aK,fY]at h hz;have hz:(c::a).head?≠some 48:=by
    rcases hz with z | z
    ·lia
    ·exact z
   obtain⟨i1,i2⟩:=ih (c::a) (by simp only[aK];lia) (by simp) hd.1 (.inr hz);have i2:=i2 hz;have hv:=Hd (c::a) b;rw[hv];refine⟨?_,fun _=>by lia⟩;rw[rP (by lia)];have e1:(10 * val (c::a)+(b.toNat - 48)) / 10=val (c::a):=by lia
   have e2:(10 * val (c::a)+(b.toNat - 48)) % 10=b.toNat - 48:=by lia
   rw[e1,e2,i1];show _++[DV (b.toNat - 48)]=_;rw[<-Ei hb]
theorem mI:naturalOf t=some n↔n<=GREATEST/\decimal n=t:=by
 constructor
 ·intro h;unfold naturalOf at h;split at h
  ·rename_i c
   simp only[aE,decide_eq_true_eq,eX,gQ,beq_iff_eq,bne_iff_ne]at c;obtain⟨c1,c2,c3,c4⟩:=c;have h:(if val t<=GREATEST then some (val t)else none)=some n:=h;split at h
   ·rename_i g
    cases h;exact⟨g,(Ef _ t rfl (by intro q;rw[q]at c1;cases c1) c3 c4).1⟩
   ·cases h
  ·cases h
 ·rintro⟨h,rfl⟩;exact gD h
theorem BB (n:Nat):∃b r,decimal n=b::r/\isDigit b=true:=by
 cases q:decimal n with
 | nil=>exact absurd q (wZ n)
 | cons b r=>have:=pI n;rw[q,cR,aE]at this;exact⟨b,r,rfl,this.1⟩
theorem Eh (h:isDigit b=true) (hc:¬(48<=c.toNat/\c.toNat<=57)):b≠c:=by rintro rfl;exact hc (kW.mp h)
theorem KY (h:z.natAbs<=GREATEST):integerOf (integer z)=some z:=by
 unfold integer;split
 ·rename_i hz
  show((naturalOf (decimal z.natAbs)).bind fun n=>if n=0 then none else some (-(n:Int)))=some z;rw[gD h];simp only[jN];rw[if_neg (by lia)];congr 1
  lia
 ·rename_i hz
  obtain⟨b,r,e,hb⟩:=BB z.toNat;have hn:b≠45:=Eh hb (by decide);have:integerOf (decimal z.toNat)=(naturalOf (decimal z.toNat)).map fun n=>(n:Int):=by
   rw[e];unfold integerOf;split
   ·rename_i q;cases q;exact absurd rfl hn
   ·rfl
  rw[this,gD (by lia)];show some ((z.toNat:Int))=some z;congr 1
  lia
noncomputable def pZ (b:UInt8):Bool:=isDigit b || b == 45
theorem GY (z:Int):(integer z).all pZ=true:=by
 have h:∀n,(decimal n).all pZ=true:=fun n=>by rw[cA];intro b hb;have:=cA.mp (pI n) b hb;unfold pZ;rw[this];rfl
 unfold integer;split
 ·rw[cR,h];rfl
 ·exact h _
theorem tI (z:Int):∃b r,integer z=b::r/\pZ b=true:=by
 have h:=GY z;cases q:integer z with
 | nil=>
  unfold integer at q;split at q
  ·cases q
  ·exact absurd q (wZ _)
 | cons b r=>rw[q,cR,aE]at h;exact⟨b,r,rfl,h.1⟩
def qJ (p:UInt8->Bool) (r:bW):Prop:=∀b,r.head?=some b->p b=false
theorem pT:∀{w r:bW},w.all p=true->qJ p r->(w++r).takeWhile p=w
 | [],r,_,h=>by
  cases r with
  | nil=>rfl
  | cons b r=>rw[gR,JO,h b rfl];rfl
 | a::w,r,hw,h=>by rw[cR,aE]at hw;rw[iV,JO,hw.1,pT hw.2 h];rfl
noncomputable def marked (b:UInt8):bW:=if b=34\/b=92 then [92,b]else [b]
theorem qD (t:bW):quoted t=34::(t.flatMap marked++[34]):=rfl
theorem EZ:∀(t:bW) (r:bW),t.all isSign=true->unquoted (t.flatMap marked++(34::r))=some (t,r)
 | [],r,_=>by show unquoted (34::r)=_;unfold unquoted;rfl
 | b::t,r,h=>by
  rw[cR,aE]at h;have ih:=EZ t r h.2;rw[dY];unfold marked;split
  ·rename_i hb
   show unquoted (92::b::(t.flatMap marked++(34::r)))=_;rw[unquoted,if_pos hb,ih]
   ·rfl
  ·rename_i hb
   rw[not_or]at hb;show unquoted (b::(t.flatMap marked++(34::r)))=_;have:unquoted (b::(t.flatMap marked++(34::r)))=if (isSign b && b != 92)=true then (unquoted (t.flatMap marked++(34::r))).map fun x=>(b::x.1,x.2)else none:=by
    rw[unquoted]
    ·intro q;exact hb.1 q
    ·intro b' r' q _;exact hb.2 q
   rw[this,ih,if_pos (by rw[h.1];simpa using hb.2)];rfl
theorem nA (t:bW):valueText (vText t)=quoted t:=by show []++(quoted t++(if Row.nil=.nil then []else _))=_;rw[if_pos rfl,cI];rfl
theorem oV (z:Int):valueText (vNum z)=integer z:=by show []++(integer z++(if Row.nil=.nil then []else _))=_;rw[if_pos rfl,cI];rfl
theorem zG (k:Row):valueText (vRec k)=123::(rowText true k++[125]):=by show []++((if false=true then 91 else 123)::(rowText (!false) k++((if false=true then 93 else 125)::(if Row.nil=.nil then []else _))))=_;rw[if_pos rfl];rfl
theorem xJ (k:Row):valueText (vList k)=91::(rowText false k++[93]):=by show []++((if true=true then 91 else 123)::(rowText (!true) k++((if true=true then 93 else 125)::(if Row.nil=.nil then []else _))))=_;rw[if_pos rfl];rfl
theorem XJ (named:Bool) (n:Name) (r:Row) (h:mQ v):rowText named (entry n v r)=nameText named n++(valueText v++(if r=.nil then []else 44::32::rowText named r)):=by
 rcases h.cases with⟨t,rfl⟩ | ⟨z,rfl⟩ | ⟨k,rfl⟩ | ⟨k,rfl⟩
 ·rw[nA];rfl
 ·rw[oV];rfl
 ·rw[zG];show nameText named n++(123::(rowText true k++(125::(if r=.nil then []else 44::32::rowText named r))))=_;simp
 ·rw[xJ];show nameText named n++(91::(rowText false k++(93::(if r=.nil then []else 44::32::rowText named r))))=_;simp
noncomputable def cJ (named:Bool):List (Name×Value)->bW
 | []=>[]
 | x::l=>nameText named x.1++(valueText x.2++(if l.isEmpty=true then []else 44::32::cJ named l))
theorem HH (h:∀x∈l,mQ x.2):rowOf l=.nil↔l.isEmpty=true:=by
 cases l with
 | nil=>simp[rowOf]
 | cons x l=>simp only[List.isEmpty_cons,fR,iff_false];intro e;have:=fH _ h;rw[e]at this;cases this
theorem zC (named:Bool):∀{l:List (Name×Value)},(∀x∈l,mQ x.2)->rowText named (rowOf l)=cJ named l
 | [],_=>rfl
 | x::l,h=>by
  have h':∀y∈l,mQ y.2:=fun y hy=>h y (aL _ hy);show rowText named (entry x.1 x.2 (rowOf l))=_;rw[XJ named x.1 _ (h x aM),zC named h'];show _=nameText named x.1++(valueText x.2++(if l.isEmpty=true then []else 44::32::cJ named l));by_cases c:l.isEmpty=true
  ·rw[if_pos c,if_pos ((HH h').mpr c)]
  ·rw[if_neg c,if_neg fun q=>c ((HH h').mp q)]
noncomputable def jE:List Value->bW
 | []=>[]
 | x::l=>valueText x++(if l.isEmpty=true then []else 44::32::jE l)
theorem lA:∀l:List Value,cJ false (l.map fun v=>([],v))=jE l
 | []=>rfl
 | x::l=>by show []++(valueText x++(if (l.map _).isEmpty=true then []else 44::32::cJ false (l.map _)))=_;rw[lA l,List.isEmpty_map];rfl
theorem oA (h:∀x∈l,mQ x.2):valueText (recordOf l)=123::(cJ true l++[125]):=by show valueText (vRec (rowOf l))=_;rw[zG,zC true h]
theorem qF (h:∀x∈l,mQ x):valueText (listOf l)=91::(jE l++[93]):=by show valueText (vList (rowOf _))=_;rw[xJ,zC false (sH h),lA]
theorem xI (h:mQ v):∃b r,valueText v=b::r/\(pZ b=true\/b=34\/b=91\/b=123):=by
 rcases h.cases with⟨t,rfl⟩ | ⟨z,rfl⟩ | ⟨k,rfl⟩ | ⟨k,rfl⟩
 ·exact⟨34,_,nA t,.inr (.inl rfl)⟩
 ·obtain⟨b,r,e,hb⟩:=tI z;exact⟨b,r,by rw[oV,e],.inl hb⟩
 ·exact⟨123,_,zG k,.inr (.inr (.inr rfl))⟩
 ·exact⟨91,_,xJ k,.inr (.inr (.inl rfl))⟩
theorem xB (h:pZ b=true) (hc:pZ c=false):b≠c:=by rintro rfl;rw[h]at hc;cases hc
noncomputable def cG (b:UInt8):Bool:=isSmall b || isDigit b
theorem uH (h:isName n=true):n.all cG=true/\∃b r,n=b::r/\isSmall b=true:=by
 unfold isName at h;simp only[aE]at h;refine⟨h.2.2,?_⟩;cases n with
 | nil=>simp at h
 | cons b r=>exact⟨b,r,rfl,by simpa using h.1⟩
theorem Te (h:z.natAbs<=GREATEST) (hs:qJ pZ r):gG (f+1) .value (integer z++r)=some (vNum z,r):=by
 obtain⟨b,t,e,hb⟩:=tI z;have hd:(integer z++r).takeWhile (fun b=>isDigit b || b == 45)=integer z:=pT (GY z) hs;have n34:b≠34:=xB hb (by decide);have n91:b≠91:=xB hb (by decide);have n123:b≠123:=xB hb (by decide);rw[e,iV]at hd ⊢;unfold gG;split
 ·rename_i q;exact absurd (iU q).1 n34
 ·rename_i q;exact absurd (iU q).1 n91
 ·rename_i q;exact absurd (iU q).1 n123
 ·rename_i q;exact absurd (iU q).1 n91
 ·rename_i q;exact absurd (iU q).1 n123
 ·simp only;rw[hd,<-e,KY h];simp only[kI];rw[e,<-iV,qG]
theorem Pd (h:isText t=true):gG (f+1) .value (quoted t++r)=some (vText t,r):=by unfold isText at h;rw[aE]at h;show(unquoted ((t.flatMap marked++[34])++r)).map (fun x=>(vText x.1,x.2))=_;rw[eY,show([34]:bW)++r=34::r from rfl,EZ t r h.2];rfl
noncomputable def fL (named:Bool) (l:List (Name×Value)):bW:=if l.isEmpty=true then []else 44::32::cJ named l
theorem lM (named:Bool) (x:Name×Value) (l:List (Name×Value)):cJ named (x::l)=nameText named x.1++(valueText x.2++fL named l):=rfl
noncomputable def dG (isl:Bool):UInt8:=if isl=true then 93 else 125
theorem Kd:qJ pZ (fL (!isl) l++dG isl::r):=by
 intro b hb;unfold fL at hb;cases l with
 | nil=>
  have:dG isl=b:=by simpa using hb
  rw[<-this];cases isl<;>decide
 | cons x l=>
  have:(44:UInt8)=b:=by simpa using hb
  rw[<-this];decide
theorem BV:∀(l:List (Name×Value)) (f:Nat) (r:bW),l≠[]->(∀x∈l,mQ x.2)->(∀x∈l,(isl=true->x.1=[])/\(isl=false->isName x.1=true))->
  (∀x∈l,∀g s,2 * (valueText x.2).length<=g->qJ pZ s->gG g .value (valueText x.2++s)=some (x.2,s))->2 * (cJ (!isl) l).length+1<=f->
  gG f (.entries isl) (cJ (!isl) l++dG isl::r)=some (rowOf l,r)
 | [],_,_,h,_,_,_,_=>absurd rfl h
 | x::l,0,_,_,_,_,_,hf=>by lia
 | x::l,f+1,r,_,ho,hn,hv,hf=>by
  rw[lM]at hf ⊢;simp only[aC]at hf;have hx:=hv x aM f (fL (!isl) l++dG isl::r) (by lia) Kd;have hxn:=hn x aM;have ox:=ho x aM;have key:gG (f+1) (.entries isl) (nameText (!isl) x.1++(valueText x.2++fL (!isl) l)++dG isl::r)=(gG f .value (valueText x.2++(fL (!isl) l++dG isl::r))).bind fun y=>match y.2 with
    | 44::32::r=>(gG f (.entries isl) r).map fun z=>(entry x.1 y.1 z.1,z.2)
    | c::r=>if c=dG isl then some (entry x.1 y.1 .nil,r)else none
    | []=>none:=by
   cases isl with
   | true=>have e:x.1=[]:=hxn.1 rfl;rw[gG];simp only[if_true,jN];show(gG f .value ([]++(valueText x.2++fL false l)++dG true::r)).bind _=_;rw[gR,eY,e];rfl
   | false=>
    obtain⟨nb,b,t,e,hb⟩:=uH (hxn.2 rfl);have et:nameText true x.1++(valueText x.2++fL true l)++dG false::r=x.1++(58::32::(valueText x.2++(fL true l++dG false::r))):=by show(x.1++[58,32])++_++_=_;simp
    have hw:(x.1++(58::32::(valueText x.2++(fL true l++dG false::r)))).takeWhile (fun b=>isSmall b || isDigit b)=x.1:=pT nb (by
     intro c hc;have:(58:UInt8)=c:=by simpa using hc
     rw[<-this];decide)
    show gG (f+1) (.entries false) (nameText true x.1++(valueText x.2++fL true l)++dG false::r)=_;rw[et,gG];simp only[fR,if_false];rw[hw,qG];simp only[jN];rfl
  rw[key,hx];simp only[jN];cases l with
  | nil=>
   have:fL (!isl) []++dG isl::r=dG isl::r:=rfl;rw[this];show(match dG isl::r with
    | 44::32::r=>(gG f (.entries isl) r).map fun(z:Row×bW)=>(entry x.1 x.2 z.1,z.2)
    | c::r=>if c=dG isl then some (entry x.1 x.2 .nil,r)else none
    | []=>none)=_
   cases isl<;>rfl
  | cons y l=>
   have:fL (!isl) (y::l)++dG isl::r=44::32::(cJ (!isl) (y::l)++dG isl::r):=rfl;rw[this];have hf':2 * (cJ (!isl) (y::l)).length+1<=f:=by
    have:(fL (!isl) (y::l)).length=(cJ (!isl) (y::l)).length+2:=rfl
    lia
   have ih:=BV (isl:=isl) (y::l) f r (by simp) (fun z hz=>ho z (aL _ hz)) (fun z hz=>hn z (aL _ hz)) (fun z hz=>hv z (aL _ hz)) hf';show(gG f (.entries isl) (cJ (!isl) (y::l)++dG isl::r)).map (fun(z:Row×bW)=>(entry x.1 x.2 z.1,z.2))=_;rw[ih];rfl
theorem Kb (h:eI W v):∀f r,2 * (valueText v).length<=f->qJ pZ r->gG f .value (valueText v++r)=some (v,r):=by
 refine eI.ind (P:=fun v=>∀f r,2 * (valueText v).length<=f->qJ pZ r->gG f .value (valueText v++r)=some (v,r)) ?_ ?_ ?_ ?_ h
 ·intro t ht f r hf _;rw[nA]at hf ⊢;cases f with
  | zero=>simp[quoted]at hf
  | succ f=>exact Pd ht
 ·intro z hz f r hf hs;rw[oV]at hf ⊢;obtain⟨b,t,e,_⟩:=tI z;cases f with
  | zero=>rw[e]at hf;simp at hf
  | succ f=>exact Te hz hs
 ·intro l _ _ hn hp f r hf hs;have ho:∀x∈l,mQ x.2:=fun x hx=>(hn x hx).2.1;rw[oA ho]at hf ⊢;simp only[aK,aC,fY]at hf;cases f with
  | zero=>lia
  | succ f=>
   cases l with
   | nil=>rfl
   | cons x l=>
    have he:=BV (isl:=false) (x::l) f r (by simp) ho (fun y hy=>⟨fun q=>(by cases q),fun _=>(hn y hy).1⟩) (fun y hy=>hp y hy) (by show 2 * (cJ true (x::l)).length+1<=f;lia);obtain⟨_,b,t,e,hb⟩:=uH (hn x aM).1;have e2:∃u,cJ true (x::l)=b::u:=⟨_,by rw[lM,e];rfl⟩;obtain⟨u,e2⟩:=e2;have nb:b≠125:=by rintro rfl;revert hb;decide
    show gG (f+1) .value (123::((cJ true (x::l)++[125])++r))=_;have e3:(cJ true (x::l)++[125])++r=cJ true (x::l)++dG false::r:=by simp[dG]
    rw[e3];have he:gG f (.entries false) (cJ true (x::l)++dG false::r)=some (rowOf (x::l),r):=he;have k:gG (f+1) .value (123::(cJ true (x::l)++dG false::r))=(gG f (.entries false) (cJ true (x::l)++dG false::r)).map fun x=>(vRec x.1,x.2):=by rw[e2,iV];rw[gG];intro r' q;cases q;exact nb rfl
    rw[k,he];rfl
 ·intro l _ hn hp f r hf hs;have ho:∀x∈l,mQ x:=fun x hx=>(hn x hx).1;rw[qF ho]at hf ⊢;simp only[aK,aC,fY]at hf;cases f with
  | zero=>lia
  | succ f=>
   cases l with
   | nil=>rfl
   | cons x l=>
    have he:=BV (isl:=true) ((x::l).map fun v=>([],v)) f r (by simp) (sH ho) (fun y hy=>⟨fun _=>(by obtain⟨v,_,rfl⟩:=aX.mp hy;rfl),fun q=>(by cases q)⟩) (fun y hy=>by obtain⟨v,hv,rfl⟩:=aX.mp hy;exact hp v hv) (by show 2 * (cJ false _).length+1<=f;rw[lA];lia);have he:gG f (.entries true) (cJ false ((x::l).map fun v=>([],v))++dG true::r)=some (rowOf ((x::l).map fun v=>([],v)),r):=he;rw[lA]at he;obtain⟨b,t,e,hb⟩:=xI (ho x aM);have e2:∃u,jE (x::l)=b::u:=⟨_,by unfold jE;rw[e];rfl⟩;obtain⟨u,e2⟩:=e2;have nb:b≠93:=by rintro rfl;revert hb;decide
    show gG (f+1) .value (91::((jE (x::l)++[93])++r))=_;have e3:(jE (x::l)++[93])++r=jE (x::l)++dG true::r:=by simp[dG]
    rw[e3];have k:gG (f+1) .value (91::(jE (x::l)++dG true::r))=(gG f (.entries true) (jE (x::l)++dG true::r)).map fun x=>(vList x.1,x.2):=by rw[e2,iV];rw[gG];intro r' q;cases q;exact nb rfl
    rw[k,he];rfl
theorem sJ:valueOf t=some v↔isValue v=true/\valueText v=t:=by
 unfold valueOf;constructor
 ·intro h;cases q:gG (2 * t.length+2) .value t with
  | none=>rw[q]at h;cases h
  | some x=>
   rw[q]at h;simp only[jN]at h;split at h
   ·rename_i c
    cases h;simp only[aE,beq_iff_eq]at c;exact c.2
   ·cases h
 ·rintro⟨h,rfl⟩;have g:=(dS.mp h).1;have:=Kb g (2 * (valueText v).length+2) [] (by lia) (by intro b hb;cases hb);rw[cI]at this;rw[this];simp only[jN];rw[if_pos (by simp[h])]
theorem BA (c:UInt8) (t:bW):WS c (c::t)=[]::WS c t:=by rw[WS,if_pos rfl]
theorem DU (c:UInt8):∀(w t:bW),(∀b∈w,b≠c)->WS c (w++c::t)=w::WS c t
 | [],t,_=>BA c t
 | a::w,t,h=>by rw[iV,WS,if_neg (h a aM),DU c w t fun b hb=>h b (aL _ hb)]
theorem IR (c:UInt8):∀(w:bW),(∀b∈w,b≠c)->WS c w=[w]
 | [],_=>rfl
 | a::w,h=>by rw[WS,if_neg (h a aM),IR c w fun b hb=>h b (aL _ hb)]
theorem Hg (h:cG b=true) (hc:cG c=false):b≠c:=by rintro rfl;rw[h]at hc;cases hc
theorem KJ (n:Nat):(decimal n).all cG=true:=by rw[cA];intro b hb;have:=cA.mp (pI n) b hb;unfold cG;rw[this];simp
theorem wN (h:isStep s=true):(stepText s).all cG=true/\stepText s≠[]:=by
 cases s with
 | field n=>obtain⟨a,b,r,e,_⟩:=uH (show isName n=true from h);exact⟨a,by show n≠[];rw[e];simp⟩
 | item i=>exact⟨KJ i,wZ i⟩
theorem MR {w:bW} (h:w.all cG=true) {c:UInt8} (hc:cG c=false):∀b∈w,b≠c:=fun b hb=>Hg (cA.mp h b hb) hc
theorem TD (n:Nat):isName (decimal n)=false:=by
 obtain⟨b,r,e,hb⟩:=BB n;rw[e];unfold isName;have:isSmall b=false:=by
  rw[iD];intro q;have:=vG.mp q;have:=kW.mp hb
  lia
 simp[this]
theorem ZW (h:isStep s=true):stepOf (stepText s)=some s:=by
 cases s with
 | field n=>show(if isName n=true then some (Step.field n)else _)=_;rw[if_pos (show isName n=true from h)]
 | item i=>show(if isName (decimal i)=true then some (Step.field (decimal i))else (naturalOf (decimal i)).map Step.item)=_;rw[TD,gD (by simpa [isStep] using h)];rfl
noncomputable def dA (p:Path):bW:=p.flatMap fun s=>47::stepText s
theorem YI:∀(p:Path),p.all isStep=true->WS 47 (dA p)=if p.isEmpty=true then [[]]else []::p.map stepText
 | [],_=>rfl
 | [s],h=>by rw[cR,aE]at h;show WS 47 (47::(stepText s++[]))=_;rw[cI,BA,IR _ _ (MR (wN h.1).1 (by decide))];rfl
 | s::s'::p,h=>by rw[cR,aE]at h;have ih:=YI (s'::p) h.2;rw[if_neg (by simp)]at ih;have e:dA (s::s'::p)=47::(stepText s++dA (s'::p)):=rfl;obtain⟨u,eu⟩:∃u,dA (s'::p)=47::u:=⟨_,rfl⟩;rw[e,BA,eu,DU _ _ _ (MR (wN h.1).1 (by decide)),if_neg (by simp)];rw[eu,BA]at ih;have:=(iU ih).2;rw[this];rfl
theorem XZ:∀{l:List B},(∀x∈l,f (g x)=some x)->allOf ((l.map g).map f)=some l
 | [],_=>rfl
 | x::l,h=>by show(f (g x)).bind (fun a=>(allOf ((l.map g).map f)).map fun l=>a::l)=_;rw[h x aM,XZ fun y hy=>h y (aL _ hy)];rfl
theorem Cg:pathText []=[47]:=rfl
theorem rA (s:Step) (p:Path):pathText (s::p)=dA (s::p):=rfl
theorem Ou (h:p.all isStep=true):pathOf (pathText p)=some p:=by
 cases p with
 | nil=>rfl
 | cons s p=>
  rw[rA];unfold pathOf;have h':=h;rw[cR,aE]at h';have ne:dA (s::p)≠[47]:=by show 47::(stepText s++dA p)≠[47];intro q;have:=(iU q).2;have:=(List.append_eq_nil_iff.mp this).1;exact(wN h'.1).2 this
  rw[if_neg ne,YI _ h,if_neg (by simp)];show(if ((s::p).map stepText).isEmpty=true then none else allOf (((s::p).map stepText).map stepOf))=_;rw[if_neg (by simp)];exact XZ fun x hx=>ZW (cA.mp h x hx)
theorem Ov {p:Path} (h:p.all isStep=true):∀b∈pathText p,b≠32:=by
 cases p with
 | nil=>intro b hb;rw[Cg,bU]at hb;rw[hb];decide
 | cons s p=>
  rw[rA];intro b hb;obtain⟨t,ht,hb⟩:=List.mem_flatMap.mp hb;rcases aS.mp hb with rfl | hb
  ·decide
  ·exact MR (wN (cA.mp h t ht)).1 (by decide) b hb
theorem rV (h:∀b∈w,b≠32):lH (w++32::r)=(w,r):=by
 unfold lH;have:(w++32::r).takeWhile (fun b=>b != 32)=w:=pT (by rw[cA];intro b hb;simpa using h b hb) (by
  intro b hb;have:(32:UInt8)=b:=by simpa using hb
  rw[<-this];rfl)
 rw[this];simp
noncomputable def iL:gH->bW
 | .set _ _=>ascii "set"
 | .put _ _ _=>ascii "put"
 | .take _ _=>ascii "take"
 | .move _ _ _=>ascii "move"
 | .add _ _ _ _=>ascii "add"
 | .drop _ _=>ascii "drop"
 | .rename _ _ _=>ascii "rename"
noncomputable def zE:gH->bW
 | .set _ v=>valueText v
 | .put _ i v=>decimal i++(32::valueText v)
 | .take _ i=>decimal i
 | .move _ i j=>decimal i++(32::decimal j)
 | .add _ i n v=>decimal i++(32::(n++(32::valueText v)))
 | .drop _ n=>n
 | .rename _ n m=>n++(32::m)
theorem Hj (e:gH):wordsOfEdit e=iL e++(32::(pathText (pathIn e)++(32::zE e))):=by
 have k:∀(a b c t:bW),a=b++[32]->a++(c++(32::t))=b++(32::(c++(32::t))):=fun a b c t h=>by rw[h];simp
 cases e with
 | set p v=>exact k _ (ascii "set") _ _ (by decide)
 | put p j v=>exact k _ (ascii "put") _ _ (by decide)
 | take p j=>exact k _ (ascii "take") _ _ (by decide)
 | move p j l=>exact k _ (ascii "move") _ _ (by decide)
 | add p j n v=>exact k _ (ascii "add") _ _ (by decide)
 | drop p n=>exact k _ (ascii "drop") _ _ (by decide)
 | rename p n m=>exact k _ (ascii "rename") _ _ (by decide)
theorem Pu (e:gH):∀b∈iL e,b≠32:=by
 have k:∀t:bW,t.all (fun b=>b != 32)=true->∀b∈t,b≠32:=fun t h b hb=>by have:=cA.mp h b hb;simpa using this
 cases e with
 | set p v=>exact k (ascii "set") (by decide)
 | put p j v=>exact k (ascii "put") (by decide)
 | take p j=>exact k (ascii "take") (by decide)
 | move p j l=>exact k (ascii "move") (by decide)
 | add p j n v=>exact k (ascii "add") (by decide)
 | drop p n=>exact k (ascii "drop") (by decide)
 | rename p n m=>exact k (ascii "rename") (by decide)
theorem BJ (n:Nat):∀b∈decimal n,b≠32:=MR (KJ n) (by decide)
theorem YY {n:Name} (h:isName n=true):∀b∈n,b≠32:=MR (uH h).1 (by decide)
noncomputable def Ke (w:bW) (p:Path) (t:bW):Option gH:=
 let c:=lH t;let d:=lH c.2
  if w=Vatwva.ascii "set" then (Vatwva.valueOf t).map fun v=>.set p v
  else if w=Vatwva.ascii "put" then (Vatwva.naturalOf c.1).bind fun i=>(Vatwva.valueOf c.2).map fun v=>.put p i v
  else if w=Vatwva.ascii "take" then (Vatwva.naturalOf t).map fun i=>.take p i
  else if w=Vatwva.ascii "move" then (Vatwva.naturalOf c.1).bind fun i=>(Vatwva.naturalOf c.2).map fun j=>.move p i j
  else if w=Vatwva.ascii "add" then (Vatwva.naturalOf c.1).bind fun i=>(Vatwva.valueOf d.2).map fun v=>.add p i d.1 v
  else if w=Vatwva.ascii "drop" then some (.drop p t)
  else if w=Vatwva.ascii "rename" then some (.rename p c.1 c.2)
  else none
theorem Ej (t:bW):editFrom t=(pathOf (lH (lH t).2).1).bind fun p=>Ke (lH t).1 p (lH (lH t).2).2:=rfl
theorem Pk (h:isEdit e=true):Ke (iL e) (pathIn e) (zE e)=some e:=by
 unfold isEdit at h;rw[aE]at h;have hk:=h.2;unfold Ke;cases e with
 | set p v=>have hk:isValue v=true:=hk;simp only[iL,zE,pathIn];rw[if_pos trivial,sJ.mpr ⟨hk,rfl⟩];rfl
 | put p i v=>simp only[aE,decide_eq_true_eq]at hk;simp only[iL,zE,pathIn];rw[if_neg (by decide),if_pos trivial,rV (BJ i)];simp only;rw[gD hk.1,sJ.mpr ⟨hk.2,rfl⟩];rfl
 | take p i=>simp only[decide_eq_true_eq]at hk;simp only[iL,zE,pathIn];rw[if_neg (by decide),if_neg (by decide),if_pos trivial,gD hk];rfl
 | move p i j=>simp only[aE,decide_eq_true_eq]at hk;simp only[iL,zE,pathIn];rw[if_neg (by decide),if_neg (by decide),if_neg (by decide),if_pos trivial,rV (BJ i)];simp only;rw[gD hk.1,gD hk.2];rfl
 | add p i n v=>simp only[aE,decide_eq_true_eq]at hk;simp only[iL,zE,pathIn];rw[if_neg (by decide),if_neg (by decide),if_neg (by decide),if_neg (by decide),if_pos trivial,rV (BJ i)];simp only;rw[rV (YY hk.2.1)];simp only;rw[gD hk.1,sJ.mpr ⟨hk.2.2,rfl⟩];rfl
 | drop p n=>simp only[iL,zE,pathIn];rw[if_neg (by decide),if_neg (by decide),if_neg (by decide),if_neg (by decide),if_neg (by decide),if_pos trivial]
 | rename p n m=>simp only[aE]at hk;simp only[iL,zE,pathIn];rw[if_neg (by decide),if_neg (by decide),if_neg (by decide),if_neg (by decide),if_neg (by decide),if_neg (by decide),if_pos trivial,rV (YY hk.1)]
theorem Ek (h:isEdit e=true):editFrom (wordsOfEdit e)=some e:=by have h':=h;unfold isEdit at h';rw[aE]at h';rw[Ej,Hj,rV (Pu e)];simp only;rw[rV (Ov h'.1)];simp only;rw[Ou h'.1];exact Pk h
theorem BD:editOf t=some e↔isEdit e=true/\wordsOfEdit e=t:=by
 unfold editOf;constructor
 ·intro h;cases q:editFrom t with
  | none=>rw[q]at h;cases h
  | some x=>
   rw[q]at h;simp only[jN]at h;split at h
   ·rename_i c
    cases h;simp only[aE,beq_iff_eq]at c;exact c
   ·cases h
 ·rintro⟨h,rfl⟩;rw[Ek h];simp only[jN];rw[if_pos (by simp[h])]
theorem Bl (h:isEdit e=true):uB (2 * mP) e:=by
 unfold isEdit at h;rw[aE]at h;have hk:=h.2;have g:∀{v:Value},isValue v=true->eI (2 * mP) v:=fun h=>(dS.mp h).1.mono (by decide);cases e with
 | set p v=>exact g hk
 | put p i v=>simp only[aE]at hk;exact g hk.2
 | take p i=>trivial
 | move p i j=>trivial
 | add p i n v=>simp only[aE]at hk;exact⟨hk.2.1,g hk.2.2⟩
 | drop p n=>exact hk
 | rename p n m=>simp only[aE]at hk;exact hk
noncomputable def tX:bW->bW->List bW×bW
 | acc,[]=>([],acc)
 | acc,b::r=>if b=10 then (let x:=tX [] r;(acc::x.1,x.2))else tX (acc++[b]) r
theorem NC:∀(t acc:bW),(∀b∈acc,b≠10)->WS 10 (acc++t)=(tX acc t).1++[(tX acc t).2]
 | [],acc,h=>by rw[cI,IR _ _ h];rfl
 | b::t,acc,h=>by
  unfold tX;by_cases c:b=10
  ·subst c;rw[if_pos rfl,DU _ _ _ h];have:=NC t [] (fun b hb=>by cases hb);rw[gR]at this;rw[this];rfl
  ·rw[if_neg c];have:=NC t (acc++[b]) (fun x hx=>by
    rcases eJ.mp hx with hx | hx
    ·exact h x hx
    ·rw[bU]at hx;rw[hx];exact c)
   rw[eY]at this;exact this
theorem IT (t:bW):editsOf t=if (tX [] t).2=[]then allOf ((tX [] t).1.map editOf)else none:=by unfold editsOf;have:=NC t [] (fun b hb=>by cases hb);rw[gR]at this;simp only;rw[this];simp
section
open Vatwvc
noncomputable def jY (r:bW):bW:=r.takeWhile cG
noncomputable def kG (r:bW):bW:=r.dropWhile cG
theorem uT (r:bW):jY r++kG r=r:=List.takeWhile_append_dropWhile
noncomputable def jJ (w r:bW):Option bW:=if w.isPrefixOf r=true then some (r.drop w.length)else none
theorem iJ:jJ w r=some r'↔r=w++r':=by
 unfold jJ;constructor
 ·intro h;split at h
  ·rename_i hp
   cases h;obtain⟨s,rfl⟩:=XS.mp hp;rw[qG]
  ·cases h
 ·rintro rfl;rw[if_pos (XS.mpr ⟨r',rfl⟩),qG]
noncomputable def uO (r:bW):Option (Name×bW):=if isName (jY r)=true then some (jY r,kG r)else none
noncomputable def kR (r:bW):Option (Nat×bW):=(naturalOf (jY r)).map fun n=>(n,kG r)
noncomputable def LR (r:bW):Option (Int×bW):=if r.head?=some 45 then (kR r.tail).bind fun x=>if x.1=0 then none else some (-(x.1:Int),x.2)else (kR r).map fun x=>((x.1:Int),x.2)
noncomputable def EK (r:bW):Option (Value×bW):=(unquoted r).bind fun x=>if x.1.length<=30 then some (vText x.1,x.2)else none
noncomputable def uN (named:Bool) (ns:List Name) (r:bW):Option (Name×bW):=if named=true then (uO r).bind fun n=>if ns.contains n.1=true then none else (jJ [58,32] n.2).map fun r2=>(n.1,r2)else some ([],r)
noncomputable def cU (named:Bool) (f:bW->Option (Value×bW)) (ns:List Name) (r:bW):Option (List (Name×Value)×bW):=if r.head?=some (dG (!named))then some ([],r.tail)else (if ns.isEmpty=true then some r else jJ [44,32] r).bind fun r1=>(uN named ns r1).bind fun h=>(f h.2).bind fun x=>if h':x.2.length < r.length then (cU named f (ns++[h.1]) x.2).map fun y=>((h.1,x.1)::y.1,y.2)else none
termination_by r.length
noncomputable def dJ:Nat->bW->Option (Value×bW)
 | 0,_=>none
 | d+1,r=>if r.head?=some 123 then (cU true (dJ d) [] r.tail).map fun x=>(recordOf x.1,x.2)else if r.head?=some 91 then (cU false (dJ d) [] r.tail).map fun x=>(listOf (x.1.map fun y=>y.2),x.2)else if r.head?=some 34 then EK r.tail else (LR r).map fun x=>(vNum x.1,x.2)
theorem mU (h:r.head?=some b):r=b::r.tail:=by
 cases r with
 | nil=>cases h
 | cons c r=>cases h;rfl
theorem JE (r:bW):qJ cG (kG r):=by
 intro b hb;unfold kG at hb;cases hc:r.dropWhile cG with
 | nil=>rw[hc]at hb;cases hb
 | cons c s=>rw[hc]at hb;cases hb;have:=List.head?_dropWhile_not cG r;rw[hc]at this;simpa using this
theorem vN (hw:w.all cG=true) (hs:qJ cG r):jY (w++r)=w/\kG (w++r)=r:=by have h1:jY (w++r)=w:=pT hw hs;refine⟨h1,?_⟩;have h2:=uT (w++r);rw[h1]at h2;exact Dq h2
theorem vL:uO r=some x↔isName x.1=true/\r=x.1++x.2/\qJ cG x.2:=by
 unfold uO;constructor
 ·intro h;split at h
  ·rename_i hn
   cases h;exact⟨hn,(uT r).symm,JE r⟩
  ·cases h
 ·rintro⟨hn,rfl,hs⟩;obtain⟨e1,e2⟩:=vN (uH hn).1 hs;rw[e1,e2,if_pos hn]
theorem XB (n:Nat):(decimal n).all cG=true:=by have:=pI n;rw[cA]at this ⊢;intro b hb;unfold cG;rw[this b hb,Bool.or_true]
theorem qE:kR r=some x↔x.1<=GREATEST/\r=decimal x.1++x.2/\qJ cG x.2:=by
 unfold kR;constructor
 ·intro h;obtain⟨n,hn,rfl⟩:=aO.mp h;obtain⟨h1,h2⟩:=mI.mp hn;refine⟨h1,?_,JE r⟩;show r=decimal n++kG r;rw[h2,uT]
 ·rintro⟨hn,hr,hs⟩;obtain⟨n,r'⟩:=x;dsimp only at hn hr hs;subst hr;obtain⟨e1,e2⟩:=vN (XB n) hs;rw[e1,e2,mI.mpr ⟨hn,rfl⟩];rfl
theorem VF:LR r=some x↔x.1.natAbs<=GREATEST/\r=integer x.1++x.2/\qJ cG x.2:=by
 obtain⟨z,r'⟩:=x;unfold LR;constructor
 ·intro h;split at h
  ·rename_i hh
   obtain⟨⟨n,r1⟩,hn,h⟩:=bF.mp h;obtain⟨h1,h2,h3⟩:=qE.mp hn;dsimp only at h h1 h2 h3;split at h
   ·cases h
   ·rename_i h0
    cases h;refine⟨by show(-(n:Int)).natAbs<=_;lia,?_,h3⟩;show r=integer (-(n:Int))++r';unfold integer;rw[if_pos (by lia),mU hh,h2];have:(-(n:Int)).natAbs=n:=by lia
    rw[this];rfl
  ·obtain⟨⟨n,r1⟩,hn,h⟩:=aO.mp h;cases h;obtain⟨h1,h2,h3⟩:=qE.mp hn;refine⟨by show((n:Int)).natAbs<=_;simpa using h1,?_,h3⟩;show r=integer (n:Int)++r1;unfold integer;rw[if_neg (by lia)];exact h2
 ·rintro⟨h1,rfl,h3⟩;dsimp only at h1 h3;show(if (integer z++r').head?=some 45 then (kR (integer z++r').tail).bind _ else (kR (integer z++r')).map _)=some (z,r');unfold integer;split
  ·rename_i hz
   rw[if_pos (show(45::decimal z.natAbs++r').head?=some 45 from rfl)];show(kR (decimal z.natAbs++r')).bind _=_;rw[qE.mpr ⟨show(z.natAbs,r').1<=GREATEST from h1,rfl,h3⟩];show(if z.natAbs=0 then none else some (-(z.natAbs:Int),r'))=_;rw[if_neg (by lia)];have: -(z.natAbs:Int)=z:=by lia
   rw[this]
  ·rename_i hz
   have hd:¬(decimal z.toNat++r').head?=some 45:=by
    obtain⟨b,s,e,hb⟩:=BB z.toNat;rw[e];intro c;have:b=45:=by simpa using c
    exact Eh hb (by decide) this
   rw[if_neg hd,qE.mpr ⟨show(z.toNat,r').1<=GREATEST by show z.toNat<=_;lia,rfl,h3⟩];show some ((z.toNat:Int),r')=_;have:(z.toNat:Int)=z:=by lia
   rw[this]
theorem zF:∀(n:Nat) {r:bW} {x:bW×bW},r.length<=n->unquoted r=some x->x.1.all isSign=true/\r=x.1.flatMap marked++(34::x.2)
 | n,[],x,_,h=>by unfold unquoted at h;cases h
 | 0,_::_,_,hl,_=>by simp at hl
 | n+1,b::r,x,hl,h=>by
  have hl:r.length<=n:=by simpa using hl
  by_cases h34:b=34
  ·subst h34;unfold unquoted at h;cases h;exact⟨rfl,rfl⟩
  ·by_cases h92:b=92
   ·subst h92;cases r with
    | nil=>
     have e:unquoted [92]=if (isSign 92 && (92:UInt8) != 92)=true then (unquoted []).map fun x=>(92::x.1,x.2)else none:=by
      rw[unquoted]
      ·intro q;cases q
      ·intro b' r' _ q;cases q
     rw[e]at h;simp at h
    | cons c r=>
     rw[unquoted]at h;split at h
     ·rename_i hc
      obtain⟨y,hy,rfl⟩:=aO.mp h;obtain⟨h1,h2⟩:=zF n (by simp at hl;lia) hy;refine⟨?_,?_⟩
      ·show(c::y.1).all isSign=true;rw[cR,h1,lE];rcases hc with rfl | rfl<;>decide
      ·show _=(c::y.1).flatMap marked++_;rw[dY]
       conv=>lhs;rw[h2]
       unfold marked;rw[if_pos hc];rfl
     ·cases h
   ·have e:unquoted (b::r)=if (isSign b && b != 92)=true then (unquoted r).map fun x=>(b::x.1,x.2)else none:=by
     rw[unquoted]
     ·intro q;exact h34 q
     ·intro b' r' q _;exact h92 q
    rw[e]at h;split at h
    ·rename_i hs
     rw[aE]at hs;obtain⟨y,hy,rfl⟩:=aO.mp h;obtain⟨h1,h2⟩:=zF n hl hy;refine⟨?_,?_⟩
     ·show(b::y.1).all isSign=true;rw[cR,h1,hs.1];rfl
     ·show _=(b::y.1).flatMap marked++_;rw[dY]
      conv=>lhs;rw[h2]
      unfold marked;rw[if_neg (by rw[not_or];exact⟨h34,h92⟩)];rfl
    ·cases h
theorem PB:EK r=some x↔∃t,isText t=true/\x.1=vText t/\(34:UInt8)::r=quoted t++x.2:=by
 obtain⟨v,r'⟩:=x;unfold EK;constructor
 ·intro h;obtain⟨⟨t,r1⟩,ht,h⟩:=bF.mp h;dsimp only at h;split at h
  ·rename_i hl
   cases h;obtain⟨h1,h2⟩:=zF _ (aR _) ht;refine⟨t,by unfold isText;rw[aE];exact⟨decide_eq_true hl,h1⟩,rfl,?_⟩;rw[qD,h2];simp
  ·cases h
 ·rintro⟨t,ht,hv,hr⟩;dsimp only at hv hr;subst hv;unfold isText at ht;rw[aE]at ht;have e:r=t.flatMap marked++(34::r'):=by rw[qD]at hr;have:=iU (show(34:UInt8)::r=34::(t.flatMap marked++[34]++r')from hr);rw[this.2];simp
  subst e;rw[EZ t r' ht.2];show(if t.length<=30 then some (vText t,r')else none)=_;exact if_pos (of_decide_eq_true ht.1)
noncomputable def pO (named:Bool) (ns:List Name) (l:List (Name×Value)):bW:=if ns.isEmpty=true then cJ named l else fL named l
theorem OQ (named:Bool) (ns:List Name) (n:Name) (l:List (Name×Value)):pO named (ns++[n]) l=fL named l:=by unfold pO;rw[if_neg (by simp)]
def Br (named:Bool) (n:Name):Prop:=if named=true then isName n=true else n=[]
theorem OZ (h:uN named ns r=some x):Br named x.1/\(named=true->x.1∉ns)/\r=nameText named x.1++x.2:=by
 unfold uN at h;cases named with
 | false=>rw[if_neg (by decide)]at h;cases h;exact⟨rfl,fun z=>(by cases z),rfl⟩
 | true=>
  rw[if_pos rfl]at h;obtain⟨n,hn,h⟩:=bF.mp h;split at h
  ·cases h
  ·rename_i hc
   obtain⟨r2,hr,rfl⟩:=aO.mp h;obtain⟨h1,h2,h3⟩:=vL.mp hn;have h4:=iJ.mp hr;refine⟨h1,fun _ c=>hc (by simpa using c),?_⟩;rw[h2,h4];show _=(n.1++[58,32])++r2;simp
theorem Pa (h1:Br named n) (h2:named=true->n∉ns):uN named ns (nameText named n++r)=some (n,r):=by
 unfold uN;cases named with
 | false=>rw[if_neg (by decide)];have:n=[]:=h1;subst this;rfl
 | true=>
  rw[if_pos rfl];have h1:isName n=true:=h1;have e:nameText true n++r=n++(58::32::r):=by show(n++[58,32])++r=_;simp
  rw[e,vL.mpr ⟨show isName (n,(58::32::r:bW)).1=true from h1,rfl,fun b hb=>by cases hb;decide⟩];show(if ns.contains n=true then none else (jJ [58,32] (58::32::r)).map _)=_;rw[if_neg (by simpa using h2 rfl),iJ.mpr (show(58::32::r:bW)=[58,32]++r from rfl)];rfl
theorem EJ (hf:∀r x,r.length<=W->f r=some x->eI W x.1/\deep x.1<=d/\r=valueText x.1++x.2):
  ∀(n:Nat) (ns:List Name) (r:bW) (x:List (Name×Value)×bW),r.length<=n->r.length<=W->(named=true->ns.Nodup)->cU named f ns r=some x->
   (∀y∈x.1,eI W y.2/\deep y.2<=d/\Br named y.1)/\(named=true->(ns++x.1.map fun y=>y.1).Nodup)/\r=pO named ns x.1++dG (!named)::x.2/\x.1.length<=r.length:=by
 intro n;induction n with
 | zero=>
  intro ns r x hl _ hnd h;have:r=[]:=eE (by lia);subst this;rw[cU,if_neg (by intro c;cases c)]at h;obtain⟨r1,hr1,h⟩:=bF.mp h;obtain⟨hh,hh1,h⟩:=bF.mp h;obtain⟨y,hy,h⟩:=bF.mp h;split at h
  ·rename_i hlt;simp at hlt
  ·cases h
 | succ n ih=>
  intro ns r x hl hW hnd h;rw[cU]at h;split at h
  ·rename_i hc
   cases h;refine⟨fun y hy=>(by cases hy),fun z=>(by simpa using hnd z),?_,aY _⟩
   conv=>lhs;rw[mU hc]
   unfold pO fL cJ;split<;>rfl
  ·obtain⟨r1,hr1,h⟩:=bF.mp h;obtain⟨hh,hh1,h⟩:=bF.mp h;obtain⟨y,hy,h⟩:=bF.mp h;split at h
   ·rename_i hlt
    obtain⟨z,hz,rfl⟩:=aO.mp h;obtain⟨k1,k2,k3⟩:=OZ hh1;have hr:r=(if ns.isEmpty=true then []else [44,32])++r1:=by
     split at hr1
     ·cases hr1;rename_i q;rw[if_pos q];rfl
     ·rename_i q;rw[if_neg q];exact iJ.mp hr1
    have hl1:r1.length<=W:=by rw[hr,aC]at hW;lia
    have hl2:hh.2.length<=W:=by rw[k3,aC]at hl1;lia
    obtain⟨g1,g2,g3⟩:=hf _ _ hl2 hy;obtain⟨i1,i2,i3,i4⟩:=ih (ns++[hh.1]) y.2 z (by lia) (by lia) (fun q=>by
     rw[pD];refine⟨hnd q,by simp,fun a ha b hb=>?_⟩;have:b=hh.1:=by simpa using hb
     subst this;exact fun e=>k2 q (e▸ha)) hz
    refine⟨fun w hw=>?_,fun q=>?_,?_,?_⟩
    ·rcases aS.mp hw with rfl | hw
     ·exact⟨g1,g2,k1⟩
     ·exact i1 w hw
    ·have:=i2 q;rw[eY]at this;exact this
    ·rw[OQ]at i3;rw[hr,k3,g3,i3];show _=pO named ns ((hh.1,y.1)::z.1)++_;unfold pO;by_cases q:ns.isEmpty=true
     ·rw[if_pos q,if_pos q,lM];simp
     ·rw[if_neg q,if_neg q,show fL named ((hh.1,y.1)::z.1)=44::32::cJ named ((hh.1,y.1)::z.1)from rfl,lM];simp
    ·show(_::z.1).length<=r.length;rw[aK];lia
   ·cases h
theorem OY (hf:∀v r,eI W v->deep v<=d->qJ cG r->f (valueText v++r)=some (v,r)):
  ∀(l:List (Name×Value)) (ns:List Name) (r:bW),(∀y∈l,eI W y.2/\deep y.2<=d/\Br named y.1)->(named=true->(ns++l.map fun y=>y.1).Nodup)->
   cU named f ns (pO named ns l++dG (!named)::r)=some (l,r):=by
 intro l;induction l with
 | nil=>
  intro ns r _ _;have e:pO named ns []=[]:=by unfold pO fL cJ;split<;>rfl
  rw[e,cU,gR];exact if_pos rfl
 | cons x l ih=>
  intro ns r h1 h2;obtain⟨gx,dx,nx⟩:=h1 x aM;have e0:pO named ns (x::l)++dG (!named)::r=(if ns.isEmpty=true then []else [44,32])++(nameText named x.1++(valueText x.2++(fL named l++dG (!named)::r))):=by
   unfold pO;by_cases q:ns.isEmpty=true
   ·rw[if_pos q,if_pos q,lM];simp
   ·rw[if_neg q,if_neg q,show fL named (x::l)=44::32::cJ named (x::l)from rfl,lM];simp
  obtain⟨b,s,eb,hb⟩:=xI gx.1;have hhead:¬(pO named ns (x::l)++dG (!named)::r).head?=some (dG (!named)):=by
   rw[e0];split
   ·cases named with
    | false=>
     have:x.1=[]:=nx;show ¬([]++([]++(valueText x.2++_))).head?=_;rw[eb];intro c;have c:b=93:=by simpa [dG] using c
     rcases hb with hb | rfl | rfl | rfl
     ·exact xB hb (by decide) c
     ·cases c
     ·cases c
     ·cases c
    | true=>
     obtain⟨_,b',s',e',hb'⟩:=uH (show isName x.1=true from nx);show ¬([]++((x.1++[58,32])++_)).head?=_;rw[e'];intro c;have c:b'=125:=by simpa [dG] using c
     subst c;revert hb';decide
   ·cases named<;>(intro c;revert c;simp[dG])
  have hns:named=true->x.1∉ns:=fun q c=>by have:=h2 q;rw[pD]at this;exact this.2.2 x.1 c x.1 (by simp) rfl
  have hst:qJ cG (fL named l++dG (!named)::r):=by
   intro c hc;unfold fL at hc;cases l with
   | nil=>
    have:dG (!named)=c:=by simpa using hc
    rw[<-this];cases named<;>decide
   | cons y l=>
    have:(44:UInt8)=c:=by simpa using hc
    rw[<-this];decide
  have hih:=ih (ns++[x.1]) r (fun y hy=>h1 y (aL _ hy)) (fun q=>by have:=h2 q;rw[eY];exact this);rw[OQ]at hih;rw[cU,if_neg hhead];have hlen:(fL named l++dG (!named)::r).length < (pO named ns (x::l)++dG (!named)::r).length:=by
   rw[e0,eb];simp only[aC,aK]
   lia
  have e1:(if ns.isEmpty=true then some (pO named ns (x::l)++dG (!named)::r)else jJ [44,32] (pO named ns (x::l)++dG (!named)::r))=some (nameText named x.1++(valueText x.2++(fL named l++dG (!named)::r))):=by
   rw[e0];split
   ·rfl
   ·exact iJ.mpr rfl
  rw[e1];show(uN named ns (nameText named x.1++_)).bind _=_;rw[Pa nx hns];show(f (valueText x.2++_)).bind _=_;rw[hf x.2 _ gx dx hst];show(if h':(fL named l++dG (!named)::r).length < _ then _ else none)=_;rw[dif_pos hlen];show(cU named f (ns++[x.1]) _).map _=_;rw[hih];rfl
theorem tN:∀(d W:Nat) (r:bW) (x:Value×bW),r.length<=W->dJ d r=some x->eI W x.1/\deep x.1<=d/\r=valueText x.1++x.2
 | 0,W,r,x,_,h=>by cases h
 | d+1,W,r,x,hl,h=>by
  rw[dJ]at h;split at h
  ·rename_i hh
   obtain⟨y,hy,rfl⟩:=aO.mp h;have ht:r.tail.length<=W:=by rw[QT];lia
   obtain⟨h1,h2,h3,h4⟩:=EJ (fun r x hl' hx=>tN d W r x hl' hx) _ [] r.tail y (aR _) ht (fun _=>GM) hy;have ho:∀z∈y.1,mQ z.2:=fun z hz=>(h1 z hz).1.1;refine⟨(zW ho).mpr ⟨by lia,(iI _).mpr (by simpa using h2 rfl),fun z hz=>⟨(h1 z hz).2.2,(h1 z hz).1⟩⟩,?_,?_⟩
   ·rw[mG ho];apply Nat.succ_le_succ;rw[pY];intro k hk;obtain⟨z,hz,rfl⟩:=aX.mp hk;exact(h1 z hz).2.1
   ·show r=valueText (recordOf y.1)++y.2;rw[oA ho]
    conv=>lhs;rw[mU hh,h3]
    show _::(cJ true y.1++125::y.2)=_;simp
  ·split at h
   ·rename_i hh
    obtain⟨y,hy,rfl⟩:=aO.mp h;have ht:r.tail.length<=W:=by rw[QT];lia
    obtain⟨h1,h2,h3,h4⟩:=EJ (fun r x hl' hx=>tN d W r x hl' hx) _ [] r.tail y (aR _) ht (fun _=>GM) hy;have ho:∀z∈y.1.map (fun y=>y.2),mQ z:=fun z hz=>by obtain⟨w,hw,rfl⟩:=aX.mp hz;exact(h1 w hw).1.1
    refine⟨(sE ho).mpr ⟨by rw[aJ];lia,fun z hz=>?_⟩,?_,?_⟩
    ·obtain⟨w,hw,rfl⟩:=aX.mp hz;exact(h1 w hw).1
    ·rw[lQ ho];apply Nat.succ_le_succ;rw[pY];intro k hk;obtain⟨z,hz,rfl⟩:=aX.mp hk;obtain⟨w,hw,rfl⟩:=aX.mp hz;exact(h1 w hw).2.1
    ·show r=valueText (listOf (y.1.map fun y=>y.2))++y.2;rw[qF ho]
     conv=>lhs;rw[mU hh,h3]
     have e:y.1=(y.1.map fun y=>y.2).map fun v=>(([]:Name),v):=by
      rw[cQ]
      conv=>lhs;rw[<-oB y.1]
      refine eQ fun z hz=>?_;have:z.1=[]:=(h1 z hz).2.2;show z=([],z.2);rw[<-this]
     have e2:cJ false y.1=jE (y.1.map fun y=>y.2):=by
      conv=>lhs;rw[e]
      exact lA _
     show _::(cJ false y.1++93::y.2)=_;rw[e2];simp
   ·split at h
    ·rename_i hh
     obtain⟨t,ht,hx,hr⟩:=PB.mp h;refine⟨by rw[hx];exact FP.mpr ht,by rw[hx];exact Nat.le_add_left 1 d,?_⟩;rw[hx,nA,<-hr];exact mU hh
    ·obtain⟨y,hy,rfl⟩:=aO.mp h;obtain⟨h1,h2,_⟩:=VF.mp hy;refine⟨KW.mpr h1,Nat.le_add_left 1 d,?_⟩;show r=valueText (vNum y.1)++y.2;rw[oV];exact h2
theorem NS:∀(d W:Nat) (v:Value) (r:bW),eI W v->deep v<=d->qJ cG r->dJ d (valueText v++r)=some (v,r)
 | 0,W,v,r,g,hd,_=>by have:=qU g.1;lia
 | d+1,W,v,r,g,hd,hs=>by
  rcases g.cases with⟨t,ht,rfl⟩ | ⟨z,hz,rfl⟩ | ⟨l,rfl,gl⟩ | ⟨l,rfl,gl⟩
  ·rw[nA,dJ,if_neg (by rw[qD];intro c;cases c),if_neg (by rw[qD];intro c;cases c),if_pos (by rw[qD];rfl)];exact PB.mpr ⟨t,ht,rfl,by rw[qD];rfl⟩
  ·obtain⟨b,s,e,hb⟩:=tI z;have hne:∀c:UInt8,pZ c=false->¬(integer z++r).head?=some c:=fun c hc q=>by
    rw[e]at q;have:b=c:=by simpa using q
    exact xB hb hc this
   rw[oV,dJ,if_neg (hne _ (by decide)),if_neg (hne _ (by decide)),if_neg (hne _ (by decide)),VF.mpr ⟨show(z,r).1.natAbs<=GREATEST from hz,rfl,hs⟩];rfl
  ·have ho:∀z∈l,mQ z.2:=fun z hz=>(gl.2.2 z hz).2.1;rw[mG ho]at hd;have hd':=pY.mp (tY hd);have hk:=OY (named:=true) (fun v r g h1 h2=>NS d W v r g h1 h2) l [] r (fun y hy=>⟨(gl.2.2 y hy).2,hd' _ (aX.mpr ⟨y,hy,rfl⟩),(gl.2.2 y hy).1⟩) (fun _=>by simpa using (iI _).mp gl.2.1);have hh:(123::(cJ true l++[125])++r:bW).head?=some 123:=rfl;rw[oA ho,dJ,if_pos hh];have e:(123::(cJ true l++[125])++r).tail=pO true [] l++dG (!true)::r:=by show(cJ true l++[125])++r=cJ true l++125::r;simp
   rw[e,hk];rfl
  ·have ho:∀z∈l,mQ z:=fun z hz=>(gl.2 z hz).1;rw[lQ ho]at hd;have hd':=pY.mp (tY hd);have hk:=OY (named:=false) (fun v r g h1 h2=>NS d W v r g h1 h2) (l.map fun v=>([],v)) [] r (fun y hy=>by obtain⟨w,hw,rfl⟩:=aX.mp hy;exact⟨gl.2 w hw,hd' _ (aX.mpr ⟨w,hw,rfl⟩),rfl⟩) (fun q=>by cases q);have hh:(91::(jE l++[93])++r:bW).head?=some 91:=rfl;rw[qF ho,dJ,if_neg (by intro c;cases c),if_pos hh];have e:(91::(jE l++[93])++r).tail=pO false [] (l.map fun v=>([],v))++dG (!false)::r:=by show(jE l++[93])++r=cJ false (l.map fun v=>([],v))++93::r;rw[lA];simp
   rw[e,hk];show some (listOf ((l.map _).map _),r)=_;rw[cQ];have:l.map ((fun y:Name×Value=>y.2)∘fun v=>([],v))=l:=by
    conv=>rhs;rw[<-oB l]
    rfl
   rw[this]
end
section
open Vatwvc
noncomputable def rG (r:bW):Option (Value×bW):=(dJ 6 r).bind fun x=>if isValue x.1=true then some x else none
theorem HG (h:rG r=some x):isValue x.1=true/\r=valueText x.1++x.2:=by
 obtain⟨y,hy,h⟩:=bF.mp h;split at h
 ·rename_i hv
  cases h;exact⟨hv,(tN 6 r.length r _ (aR _) hy).2.2⟩
 ·cases h
theorem VG (h:isValue v=true) (hs:qJ cG r):rG (valueText v++r)=some (v,r):=by obtain⟨g,_,d⟩:=dS.mp h;unfold rG;rw[NS 6 _ v r g d hs];exact if_pos h
theorem ZX:qJ p []:=fun b h=>by cases h
theorem EL:rG t=some (v,[])↔valueOf t=some v:=by
 rw[sJ];constructor
 ·intro h;obtain⟨h1,h2⟩:=HG h;exact⟨h1,by rw[h2,cI]⟩
 ·rintro⟨h1,rfl⟩;have:=VG (r:=[]) h1 ZX
  rwa [cI]at this
noncomputable def uP (r:bW):Option (Step×bW):=(stepOf (jY r)).map fun s=>(s,kG r)
theorem Gs (h:stepOf w=some s):isStep s=true/\stepText s=w:=by
 unfold stepOf at h;split at h
 ·rename_i hn
  cases h;exact⟨hn,rfl⟩
 ·obtain⟨n,hn,rfl⟩:=aO.mp h;obtain⟨h1,h2⟩:=mI.mp hn;exact⟨decide_eq_true h1,h2⟩
theorem yI:uP r=some x↔isStep x.1=true/\r=stepText x.1++x.2/\qJ cG x.2:=by
 unfold uP;constructor
 ·intro h;obtain⟨s,hs,rfl⟩:=aO.mp h;obtain⟨h1,h2⟩:=Gs hs;exact⟨h1,by show r=stepText s++kG r;rw[h2,uT],JE r⟩
 ·rintro⟨h1,rfl,h3⟩;obtain⟨e1,e2⟩:=vN (wN h1).1 h3;rw[e1,e2,ZW h1];rfl
noncomputable def pR (r:bW):Option (List Step×bW):=if r.head?=some 47 then (uP r.tail).bind fun s=>if h:s.2.length < r.length then (pR s.2).map fun y=>(s.1::y.1,y.2)else none else some ([],r)
termination_by r.length
noncomputable def qN (r:bW):Option (Path×bW):=if r.head?=some 47 then (if r.tail.head?=some 32 then some ([],r.tail)else (uP r.tail).bind fun s=>(pR s.2).map fun y=>(s.1::y.1,y.2))else none
theorem Cp:∀(n:Nat) (r:bW) (x:List Step×bW),r.length<=n->pR r=some x->x.1.all isStep=true/\r=dA x.1++x.2:=by
 intro n;induction n with
 | zero=>intro r x hl h;have:r=[]:=eE (by lia);subst this;rw[pR,if_neg (by intro c;cases c)]at h;cases h;exact⟨rfl,rfl⟩
 | succ n ih=>
  intro r x hl h;rw[pR]at h;split at h
  ·rename_i hh
   obtain⟨s,hs,h⟩:=bF.mp h;split at h
   ·rename_i hlt
    obtain⟨y,hy,rfl⟩:=aO.mp h;obtain⟨h1,h2,h3⟩:=yI.mp hs;obtain⟨i1,i2⟩:=ih s.2 y (by lia) hy;refine⟨by show(s.1::y.1).all isStep=true;rw[cR,h1,i1];rfl,?_⟩
    conv=>lhs;rw[mU hh,h2,i2]
    show _=dA (s.1::y.1)++y.2;unfold dA;rw[dY];simp
   ·cases h
  ·cases h;exact⟨rfl,rfl⟩
theorem Pb:∀(p:List Step) (r:bW),p.all isStep=true->qJ cG r->r.head?≠some 47->pR (dA p++r)=some (p,r):=by
 intro p;induction p with
 | nil=>intro r _ _ h;rw[pR,show dA []++r=r from rfl,if_neg h]
 | cons s p ih=>
  intro r hp hs h;rw[cR,aE]at hp;have e:dA (s::p)++r=47::(stepText s++(dA p++r)):=by unfold dA;rw[dY];simp
  have hst:qJ cG (dA p++r):=by
   cases p with
   | nil=>exact hs
   | cons s' p=>
    intro b hb;have:(47:UInt8)=b:=by unfold dA at hb;rw[dY]at hb;simpa using hb
    rw[<-this];decide
  rw[e,pR];have hh:(47::(stepText s++(dA p++r)):bW).head?=some 47:=rfl;rw[if_pos hh];show(uP (stepText s++(dA p++r))).bind _=_;rw[yI.mpr ⟨show isStep (s,dA p++r).1=true from hp.1,rfl,hst⟩];show(if h:(dA p++r).length < _ then _ else none)=_;rw[dif_pos (by simp only[aK,aC];lia)];show(pR (dA p++r)).map _=_;rw[ih r hp.2 hs h];rfl
theorem Cq (h:qN r=some x):x.1.all isStep=true/\r=pathText x.1++x.2:=by
 unfold qN at h;split at h
 ·rename_i hh
  split at h
  ·cases h;refine⟨rfl,?_⟩;exact mU hh
  ·obtain⟨s,hs,h⟩:=bF.mp h;obtain⟨y,hy,rfl⟩:=aO.mp h;obtain⟨h1,h2,h3⟩:=yI.mp hs;obtain⟨i1,i2⟩:=Cp _ _ _ (aR _) hy;refine⟨by show(s.1::y.1).all isStep=true;rw[cR,h1,i1];rfl,?_⟩;show r=pathText (s.1::y.1)++y.2;rw[rA]
   conv=>lhs;rw[mU hh,h2,i2]
   unfold dA;rw[dY];simp
 ·cases h
theorem Pc (hp:p.all isStep=true):qN (pathText p++32::r)=some (p,32::r):=by
 unfold qN;cases p with
 | nil=>rfl
 | cons s p=>
  have hp0:=hp;rw[cR,aE]at hp;have e:pathText (s::p)++32::r=47::(stepText s++(dA p++32::r)):=by rw[rA];unfold dA;rw[dY];simp
  have hst:qJ cG (dA p++32::r):=by
   cases p with
   | nil=>
    intro b hb;have:(32:UInt8)=b:=by simpa [dA] using hb
    rw[<-this];decide
   | cons s' p=>
    intro b hb;have:(47:UInt8)=b:=by unfold dA at hb;rw[dY]at hb;simpa using hb
    rw[<-this];decide
  rw[e];have hh:(47::(stepText s++(dA p++32::r)):bW).head?=some 47:=rfl;rw[if_pos hh];show(if (stepText s++(dA p++32::r)).head?=some 32 then _ else (uP (stepText s++(dA p++32::r))).bind _)=_;have hn:¬(stepText s++(dA p++32::r)).head?=some 32:=by
   obtain⟨h1,h2⟩:=wN hp.1;cases q:stepText s with
   | nil=>exact absurd q h2
   | cons b w=>
    intro c;have c:b=32:=by simpa using c
    rw[q,cR,aE]at h1;rw[c]at h1;exact absurd h1.1 (by decide)
  rw[if_neg hn,yI.mpr ⟨show isStep (s,dA p++32::r).1=true from hp.1,rfl,hst⟩];show(pR (dA p++32::r)).map _=_;rw[Pb p _ hp.2 (fun b hb=>by cases hb;decide) (by intro c;cases c)];rfl
inductive QI where
 | place
 | name
 | value
deriving DecidableEq
inductive rN where
 | place (n:Nat)
 | name (n:Name)
 | value (v:Value)
noncomputable def rN.form:rN->QI
 | .place _=>.place
 | .name _=>.name
 | .value _=>.value
noncomputable def rN.ok:rN->Bool
 | .place n=>decide (n<=GREATEST)
 | .name n=>isName n
 | .value v=>isValue v
noncomputable def rN.text:rN->bW
 | .place n=>decimal n
 | .name n=>n
 | .value v=>valueText v
noncomputable def OX:QI->bW->Option (rN×bW)
 | .place,r=>(kR r).map fun x=>(.place x.1,x.2)
 | .name,r=>(uO r).map fun x=>(.name x.1,x.2)
 | .value,r=>(rG r).map fun x=>(.value x.1,x.2)
noncomputable def oX:List QI->bW->Option (List rN×bW)
 | [],r=>some ([],r)
 | f::fs,r=>(jJ [32] r).bind fun r1=>(OX f r1).bind fun x=>(oX fs x.2).map fun y=>(x.1::y.1,y.2)
noncomputable def jX (ds:List rN):bW:=ds.flatMap fun d=>32::d.text
theorem Gj (h:OX f r=some x):x.1.form=f/\x.1.ok=true/\r=x.1.text++x.2:=by
 cases f with
 | place=>obtain⟨y,hy,rfl⟩:=aO.mp h;obtain⟨h1,h2,_⟩:=qE.mp hy;exact⟨rfl,decide_eq_true h1,h2⟩
 | name=>obtain⟨y,hy,rfl⟩:=aO.mp h;obtain⟨h1,h2,_⟩:=vL.mp hy;exact⟨rfl,h1,h2⟩
 | value=>obtain⟨y,hy,rfl⟩:=aO.mp h;obtain⟨h1,h2⟩:=HG hy;exact⟨rfl,h1,h2⟩
theorem Tc (h:d.ok=true) (hs:qJ cG r):OX d.form (d.text++r)=some (d,r):=by
 cases d with
 | place n=>show(kR (decimal n++r)).map _=_;rw[qE.mpr ⟨show(n,r).1<=GREATEST from of_decide_eq_true h,rfl,hs⟩];rfl
 | name n=>show(uO (n++r)).map _=_;rw[vL.mpr ⟨show isName (n,r).1=true from h,rfl,hs⟩];rfl
 | value v=>show(rG (valueText v++r)).map _=_;rw[VG h hs];rfl
theorem BR:∀{fs:List QI} {r:bW} {x:List rN×bW},oX fs r=some x->x.1.map rN.form=fs/\x.1.all rN.ok=true/\r=jX x.1++x.2
 | [],r,x,h=>by cases h;exact⟨rfl,rfl,rfl⟩
 | f::fs,r,x,h=>by obtain⟨r1,h1,h⟩:=bF.mp h;obtain⟨y,hy,h⟩:=bF.mp h;obtain⟨z,hz,rfl⟩:=aO.mp h;obtain⟨d1,d2,d3⟩:=Gj hy;obtain⟨i1,i2,i3⟩:=BR hz;have e:=iJ.mp h1;refine⟨by show(y.1::z.1).map rN.form=_;rw[aP,d1,i1],by show(y.1::z.1).all rN.ok=true;rw[cR,d2,i2];rfl,?_⟩;show r=jX (y.1::z.1)++z.2;rw[e,d3,i3];unfold jX;rw[dY];simp
theorem ZM:∀{ds:List rN},ds.all rN.ok=true->oX (ds.map rN.form) (jX ds)=some (ds,[])
 | [],_=>rfl
 | d::ds,h=>by
  rw[cR,aE]at h;have e:jX (d::ds)=[32]++(d.text++jX ds):=by unfold jX;rw[dY];simp
  have hst:qJ cG (jX ds):=by
   cases ds with
   | nil=>exact ZX
   | cons d' ds=>
    intro b hb;have:(32:UInt8)=b:=by unfold jX at hb;rw[dY]at hb;simpa using hb
    rw[<-this];decide
  rw[e,aP,oX,iJ.mpr rfl];show(OX d.form (d.text++jX ds)).bind _=_;rw[Tc h.1 hst];show(oX (ds.map rN.form) (jX ds)).map _=_;rw[ZM h.2];rfl
noncomputable def fA:gH->List rN
 | .set _ v=>[.value v]
 | .put _ i v=>[.place i,.value v]
 | .take _ i=>[.place i]
 | .move _ i j=>[.place i,.place j]
 | .add _ i n v=>[.place i,.name n,.value v]
 | .drop _ n=>[.name n]
 | .rename _ n m=>[.name n,.name m]
noncomputable def wF (w:bW):Option (List QI):=if w=ascii "set" then some [.value]else if w=ascii "put" then some [.place,.value]else if w=ascii "take" then some [.place]else if w=ascii "move" then some [.place,.place]else if w=ascii "add" then some [.place,.name,.value]else if w=ascii "drop" then some [.name]else if w=ascii "rename" then some [.name,.name]else none
theorem KS (e:gH):wF (iL e)=some ((fA e).map rN.form):=by cases e<;>rfl
def Za (w:bW) (p:Path) (ds:List rN) (e:gH):Prop:=iL e=w/\pathIn e=p/\fA e=ds
theorem Zr (h:wF w=some (ds.map rN.form)):∃e,Za w p ds e:=by
 unfold wF at h;have one:∀{f:QI},[f]=ds.map rN.form->∃d,ds=[d]/\d.form=f:=fun {f} h=>by
  match ds,h with
  | [d],h=>exact⟨d,rfl,by simpa using h.symm⟩
 have Tq:∀{f g:QI},[f,g]=ds.map rN.form->∃d c,ds=[d,c]/\d.form=f/\c.form=g:=fun {f g} h=>by
  match ds,h with
  | [d,c],h=>
   have:f=d.form/\g=c.form:=by simpa using h
   exact⟨d,c,rfl,this.1.symm,this.2.symm⟩
 have three:∀{f g k:QI},[f,g,k]=ds.map rN.form->∃d c b,ds=[d,c,b]/\d.form=f/\c.form=g/\b.form=k:=fun {f g k} h=>by
  match ds,h with
  | [d,c,b],h=>
   have:f=d.form/\g=c.form/\k=b.form:=by simpa using h
   exact⟨d,c,b,rfl,this.1.symm,this.2.1.symm,this.2.2.symm⟩
 have pl:∀{d:rN},d.form=.place->∃n,d=.place n:=fun {d} h=>by cases d<;>first | exact⟨_,rfl⟩ | cases h
 have nm:∀{d:rN},d.form=.name->∃n,d=.name n:=fun {d} h=>by cases d<;>first | exact⟨_,rfl⟩ | cases h
 have vl:∀{d:rN},d.form=.value->∃n,d=.value n:=fun {d} h=>by cases d<;>first | exact⟨_,rfl⟩ | cases h
 split at h
 ·rename_i q;subst q
  obtain⟨d,rfl,h1⟩:=one (cP h);obtain⟨v,rfl⟩:=vl h1;exact⟨.set p v,rfl,rfl,rfl⟩
 split at h
 ·rename_i q;subst q
  obtain⟨d,c,rfl,h1,h2⟩:=Tq (cP h);obtain⟨i,rfl⟩:=pl h1;obtain⟨v,rfl⟩:=vl h2;exact⟨.put p i v,rfl,rfl,rfl⟩
 split at h
 ·rename_i q;subst q
  obtain⟨d,rfl,h1⟩:=one (cP h);obtain⟨i,rfl⟩:=pl h1;exact⟨.take p i,rfl,rfl,rfl⟩
 split at h
 ·rename_i q;subst q
  obtain⟨d,c,rfl,h1,h2⟩:=Tq (cP h);obtain⟨i,rfl⟩:=pl h1;obtain⟨j,rfl⟩:=pl h2;exact⟨.move p i j,rfl,rfl,rfl⟩
 split at h
 ·rename_i q;subst q
  obtain⟨d,c,b,rfl,h1,h2,h3⟩:=three (cP h);obtain⟨i,rfl⟩:=pl h1;obtain⟨n,rfl⟩:=nm h2;obtain⟨v,rfl⟩:=vl h3;exact⟨.add p i n v,rfl,rfl,rfl⟩
 split at h
 ·rename_i q;subst q
  obtain⟨d,rfl,h1⟩:=one (cP h);obtain⟨n,rfl⟩:=nm h1;exact⟨.drop p n,rfl,rfl,rfl⟩
 split at h
 ·rename_i q;subst q
  obtain⟨d,c,rfl,h1,h2⟩:=Tq (cP h);obtain⟨n,rfl⟩:=nm h1;obtain⟨m,rfl⟩:=nm h2;exact⟨.rename p n m,rfl,rfl,rfl⟩
 ·cases h
theorem JL (e:gH):wordsOfEdit e=iL e++(32::(pathText (pathIn e)++jX (fA e))):=by rw[Hj];cases e<;>simp[zE,fA,jX,rN.text]
theorem zU (e:gH):isEdit e=((pathIn e).all isStep && (fA e).all rN.ok):=by cases e<;>simp[isEdit,fA,rN.ok,pathIn]
theorem Ki (e:gH):(iL e).all cG=true:=by cases e<;>rfl
theorem Co (hw:w=jY t) (hf:wF w=some fs) (h1:jJ [32] (kG t)=some r1) (h2:qN r1=some (p,r2)) (h3:oX fs r2=some (ds,[])) (he:Za w p ds e):editOf t=some e:=by obtain⟨e1,e2,e3⟩:=he;obtain⟨p1,p2⟩:=Cq h2;obtain⟨d1,d2,d3⟩:=BR h3;rw[BD,zU,e2,e3,aE];refine⟨⟨p1,d2⟩,?_⟩;rw[JL,e1,e2,e3];have:=uT t;rw[<-hw,iJ.mp h1,p2,d3]at this;rw[<-this];simp
theorem GC (h:editOf t=some e):∃r1 r2,jY t=iL e/\jJ [32] (kG t)=some r1/\qN r1=some (pathIn e,r2)/\oX ((fA e).map rN.form) r2=some (fA e,[]):=by
 obtain⟨h1,rfl⟩:=BD.mp h;rw[zU,aE]at h1;rw[JL];obtain⟨e1,e2⟩:=vN (r:=32::(pathText (pathIn e)++jX (fA e))) (Ki e) (fun b hb=>by cases hb;decide);refine⟨_,jX (fA e),e1,by rw[e2];exact iJ.mpr rfl,?_,ZM h1.2⟩;have:∃r,jX (fA e)=32::r:=by cases e<;>exact⟨_,rfl⟩
 obtain⟨r,hr⟩:=this;rw[hr];exact Pc h1.1
end
end VM
end
section
namespace My
open PySem PySem.Spec PyProof.Rows L2
open PySem.W (Frag)
open Vatwva (Text Name)
noncomputable def top (i:Nat):wS:=PySem.Challenge.pw_valueedits_s01_answers.main.body.getD i (.Pass ⟨0,0,0,0⟩)
noncomputable abbrev fT:=Vatwva.Value
noncomputable abbrev QK:=Vatwva.Row
noncomputable def bT (n:bW):Str:=⟨(n.map iC).toArray⟩
noncomputable def cV (t:bW):List V:=t.map fun b=>V.int (b.toNat:Int)
noncomputable def dR (l:List (Name×fT)):List V:=l.map fun x=>V.str (bT x.1)
noncomputable def Dz (K:aB) (H:Hp):QK->List V->Prop
 | .nil,xs=>xs=[]
 | .text _ t r,xs=>∃a b c ys,xs=.ref a::ys/\fK K H a [.str "text",.ref b,.ref c]/\fK K H b (cV t)/\fK K H c []/\Dz K H r ys
 | .num _ z r,xs=>∃a c ys,xs=.ref a::ys/\fK K H a [.str "number",.int z,.ref c]/\fK K H c []/\Dz K H r ys
 | .sub _ l k r,xs=>∃a b c ys zs,xs=.ref a::ys/\fK K H a [.str (if l then "list" else "record"),.ref b,.ref c]/\fK K H b (if l then []else dR (Vatwva.entries k))/\fK K H c zs/\Dz K H k zs/\Dz K H r ys
theorem Dz.tups {K:aB} {H H':Hp} (e:zP H H'):∀{r:QK} {xs:List V},Dz K H r xs->Dz K H' r xs
 | .nil,xs,h=>h
 | .text _ t r,xs,⟨a,b,c,ys,h1,h2,h3,h4,h5⟩=>⟨a,b,c,ys,h1,e.sqT h2,e.sqT h3,e.sqT h4,Dz.tups e h5⟩
 | .num _ z r,xs,⟨a,c,ys,h1,h2,h3,h4⟩=>⟨a,c,ys,h1,e.sqT h2,e.sqT h3,Dz.tups e h4⟩
 | .sub _ l k r,xs,⟨a,b,c,ys,zs,h1,h2,h3,h4,h5,h6⟩=>⟨a,b,c,ys,zs,h1,e.sqT h2,e.sqT h3,e.sqT h4,Dz.tups e h5,Dz.tups e h6⟩
def oG (K:aB) (H:Hp) (x:V) (v:fT):Prop:=VM.mQ v/\Dz K H v [x]
noncomputable def gA (K:aB) (H:Hp):List V->List fT->Prop:=hU (oG K H)
theorem oG.tups {K:aB} {H H':Hp} (e:zP H H') {x:V} {v:fT} (h:oG K H x v):oG K H' x v:=⟨h.1,h.2.tups e⟩
theorem gA.tups {K:aB} {H H':Hp} (e:zP H H') {xs:List V} {vs:List fT} (h:gA K H xs vs):gA K H' xs vs:=Paired.mapP h fun _ _ q=>q.tups e
theorem Tg {K:aB} {H:Hp} {n:Name} {v:fT} (o:VM.mQ v) {r:QK} {xs:List V}:Dz K H (Vatwva.entry n v r) xs↔∃x ys,xs=x::ys/\oG K H x v/\Dz K H r ys:=by
 rcases o.cases with⟨t,rfl⟩ | ⟨z,rfl⟩ | ⟨k,rfl⟩ | ⟨k,rfl⟩
 ·constructor
  ·rintro⟨a,b,c,ys,h1,h2,h3,h4,h5⟩;exact⟨_,ys,h1,⟨rfl,a,b,c,[],rfl,h2,h3,h4,rfl⟩,h5⟩
  ·rintro⟨x,ys,rfl,⟨_,a,b,c,zs,h1,h2,h3,h4,h5⟩,h6⟩;cases h1;exact⟨a,b,c,ys,rfl,h2,h3,h4,h6⟩
 ·constructor
  ·rintro⟨a,c,ys,h1,h2,h3,h4⟩;exact⟨_,ys,h1,⟨rfl,a,c,[],rfl,h2,h3,rfl⟩,h4⟩
  ·rintro⟨x,ys,rfl,⟨_,a,c,zs,h1,h2,h3,h4⟩,h5⟩;cases h1;exact⟨a,c,ys,rfl,h2,h3,h5⟩
 ·constructor
  ·rintro⟨a,b,c,ys,zs,h1,h2,h3,h4,h5,h6⟩;exact⟨_,ys,h1,⟨rfl,a,b,c,[],zs,rfl,h2,h3,h4,h5,rfl⟩,h6⟩
  ·rintro⟨x,ys,rfl,⟨_,a,b,c,ys',zs,h1,h2,h3,h4,h5,h6⟩,h7⟩;cases h1;exact⟨a,b,c,ys,zs,rfl,h2,h3,h4,h5,h7⟩
 ·constructor
  ·rintro⟨a,b,c,ys,zs,h1,h2,h3,h4,h5,h6⟩;exact⟨_,ys,h1,⟨rfl,a,b,c,[],zs,rfl,h2,h3,h4,h5,rfl⟩,h6⟩
  ·rintro⟨x,ys,rfl,⟨_,a,b,c,ys',zs,h1,h2,h3,h4,h5,h6⟩,h7⟩;cases h1;exact⟨a,b,c,ys,zs,rfl,h2,h3,h4,h5,h7⟩
theorem yJ {K:aB} {H:Hp}:∀{l:List (Name×fT)} {xs:List V},(∀x∈l,VM.mQ x.2)->(Dz K H (Vatwva.rowOf l) xs↔gA K H xs (l.map fun x=>x.2))
 | [],xs,_=>by
  constructor
  ·intro h;have h:xs=[]:=h;subst h;exact .nil
  ·intro h;cases h;rfl
 | x::l,xs,ho=>by
  have ho':∀y∈l,VM.mQ y.2:=fun y hy=>ho y (aL _ hy);show Dz K H (Vatwva.entry x.1 x.2 (Vatwva.rowOf l)) xs↔_;rw[Tg (n:=x.1) (ho x aM)];constructor
  ·rintro⟨y,ys,rfl,h1,h2⟩;exact .cons h1 ((yJ ho').mp h2)
  ·intro h;cases h with
   | cons h1 h2=>exact⟨_,_,rfl,h1,(yJ ho').mpr h2⟩
section
variable {K:aB} {H:Hp} {x:V}
theorem WB:oG K H x (Vatwva.vText t)↔∃a b c,x=.ref a/\fK K H a [.str "text",.ref b,.ref c]/\fK K H b (cV t)/\fK K H c []:=by
 constructor
 ·rintro⟨_,a,b,c,ys,h1,h2,h3,h4,h5⟩;cases h1;exact⟨a,b,c,rfl,h2,h3,h4⟩
 ·rintro⟨a,b,c,rfl,h2,h3,h4⟩;exact⟨rfl,a,b,c,[],rfl,h2,h3,h4,rfl⟩
theorem Cz:oG K H x (Vatwva.vNum z)↔∃a c,x=.ref a/\fK K H a [.str "number",.int z,.ref c]/\fK K H c []:=by
 constructor
 ·rintro⟨_,a,c,ys,h1,h2,h3,h4⟩;cases h1;exact⟨a,c,rfl,h2,h3⟩
 ·rintro⟨a,c,rfl,h2,h3⟩;exact⟨rfl,a,c,[],rfl,h2,h3,rfl⟩
theorem RK (ho:∀x∈l,VM.mQ x.2):oG K H x (Vatwva.recordOf l)↔∃a b c zs,x=.ref a/\fK K H a [.str "record",.ref b,.ref c]/\fK K H b (dR l)/\fK K H c zs/\gA K H zs (l.map fun x=>x.2):=by
 constructor
 ·rintro⟨_,a,b,c,ys,zs,h1,h2,h3,h4,h5,h6⟩;cases h1;have h3:fK K H b (dR (Vatwva.entries (Vatwva.rowOf l))):=h3;rw[VM.fH l ho]at h3;exact⟨a,b,c,zs,rfl,h2,h3,h4,(yJ ho).mp h5⟩
 ·rintro⟨a,b,c,zs,rfl,h2,h3,h4,h5⟩;refine⟨rfl,a,b,c,[],zs,rfl,h2,?_,h4,(yJ ho).mpr h5,rfl⟩;show fK K H b (dR (Vatwva.entries (Vatwva.rowOf l)));rw[VM.fH l ho];exact h3
theorem He {l:List fT} (ho:∀x∈l,VM.mQ x):oG K H x (Vatwva.listOf l)↔∃a b c zs,x=.ref a/\fK K H a [.str "list",.ref b,.ref c]/\fK K H b []/\fK K H c zs/\gA K H zs l:=by
 have e:(l.map fun v=>(([]:Name),v)).map (fun x=>x.2)=l:=by rw[cQ];exact List.map_id' l
 constructor
 ·rintro⟨_,a,b,c,ys,zs,h1,h2,h3,h4,h5,h6⟩;cases h1;have:=(yJ (VM.sH ho)).mp h5;rw[e]at this;exact⟨a,b,c,zs,rfl,h2,h3,h4,this⟩
 ·rintro⟨a,b,c,zs,rfl,h2,h3,h4,h5⟩;refine⟨rfl,a,b,c,[],zs,rfl,h2,h3,h4,(yJ (VM.sH ho)).mpr ?_,rfl⟩;rw[e];exact h5
noncomputable def vH (v:fT):Str:=if Vatwva.isRecord v then "record" else if Vatwva.isList v then "list" else if vZ v then "number" else "text"
theorem oG.parts {v:fT} (h:oG K H x v):∃a o c zs,x=.ref a/\fK K H a [.str (vH v),o,.ref c]/\fK K H c zs/\gA K H zs ((Vatwva.kidsOf v).map fun x=>x.2):=by
 rcases h.1.cases with⟨t,rfl⟩ | ⟨z,rfl⟩ | ⟨k,rfl⟩ | ⟨k,rfl⟩
 ·obtain⟨a,b,c,rfl,h2,h3,h4⟩:=WB.mp h;exact⟨a,_,c,[],rfl,h2,h4,.nil⟩
 ·obtain⟨a,c,rfl,h2,h3⟩:=Cz.mp h;exact⟨a,_,c,[],rfl,h2,h3,.nil⟩
 ·obtain⟨_,a,b,c,ys,zs,h1,h2,h3,h4,h5,h6⟩:=h;cases h1;refine⟨a,_,c,zs,rfl,h2,h4,?_⟩;have:=yJ (K:=K) (H:=H) (xs:=zs) (l:=Vatwva.entries k) (VM.sC k);rw[VM.gL]at this;exact this.mp h5
 ·obtain⟨_,a,b,c,ys,zs,h1,h2,h3,h4,h5,h6⟩:=h;cases h1;refine⟨a,_,c,zs,rfl,h2,h4,?_⟩;have:=yJ (K:=K) (H:=H) (xs:=zs) (l:=Vatwva.entries k) (VM.sC k);rw[VM.gL]at this;exact this.mp h5
end
structure mF where
 (xUnreadable xInapplicable xNoDeed cReader cEdit cRow cDesk dEMPTY_RECORD dCHANGES dFORMS dBACKS dCALLS:aQ)
section
variable (K:aB) (mg:Str->Option Value)
abbrev lD (n:Str) (i:Nat):Prop:=∃f fd,mg n=some (.ref f)/\Ih K n n (top i) f fd
abbrev E2 (C:aQ) (q:Str) (i j:Nat):Prop:=∃f fd,Mk K C f/\Ih K "__init__" q (Lp (top i) j) f fd
abbrev Qw (C:aQ) (n q:Str) (i j:Nat):Prop:=∃f fd,Il K C n f/\Ih K n q (Lp (top i) j) f fd
abbrev WW (n:Str) (v:V):Prop:=∃u,mg n=some u/\gN v u
abbrev Qo (n:Str) (p:aQ):Prop:=mg n=some (.ref p)
end
structure iM (K:aB) (mg:Str->Option Value) (a:mF):Prop where
 f_text_value:lD K mg "text_value" 18
 f_number_value:lD K mg "number_value" 19
 f_record_value:lD K mg "record_value" 20
 f_list_value:lD K mg "list_value" 21
 f_kind_of:lD K mg "kind_of" 22
 f_own_of:lD K mg "own_of" 23
 f_parts_of:lD K mg "parts_of" 24
 f_count_entries:lD K mg "count_entries" 25
 f_depth_of:lD K mg "depth_of" 26
 f_most_parts_in:lD K mg "most_parts_in" 27
 f_keeps_within:lD K mg "keeps_within" 28
 f_is_value:lD K mg "is_value" 29
 f_may_be_on_the_way:lD K mg "may_be_on_the_way" 30
 f_require:lD K mg "require" 32
 f_with_more:lD K mg "with_more" 33
 f_without:lD K mg "without" 34
 f_with_other:lD K mg "with_other" 35
 f_items_of:lD K mg "items_of" 36
 f_names_of:lD K mg "names_of" 37
 f_item_place:lD K mg "item_place" 38
 f_field_place:lD K mg "field_place" 39
 f_set_here:lD K mg "set_here" 40
 f_put_here:lD K mg "put_here" 41
 f_take_here:lD K mg "take_here" 42
 f_move_here:lD K mg "move_here" 43
 f_add_here:lD K mg "add_here" 44
 f_drop_here:lD K mg "drop_here" 45
 f_rename_here:lD K mg "rename_here" 46
 f_step_place:lD K mg "step_place" 48
 f_value_at:lD K mg "value_at" 49
 f_with_part:lD K mg "with_part" 50
 f_applied:lD K mg "applied" 51
 f_value_made_by_row:lD K mg "value_made_by_row" 52
 f_value_made:lD K mg "value_made" 53
 f_word_sign:lD K mg "word_sign" 61
 f_as_name:lD K mg "as_name" 62
 f_as_count:lD K mg "as_count" 63
 f_read_name:lD K mg "read_name" 64
 f_read_count:lD K mg "read_count" 65
 f_read_number:lD K mg "read_number" 66
 f_read_marked_sign:lD K mg "read_marked_sign" 67
 f_read_text:lD K mg "read_text" 68
 f_read_record:lD K mg "read_record" 69
 f_read_list:lD K mg "read_list" 70
 f_read_part:lD K mg "read_part" 71
 f_read_value:lD K mg "read_value" 72
 f_value_from:lD K mg "value_from" 73
 f_bytes_of:lD K mg "bytes_of" 75
 f_joined:lD K mg "joined" 76
 f_in_marks:lD K mg "in_marks" 77
 f_field_text:lD K mg "field_text" 78
 f_value_text:lD K mg "value_text" 79
 f_as_step:lD K mg "as_step" 87
 f_read_path:lD K mg "read_path" 88
 f_read_detail:lD K mg "read_detail" 89
 f_edit_from:lD K mg "edit_from" 90
 f_edits_from:lD K mg "edits_from" 91
 f_step_text:lD K mg "step_text" 92
 f_path_text:lD K mg "path_text" 93
 f_detail_text:lD K mg "detail_text" 94
 f_edit_text:lD K mg "edit_text" 95
 f_edit_cost:lD K mg "edit_cost" 98
 f_cost_of:lD K mg "cost_of" 99
 f_row_of:lD K mg "row_of" 100
 f_row_then:lD K mg "row_then" 101
 f_led_by:lD K mg "led_by" 103
 f_record_row:lD K mg "record_row" 104
 f_ways_on:lD K mg "ways_on" 105
 f_list_row:lD K mg "list_row" 106
 f_least_row:lD K mg "least_row" 107
 f_back_of_set:lD K mg "back_of_set" 109
 f_back_of_put:lD K mg "back_of_put" 110
 f_back_of_take:lD K mg "back_of_take" 111
 f_back_of_move:lD K mg "back_of_move" 112
 f_back_of_add:lD K mg "back_of_add" 113
 f_back_of_drop:lD K mg "back_of_drop" 114
 f_back_of_rename:lD K mg "back_of_rename" 115
 f_turned_back:lD K mg "turned_back" 117
 f_measures:lD K mg "measures" 120
 f_counted:lD K mg "counted" 121
 f_answer_value:lD K mg "answer_value" 122
 f_answer_other:lD K mg "answer_other" 123
 f_answer_show:lD K mg "answer_show" 124
 f_answer_edit:lD K mg "answer_edit" 125
 f_answer_rows:lD K mg "answer_rows" 126
 f_answer_try:lD K mg "answer_try" 127
 f_answer_back:lD K mg "answer_back" 128
 f_answer_cost:lD K mg "answer_cost" 129
 f_answer_diff:lD K mg "answer_diff" 130
 f_answer_meet:lD K mg "answer_meet" 131
 f_answer_commute:lD K mg "answer_commute" 132
 f_answer_undo:lD K mg "answer_undo" 133
 f_answer_redo:lD K mg "answer_redo" 134
 f_answer_size:lD K mg "answer_size" 135
 f_answer_of:lD K mg "answer_of" 137
 f_answers:lD K mg "answers" 138
 c_TEXT:WW mg "TEXT" (.str "text")
 c_NUMBER:WW mg "NUMBER" (.str "number")
 c_RECORD:WW mg "RECORD" (.str "record")
 c_LIST:WW mg "LIST" (.str "list")
 c_MOST_SIGNS:WW mg "MOST_SIGNS" (.int 30)
 c_MOST_NUMBER:WW mg "MOST_NUMBER" (.int 1000000000)
 c_MOST_NAME_BYTES:WW mg "MOST_NAME_BYTES" (.int 10)
 c_MOST_DEEP:WW mg "MOST_DEEP" (.int 6)
 c_MOST_PARTS:WW mg "MOST_PARTS" (.int 12)
 c_MOST_ENTRIES:WW mg "MOST_ENTRIES" (.int 60)
 c_MOST_PARTS_ON_THE_WAY:WW mg "MOST_PARTS_ON_THE_WAY" (.int 24)
 c_MOST_ENTRIES_ON_THE_WAY:WW mg "MOST_ENTRIES_ON_THE_WAY" (.int 120)
 c_END:WW mg "END" (.int (-1))
 c_FIRST_SIGN:WW mg "FIRST_SIGN" (.int 32)
 c_LAST_SIGN:WW mg "LAST_SIGN" (.int 126)
 c_SMALL_LETTERS:WW mg "SMALL_LETTERS" (.str "abcdefghijklmnopqrstuvwxyz")
 c_DIGITS:WW mg "DIGITS" (.str "0123456789")
 c_LINE_END:WW mg "LINE_END" (.int 10)
 c_PLACE:WW mg "PLACE" (.str "place")
 c_NAME:WW mg "NAME" (.str "name")
 c_VALUE:WW mg "VALUE" (.str "value")
 n_enumerate:mg "enumerate"=none
 n_int:mg "int"=none
 n_isinstance:mg "isinstance"=none
 n_len:mg "len"=none
 n_max:mg "max"=none
 n_min:mg "min"=none
 n_ord:mg "ord"=none
 n_range:mg "range"=none
 n_reversed:mg "reversed"=none
 n_str:mg "str"=none
 n_sum:mg "sum"=none
 n_tuple:mg "tuple"=none
 n_zip:mg "zip"=none
 x_Unreadable:Qo mg "Unreadable" a.xUnreadable/\yW K a.xUnreadable=true
 x_Inapplicable:Qo mg "Inapplicable" a.xInapplicable/\yW K a.xInapplicable=true
 x_NoDeed:Qo mg "NoDeed" a.xNoDeed/\yW K a.xNoDeed=true
 d_EMPTY_RECORD:Qo mg "EMPTY_RECORD" a.dEMPTY_RECORD
 d_CHANGES:Qo mg "CHANGES" a.dCHANGES
 d_FORMS:Qo mg "FORMS" a.dFORMS
 d_BACKS:Qo mg "BACKS" a.dBACKS
 d_CALLS:Qo mg "CALLS" a.dCALLS
 k_Reader:Qo mg "Reader" a.cReader
 q_Reader:Dk K a.cReader
 mk_Reader:E2 K a.cReader "Reader.__init__" 60 0
 na_Reader_place:nR K a.cReader "place"
 na_Reader_text:nR K a.cReader "text"
 m_Reader_ahead:Qw K a.cReader "ahead" "Reader.ahead" 60 1
 m_Reader_ended:Qw K a.cReader "ended" "Reader.ended" 60 2
 m_Reader_pass_byte:Qw K a.cReader "pass_byte" "Reader.pass_byte" 60 3
 m_Reader_meets:Qw K a.cReader "meets" "Reader.meets" 60 4
 m_Reader_expect:Qw K a.cReader "expect" "Reader.expect" 60 5
 m_Reader_pass_word:Qw K a.cReader "pass_word" "Reader.pass_word" 60 6
 k_Edit:Qo mg "Edit" a.cEdit
 q_Edit:Dk K a.cEdit
 mk_Edit:E2 K a.cEdit "Edit.__init__" 86 0
 na_Edit_details:nR K a.cEdit "details"
 na_Edit_path:nR K a.cEdit "path"
 na_Edit_word:nR K a.cEdit "word"
 k_Row:Qo mg "Row" a.cRow
 q_Row:Dk K a.cRow
 mk_Row:E2 K a.cRow "Row.__init__" 97 0
 na_Row_cost:nR K a.cRow "cost"
 na_Row_edits:nR K a.cRow "edits"
 k_Desk:Qo mg "Desk" a.cDesk
 q_Desk:Dk K a.cDesk
 mk_Desk:E2 K a.cDesk "Desk.__init__" 119 0
 na_Desk_other:nR K a.cDesk "other"
 na_Desk_redoable:nR K a.cDesk "redoable"
 na_Desk_undoable:nR K a.cDesk "undoable"
 na_Desk_value:nR K a.cDesk "value"
 m_Desk_begin_with:Qw K a.cDesk "begin_with" "Desk.begin_with" 119 1
 m_Desk_do_deed:Qw K a.cDesk "do_deed" "Desk.do_deed" 119 2
 m_Desk_undo_deed:Qw K a.cDesk "undo_deed" "Desk.undo_deed" 119 3
 m_Desk_redo_deed:Qw K a.cDesk "redo_deed" "Desk.redo_deed" 119 4
 m_Desk_deed_counts:Qw K a.cDesk "deed_counts" "Desk.deed_counts" 119 5
section
variable {K:aB} {h:gF} {mg:Str->Option Value}
theorem Xv {x:Str} {st:wS} {f:aQ} {oc:Value} {od an:Option aQ} {osl:Array (Option Value)} {kV doc pm cdv ct:Value} (X:K.In h) (G:h.Ns jU mg) (e:JZ K jU x=some (some (.ref f))) (l:K.lookup f=some ⟨oc,od,.func (kO x x (pB st) (uW st) (fU st) .none kV doc pm an cdv ct),osl⟩) (c:sX K cdv x=true) (k:gJ K (.ref f)=true):∃f fd,mg x=some (.ref f)/\Ih K x x st f fd:=⟨f,_,PySem.W.mg_of X G e,Jg l c k⟩
theorem Xu (X:K.In h) (G:h.Ns jU mg) (e:JZ K jU x=some (some u)) (r:gN v u):∃u,mg x=some u/\gN v u:=⟨u,PySem.W.mg_of X G e,r⟩
theorem Xt (X:K.In h) (G:h.Ns jU mg) (e:JZ K jU x=some none):mg x=none:=PySem.W.mg_none_of X G e
theorem Uz {qual:Str} {st:wS} {C f:aQ} {oc:Value} {od an:Option aQ} {osl:Array (Option Value)} {kV doc pm cdv ct:Value} (m:QF K C=true) (a:iE K (.ref C) "__init__"=some (some (.ref f))) (i:AO K (.ref f)=true) (kc:gJ K (.ref C)=true) (l:K.lookup f=some ⟨oc,od,.func (kO "__init__" qual (pB st) (uW st) (fU st) .none kV doc pm an cdv ct),osl⟩) (c:sX K cdv qual=true) (k:gJ K (.ref f)=true):∃f fd,Mk K C f/\Ih K "__init__" qual st f fd:=⟨f,_,⟨m,a,i,kc⟩,Jg l c k⟩
theorem Va {x qual:Str} {st:wS} {C f:aQ} {oc:Value} {od an:Option aQ} {osl:Array (Option Value)} {kV doc pm cdv ct:Value} (a:iE K (.ref C) x=some (some (.ref f))) (i:AO K (.ref f)=true) (l:K.lookup f=some ⟨oc,od,.func (kO x qual (pB st) (uW st) (fU st) .none kV doc pm an cdv ct),osl⟩) (c:sX K cdv qual=true) (k:gJ K (.ref f)=true):∃f fd,Il K C x f/\Ih K x qual st f fd:=⟨f,_,⟨a,i,k⟩,Jg l c k⟩
end
end My
end
section
namespace My
open PySem PySem.Spec PyProof.Rows L2
open PySem.W (Frag)
open Vatwva (Text Name)
open Vatwvc (Edit State Found cheaper andThen)
open VM (cG jY kG jJ uO kR LR dJ cU rG QI rN OX oX uP pR qN wF gT CL MM VC nB)
variable {P:Program} {w:World} {K:Frag} {mg:Str->Option Value} {base:Heap} {a:mF}
def tE (K:aB) (H:Hp) (v:fT) (Q:VK):Prop:=∀H' x,bA H H'->oG K H' x v->Q x H'
section
variable {n q:Str} {st:wS} {ps:List Str} {k:Nat} {sp:Sp} {C:aQ}
theorem kL (F:∃f fd,mg n=some (.ref f)/\Ih K n n st f fd) (N:List Str) (h:E1 P w K mg base N ps sp k n st) (c:Zo N ps st=true:=by decide+kernel):gY P w K mg base (k+1) n ps sp:=let ⟨f,fd,hm,F⟩:=F;⟨f,fd,hm,F.kp,F.binds ((IQ c).2 _ _),F.okY (IQ c).1 h⟩
end
inductive HV (K:aB) (vs:List V) (H:Hp) (Q:VK) (E:XK):Prop
 | mk (l:aQ) (t:bW):vs=[.ref l]->hJ K H l (cV t)->tE K H (Vatwva.vText t) Q->HV K vs H Q E
theorem XI (T:iM K mg a):gY P w K mg base 1 "text_value" ["signs"] (HV K):=by refine kL T.f_text_value ["signs"] fun vs H Q E h=>?_;obtain⟨l,t,rfl,hS,k⟩:=h;refine⟨rfl,fun nd _ _ _ _ _ hr=>?_⟩;intro X;obtain⟨u,hm,ru⟩:=T.c_TEXT;refine⟨_,aN (bH (iT (aA (dN rfl hm ru) (aA (lO GR rfl T.n_tuple (by decide+kernel) (aA (pv 0) aD)) (aA (iT aD) aD))))),?_⟩;refine⟨_,rfl,l,_,rfl,.inl ⟨hS,fun b hb=>⟨aY _,fun c hc=>⟨(by show 3<=aU;decide),fun p hp=>?_⟩⟩⟩⟩;have s1:=bA.upd (o:=.tup (cV t)) hb;have s2:=bA.upd (o:=.tup []) hc;have s3:=bA.upd (o:=.tup [.str "text",.ref b,.ref c]) hp;exact k _ _ ((s1.trans s2).trans s3) (WB.mpr ⟨p,b,c,rfl,.of' aH,(s2.trans s3).sqT (.of' aH),s3.sqT (.of' aH)⟩)
inductive CO (K:aB) (vs:List V) (H:Hp) (Q:VK) (E:XK):Prop
 | mk (z:Int):vs=[.int z]->tE K H (Vatwva.vNum z) Q->CO K vs H Q E
theorem QR (T:iM K mg a):gY P w K mg base 1 "number_value" ["number"] (CO K):=by refine kL T.f_number_value ["number"] fun vs H Q E h=>?_;obtain⟨z,rfl,k⟩:=h;refine⟨rfl,fun nd _ _ _ _ _ hr=>?_⟩;intro X;obtain⟨u,hm,ru⟩:=T.c_NUMBER;refine⟨_,aN (bH (iT (aA (dN rfl hm ru) (aA (pv 0) (aA (iT aD) aD))))),?_⟩;refine⟨_,rfl,aY _,fun c hc=>⟨(by show 3<=aU;decide),fun p hp=>?_⟩⟩;have s2:=bA.upd (o:=.tup []) hc;have s3:=bA.upd (o:=.tup [.str "number",.int z,.ref c]) hp;exact k _ _ (s2.trans s3) (Cz.mpr ⟨p,c,rfl,.of' aH,s3.sqT (.of' aH)⟩)
def Yv (K:aB) (H:Hp) (p:aQ) (xs:List V):Prop:=hJ K H p xs\/fK K H p xs
theorem bA.sq (e:bA H H') (h:Yv K H p xs):Yv K H' p xs:=h.elim (fun z=>.inl (e.seq z)) fun z=>.inr (e.sqT z)
theorem EX:DK X (.type "tuple") (fun xs H Q=>∃p ys,xs=[.ref p]/\Yv X.K H p ys/\∀l H',bA H H'->fK X.K H' l ys->Q (.ref l) H'):=by
 intro pins s σ H xs us Q I r h;obtain⟨p,ys,rfl,hS,k⟩:=h;refine GR pins s σ H _ us Q I r ⟨p,ys,rfl,?_⟩;rcases hS with hS | hS
 ·exact .inl ⟨hS,fun l hl=>k l _ (bA.upd hl) (.of' aH)⟩
 ·exact .inr ⟨hS,k p H (bA.refl H) hS⟩
inductive CP (K:aB) (vs:List V) (H:Hp) (Q:VK) (E:XK):Prop
 | mk (n p:aQ) (l:List (Name×fT)) (zs:List V):vs=[.ref n,.ref p]->Yv K H n (dR l)->Yv K H p zs->gA K H zs (l.map fun x=>x.2)->tE K H (Vatwva.recordOf l) Q->CP K vs H Q E
theorem gA.ones (h:gA K H zs vs):∀v∈vs,VM.mQ v:=by
 induction h with
 | nil=>intro v hv;cases hv
 | cons r _ ih=>
  intro v hv;rcases aS.mp hv with rfl | hv
  ·exact r.1
  ·exact ih v hv
theorem oH (T:iM K mg a):gY P w K mg base 1 "record_value" ["names","parts"] (CP K):=by refine kL T.f_record_value ["names","parts"] fun vs H Q E h=>?_;obtain⟨n,p,l,zs,rfl,hn,hp,hv,k⟩:=h;refine⟨rfl,fun nd _ _ _ _ _ hr=>?_⟩;intro X;obtain⟨u,hm,ru⟩:=T.c_RECORD;refine⟨_,aN (bH (iT (aA (dN rfl hm ru) (aA (lO EX rfl T.n_tuple (by decide+kernel) (aA (pv 0) aD)) (aA (lO EX rfl T.n_tuple (by decide+kernel) (aA (pv 1) aD)) aD))))),?_⟩;refine⟨_,rfl,n,_,rfl,hn,fun b H1 s1 hb=>⟨_,rfl,p,_,rfl,bA.sq s1 hp,fun c H2 s2 hc=>⟨(by show 3<=aU;decide),fun q hq=>?_⟩⟩⟩;have s3:=bA.upd (o:=.tup [.str "record",.ref b,.ref c]) hq;have ho:∀x∈l,VM.mQ x.2:=fun x hx=>hv.ones x.2 (aX.mpr ⟨x,hx,rfl⟩);exact k _ _ ((s1.trans s2).trans s3) ((RK ho).mpr ⟨q,b,c,zs,rfl,.of' aH,(s2.trans s3).sqT hb,s3.sqT hc,hv.tups ((s1.trans s2).trans s3).tups⟩)
inductive HP (K:aB) (vs:List V) (H:Hp) (Q:VK) (E:XK):Prop
 | mk (p:aQ) (l:List fT) (zs:List V):vs=[.ref p]->Yv K H p zs->gA K H zs l->tE K H (Vatwva.listOf l) Q->HP K vs H Q E
theorem qX (T:iM K mg a):gY P w K mg base 1 "list_value" ["parts"] (HP K):=by refine kL T.f_list_value ["parts"] fun vs H Q E h=>?_;obtain⟨p,l,zs,rfl,hp,hv,k⟩:=h;refine⟨rfl,fun nd _ _ _ _ _ hr=>?_⟩;intro X;obtain⟨u,hm,ru⟩:=T.c_LIST;refine⟨_,aN (bH (iT (aA (dN rfl hm ru) (aA (iT aD) (aA (lO EX rfl T.n_tuple (by decide+kernel) (aA (pv 0) aD)) aD))))),?_⟩;refine⟨aY _,fun b hb=>⟨_,rfl,p,_,rfl,bA.sq (bA.upd hb) hp,fun c H2 s2 hc=>⟨(by show 3<=aU;decide),fun q hq=>?_⟩⟩⟩;have s1:=bA.upd (o:=.tup []) hb;have s3:=bA.upd (o:=.tup [.str "list",.ref b,.ref c]) hq;exact k _ _ ((s1.trans s2).trans s3) ((He hv.ones).mpr ⟨q,b,c,zs,rfl,.of' aH,(s2.trans s3).sqT (.of' aH),s3.sqT hc,hv.tups ((s1.trans s2).trans s3).tups⟩)
inductive RI (i:Nat) (K:aB) (vs:List V) (H:Hp) (Q:VK) (E:XK):Prop
 | mk (p:aQ) (xs:List V) (v:V):vs=[.ref p]->fK K H p xs->xs[i]?=some v->Q v H->RI i K vs H Q E
theorem mJ (T:iM K mg a):gY P w K mg base 1 "kind_of" ["value"] (RI 0 K):=by refine kL T.f_kind_of ["value"] fun vs H Q E h=>?_;obtain⟨p,xs,v,rfl,hS,hv,k⟩:=h;refine⟨rfl,fun nd _ _ _ _ _ hr=>?_⟩;intro X;exact⟨_,aN (bH (fN fV (pv 0) cB (fun _ _=>rfl))),_,rfl,p,_,_,_,rfl,rfl,hS,gC (j:=0) hv,k⟩
theorem sG (T:iM K mg a):gY P w K mg base 1 "own_of" ["value"] (RI 1 K):=by refine kL T.f_own_of ["value"] fun vs H Q E h=>?_;obtain⟨p,xs,v,rfl,hS,hv,k⟩:=h;refine⟨rfl,fun nd _ _ _ _ _ hr=>?_⟩;intro X;exact⟨_,aN (bH (fN fV (pv 0) cB (fun _ _=>rfl))),_,rfl,p,_,_,_,rfl,rfl,hS,gC (j:=1) hv,k⟩
theorem eS (T:iM K mg a):gY P w K mg base 1 "parts_of" ["value"] (RI 2 K):=by refine kL T.f_parts_of ["value"] fun vs H Q E h=>?_;obtain⟨p,xs,v,rfl,hS,hv,k⟩:=h;refine⟨rfl,fun nd _ _ _ _ _ hr=>?_⟩;intro X;exact⟨_,aN (bH (fN fV (pv 0) cB (fun _ _=>rfl))),_,rfl,p,_,_,_,rfl,rfl,hS,gC (j:=2) hv,k⟩
def Qu (H:Hp) (z:Int) (Q:VK):Prop:=∀H',bA H H'->Q (.int z) H'
theorem gA.get:∀{zs:List V} {vs:List fT} {i:Nat} {x:V},gA K H zs vs->zs[i]?=some x->∃v,vs[i]?=some v/\oG K H x v
 | _,_,_,_,.nil,e=>by simp at e
 | _,_,0,_,.cons r _,e=>by simp at e;subst e;exact⟨_,rfl,r⟩
 | _,_,i+1,x,.cons _ t,e=>by obtain⟨v,h1,h2⟩:=gA.get (i:=i) (x:=x) t (by simpa using e);exact⟨v,by simpa using h1,h2⟩
theorem gA.length (h:gA K H zs vs):zs.length=vs.length:=ID h
theorem jC {α:Type} {l:List α} {i:Nat} {x:α} (h:l[i]?=some x):l.take (i+1)=l.take i++[x]:=by rw[XT,h];rfl
noncomputable def bE (v:fT):List fT:=(Vatwva.kidsOf v).map fun x=>x.2
theorem FK (o:VM.mQ v) (h:p∈bE v):Vatwva.deep p+1<=Vatwva.deep v:=by
 rcases o.cases with⟨t,rfl⟩ | ⟨z,rfl⟩ | ⟨k,rfl⟩ | ⟨k,rfl⟩
 ·cases h
 ·cases h
 ·obtain⟨x,hx,rfl⟩:=aX.mp h;show _<=max (Vatwva.deep k+1) 0;rw[VM.jQ k];have:=VM.pY.mp (aR (VM.pX ((Vatwva.entries k).map fun x=>Vatwva.deep x.2))) _ (aX.mpr ⟨x,hx,rfl⟩)
  lia
 ·obtain⟨x,hx,rfl⟩:=aX.mp h;show _<=max (Vatwva.deep k+1) 0;rw[VM.jQ k];have:=VM.pY.mp (aR (VM.pX ((Vatwva.entries k).map fun x=>Vatwva.deep x.2))) _ (aX.mpr ⟨x,hx,rfl⟩)
  lia
theorem vD (o:VM.mQ v):Vatwva.count v=1+((bE v).map Vatwva.count).sum:=by
 rcases o.cases with⟨t,rfl⟩ | ⟨z,rfl⟩ | ⟨k,rfl⟩ | ⟨k,rfl⟩
 ·rfl
 ·rfl
 ·show 1+Vatwva.count k+0=_;rw[VM.kU k];unfold bE;rw[cQ];rfl
 ·show 1+Vatwva.count k+0=_;rw[VM.kU k];unfold bE;rw[cQ];rfl
theorem Iz (o:VM.mQ v):Vatwva.deep v=VM.pX ((bE v).map Vatwva.deep)+1:=by
 rcases o.cases with⟨t,rfl⟩ | ⟨z,rfl⟩ | ⟨k,rfl⟩ | ⟨k,rfl⟩
 ·rfl
 ·rfl
 ·show max (Vatwva.deep k+1) 0=_;rw[VM.jQ k,qS];unfold bE;rw[cQ];rfl
 ·show max (Vatwva.deep k+1) 0=_;rw[VM.jQ k,qS];unfold bE;rw[cQ];rfl
theorem wW (o:VM.mQ v) (h:p∈bE v):Vatwva.count p+1<=Vatwva.count v:=by
 rw[vD o];have:=VM.NK h
 lia
theorem zZ (o:VM.mQ v):(bE v).length+1<=Vatwva.count v:=by
 rw[vD o];have:∀l:List fT,(∀x∈l,VM.mQ x)->l.length<=(l.map Vatwva.count).sum:=by
  intro l;induction l with
  | nil=>intro _;simp
  | cons x l ih=>
   intro h;rw[aP,dW,aK];have h1:=VM.FJ (h x aM);have h2:=ih fun y hy=>h y (aL _ hy)
   lia
 have:=this (bE v) (fun x hx=>by obtain⟨y,hy,rfl⟩:=aX.mp hx;exact VM.mW y hy)
 lia
inductive VQ (f:fT->Nat) (K:aB) (d:Nat) (vs:List V) (H:Hp) (Q:VK) (E:XK):Prop
 | mk (x:V) (v:fT):vs=[x]->oG K H x v->Vatwva.deep v<=d->Vatwva.count v<=10000->Qu H (f v) Q->VQ f K d vs H Q E
theorem Bp {f:fT->Nat} {d:Nat} {c D:aQ} {zs:List V} {ps:List fT} {H1:Hp} {σ:L2.St} {Qd:Hp->Prop} {i:Nat} (hi:i < σ.length) (hD:H1 D=none) (hc:fK K H1 c zs) (hv:gA K H1 zs ps)
  (hd:∀p∈ps,Vatwva.deep p<=d) (hn:∀p∈ps,Vatwva.count p<=10000) (hl:ps.length<=10000) (k:∀H,bA H1 H->H D=some (.lst (ps.map fun v=>V.int (f v)))->Qd H):
  ∃W:Nat->Nat->Hp->Prop,(∃m,W 0 m (upd H1 D (.lst [])))/\∀j m H,W j m H->
   ((Qv K c).stop j H/\Qd H)\/((Qv K c).go j H/\∃Nx:Hp->Prop,(∀H',Nx H'->∃m',m' < m/\W (j+1) m' H')/\∀x H',(Qv K c).yld j H x H'->SY i x (nJ σ [i]) H' fun σ2 H2=>nJ σ2 [i]=nJ σ [i]/\D9 σ2 H2 fun b H3=>if b=true then Mn (VQ f K d) [] E0 (Aa (Gw i) Gv) σ2 H3 fun y H4=>∃acc,H4 D=some (.lst acc)/\acc.length < aU/\Nx (upd H4 D (.lst (acc++[y])))else Nx H3):=by
 have hlen:=hv.length;refine Jq (xs:=zs) (fun j H=>bA H1 H/\H D=some (.lst ((ps.take j).map fun v=>V.int (f v)))) ⟨bA.upd hD,aH⟩ (fun j H _ h=>h.1.sqT hc) (fun j x H hx h=>?_) (fun H h=>k H h.1 ?_)
 ·obtain⟨v,hv1,hv2⟩:=hv.get hx;have mv:v∈ps:=bB hv1;have hj:j < ps.length:=(aT.mp hv1).1;refine⟨?_,?_⟩
  rotate_left
  ·refine tJ (B:=bA H1 H/\H D=some (.lst ((ps.take (j+1)).map fun v=>V.int (f v)))) ⟨x,?_,x,v,rfl,hv2.tups h.1.tups,hd v mv,hn v mv,fun H' s'=>⟨_,s' _ _ h.2,?_,?_,?_⟩⟩
   ·show((σ.set i none).set i (some x))[i]?=some (some x);rw[NZ,oO hi]
   ·rw[aJ,bK];exact gS (Nat.min_le_right _ _) (gS hl (by decide))
   ·intro b o e;rw[bL (dM e hD)];exact s' b o (h.1 b o e)
   ·rw[aH,jC hv1,aW];rfl
  ·show((σ.set i none).set i (some x)).set i none=σ.set i none;rw[NZ,NZ]
 ·rw[hlen,cN]at h;exact h.2
theorem lB (T:iM K mg a):∀d:Nat,gY P w K mg base (d+2) "count_entries" ["value"] (VQ Vatwva.count K d)
 | 0=>by refine kL T.f_count_entries ["value","part"] fun vs H Q E h=>?_;obtain⟨x,v,rfl,hx,hd,_⟩:=h;refine⟨rfl,fun nd _ _ _ _ _ hr=>?_⟩;intro X;exact absurd (VM.qU hx.1) (by lia)
 | d+1=>by
  have ih:=lB T d;refine kL T.f_count_entries ["value","part"] fun vs H Q E h=>?_;obtain⟨x,v,rfl,hx,hd,hn,k⟩:=h;refine⟨rfl,fun nd _ _ _ _ _ hr=>?_⟩;intro X;refine⟨_,aN (bH (kE uL cB (cY (Rb rfl) rfl T.n_sum (by decide+kernel) (aA (ZI rfl nd (BQ (bC (eS T) (hr.mono (by lia)) ⟨rfl,rfl,rfl⟩ (aA (pv 0) aD))) (vB (own:=[("part",1)]) (by rfl)) (fun _ _ _ _ _=>fC (i:=1) nd rfl (bP rfl)) (fun _ _ _ _ _=>yH) (fun _ _ _ _ _=>NP ih hr (aA (pv 1) aD))) aD)))),?_⟩;obtain⟨p,o,c,zs,rfl,h1,h2,h3⟩:=hx.parts;have h3:gA K H zs (bE v):=h3;refine⟨_,rfl,p,_,_,rfl,h1,rfl,c,rfl,⟨_,h2⟩,fun D hD=>?_⟩;refine Bp (by show 1 < 2;decide) hD h2 h3 (fun q hq=>?_) (fun q hq=>?_) ?_ (fun H' s' hl=>?_)
  ·have:=FK hx.1 hq;lia
  ·have:=wW hx.1 hq;lia
  ·have:(bE v).length+1<=_:=zZ hx.1;lia
  ·refine⟨D,(bE v).map fun v=>(Vatwva.count v:Int),rfl,?_,_,_,rfl,rfl,?_⟩
   ·rw[cQ];exact hJ.of hl
   ·have e:(1:Int)+((bE v).map fun v=>(Vatwva.count v:Int)).sum=(Vatwva.count v:Int):=by
     rw[vD hx.1];have:∀l:List fT,(l.map fun v=>(Vatwva.count v:Int)).sum=(((l.map Vatwva.count).sum:Nat):Int):=by
      intro l;induction l with
      | nil=>rfl
      | cons x l ih=>rw[aP,dW,aP,dW,ih];lia
     rw[this]
     lia
    show Q (.int (1+((bE v).map fun v=>(Vatwva.count v:Int)).sum)) H';rw[e];exact k H' s'
noncomputable def qQ:QK->Nat
 | .nil=>0
 | .text _ _ r=>qQ r
 | .num _ _ r=>qQ r
 | .sub _ _ k r=>max (max (Vatwva.entries k).length (qQ k)) (qQ r)
theorem tQ:∀r:QK,qQ r=VM.pX ((Vatwva.entries r).map fun x=>qQ x.2)
 | .nil=>rfl
 | .text n t r=>by
  show qQ r=max (qQ (Vatwva.vText t)) (VM.pX _);rw[<-tQ r];show _=max 0 _
  lia
 | .num n z r=>by
  show qQ r=max (qQ (Vatwva.vNum z)) (VM.pX _);rw[<-tQ r];show _=max 0 _
  lia
 | .sub n l k r=>by show max (max (Vatwva.entries k).length (qQ k)) (qQ r)=max (qQ (.sub [] l k .nil)) (VM.pX _);rw[<-tQ r];show _=max (max (max (Vatwva.entries k).length (qQ k)) 0) (qQ r);rw[qS]
theorem JK (o:VM.mQ v):qQ v=max (bE v).length (VM.pX ((bE v).map qQ)):=by
 rcases o.cases with⟨t,rfl⟩ | ⟨z,rfl⟩ | ⟨k,rfl⟩ | ⟨k,rfl⟩
 ·rfl
 ·rfl
 ·show max (max (Vatwva.entries k).length (qQ k)) 0=_;rw[tQ k,qS];unfold bE;rw[cQ,aJ];rfl
 ·show max (max (Vatwva.entries k).length (qQ k)) 0=_;rw[tQ k,qS];unfold bE;rw[cQ,aJ];rfl
theorem FQ (h:VM.eI W v):qQ v<=W'↔VM.eI W' v:=by
 refine VM.eI.ind (P:=fun v=>qQ v<=W'↔VM.eI W' v) ?_ ?_ ?_ ?_ h
 ·intro t ht;exact⟨fun _=>VM.FP.mpr ht,fun _=>aY _⟩
 ·intro z hz;exact⟨fun _=>VM.KW.mpr hz,fun _=>aY _⟩
 ·intro l hl hd hn hp;have ho:∀x∈l,VM.mQ x.2:=fun x hx=>(hn x hx).2.1;rw[VM.zW ho,JK (VM.qA l)];have e:bE (Vatwva.recordOf l)=l.map fun x=>x.2:=by unfold bE;rw[VM.oR ho]
  rw[e,aJ,Nat.max_le,VM.pY];constructor
  ·rintro⟨a,b⟩;exact⟨a,hd,fun x hx=>⟨(hn x hx).1,(hp x hx).mp (b _ (aX.mpr ⟨x.2,aX.mpr ⟨x,hx,rfl⟩,rfl⟩))⟩⟩
  ·rintro⟨a,_,c⟩;refine⟨a,fun y hy=>?_⟩;obtain⟨z,hz,rfl⟩:=aX.mp hy;obtain⟨x,hx,rfl⟩:=aX.mp hz;exact(hp x hx).mpr (c x hx).2
 ·intro l hl hn hp;have ho:∀x∈l,VM.mQ x:=fun x hx=>(hn x hx).1;rw[VM.sE ho,JK (VM.uK l)];have e:bE (Vatwva.listOf l)=l:=by unfold bE;exact VM.lS ho
  rw[e,Nat.max_le,VM.pY];constructor
  ·rintro⟨a,b⟩;exact⟨a,fun x hx=>(hp x hx).mp (b _ (aX.mpr ⟨x,hx,rfl⟩))⟩
  ·rintro⟨a,c⟩;refine⟨a,fun y hy=>?_⟩;obtain⟨x,hx,rfl⟩:=aX.mp hy;exact(hp x hx).mpr (c x hx)
theorem GX:∀l:List Nat,l≠[]->L2.qV (l.map fun(n:Nat)=>(n:Int))=(VM.pX l:Int)
 | [],h=>absurd rfl h
 | a::l,_=>by
  have:∀(l:List Nat) (b:Nat),(l.map fun(n:Nat)=>(n:Int)).foldl max (b:Int)=((max b (VM.pX l):Nat):Int):=by
   intro l;induction l with
   | nil=>intro b;show(b:Int)=((max b 0:Nat):Int);lia
   | cons c l ih=>
    intro b;rw[aP,mC];have e:max (b:Int) (c:Int)=((max b c:Nat):Int):=by lia
    rw[e,ih];show _=((max b (max c (VM.pX l)):Nat):Int);rw[Nat.max_assoc]
  exact this l a
theorem EB (T:iM K mg a):∀d:Nat,gY P w K mg base (d+2) "depth_of" ["value"] (VQ Vatwva.deep K d)
 | 0=>by refine kL T.f_depth_of ["value","part"] fun vs H Q E h=>?_;obtain⟨x,v,rfl,hx,hd,_⟩:=h;refine⟨rfl,fun nd _ _ _ _ _ hr=>?_⟩;intro X;exact absurd (VM.qU hx.1) (by lia)
 | d+1=>by
  have ih:=EB T d;refine kL T.f_depth_of ["value","part"] fun vs H Q E h=>?_;obtain⟨x,v,rfl,hx,hd,hn,k⟩:=h;refine⟨rfl,fun nd _ _ _ _ _ hr=>?_⟩;intro X;refine⟨_,aN (bH (kE uL cB (Vk rfl (ZI rfl nd (BQ (bC (eS T) (hr.mono (by lia)) ⟨rfl,rfl,rfl⟩ (aA (pv 0) aD))) (vB (own:=[("part",1)]) (by rfl)) (fun _ _ _ _ _=>fC (i:=1) nd rfl (bP rfl)) (fun _ _ _ _ _=>yH) (fun _ _ _ _ _=>NP ih hr (aA (pv 1) aD))) cB T.n_max))),?_⟩;obtain⟨p,o,c,zs,rfl,h1,h2,h3⟩:=hx.parts;have h3:gA K H zs (bE v):=h3;refine⟨_,rfl,p,_,_,rfl,h1,rfl,c,rfl,⟨_,h2⟩,fun D hD=>?_⟩;refine Bp (by show 1 < 2;decide) hD h2 h3 (fun q hq=>?_) (fun q hq=>?_) ?_ (fun H' s' hl=>?_)
  ·have:=FK hx.1 hq;lia
  ·have:=wW hx.1 hq;lia
  ·have:(bE v).length+1<=_:=zZ hx.1;lia
  ·refine⟨D,(bE v).map fun v=>(Vatwva.deep v:Int),0,rfl,?_,rfl,_,_,rfl,rfl,?_⟩
   ·rw[cQ];exact hJ.of hl
   ·show Q (.int (1+(if ((bE v).map fun v=>(Vatwva.deep v:Int)).isEmpty=true then 0 else qV ((bE v).map fun v=>(Vatwva.deep v:Int))))) H';have e:(1:Int)+(if ((bE v).map fun v=>(Vatwva.deep v:Int)).isEmpty=true then 0 else qV ((bE v).map fun v=>(Vatwva.deep v:Int)))=(Vatwva.deep v:Int):=by
     rw[Iz hx.1];by_cases hp:bE v=[]
     ·rw[hp];rfl
     ·have:((bE v).map fun v=>(Vatwva.deep v:Int))=((bE v).map Vatwva.deep).map fun(n:Nat)=>(n:Int):=by rw[cQ];rfl
      rw[this,GX _ (by simpa using hp),if_neg (by simpa using hp)]
      lia
    rw[e];exact k H' s'
theorem AC (T:iM K mg a):∀d:Nat,gY P w K mg base (d+2) "most_parts_in" ["value"] (VQ qQ K d)
 | 0=>by refine kL T.f_most_parts_in ["value","part"] fun vs H Q E h=>?_;obtain⟨x,v,rfl,hx,hd,_⟩:=h;refine⟨rfl,fun nd _ _ _ _ _ hr=>?_⟩;intro X;exact absurd (VM.qU hx.1) (by lia)
 | d+1=>by
  have ih:=AC T d;refine kL T.f_most_parts_in ["value","part"] fun vs H Q E h=>?_;obtain⟨x,v,rfl,hx,hd,hn,k⟩:=h;refine⟨rfl,fun nd _ _ _ _ _ hr=>?_⟩;intro X;refine⟨_,aN (bH (cY (Nr rfl) rfl T.n_max (by decide+kernel) (aA (kE uM (eL (aA (cY cW rfl T.n_len cE (aA (bC (eS T) (hr.mono (by lia)) ⟨rfl,rfl,rfl⟩ (aA (pv 0) aD)) aD)) aD)) (ZI rfl nd (BQ (bC (eS T) (hr.mono (by lia)) ⟨rfl,rfl,rfl⟩ (aA (pv 0) aD))) (vB (own:=[("part",1)]) (by rfl)) (fun _ _ _ _ _=>fC (i:=1) nd rfl (bP rfl)) (fun _ _ _ _ _=>yH) (fun _ _ _ _ _=>NP ih hr (aA (pv 1) aD)))) aD))),?_⟩;obtain⟨p,o,c,zs,rfl,h1,h2,h3⟩:=hx.parts;have h3:gA K H zs (bE v):=h3;have hl0:(bE v).length+1<=_:=zZ hx.1;refine⟨_,rfl,p,_,_,rfl,h1,rfl,c,_,rfl,.inr h2,(by show 1<=aU;decide),fun l hl=>?_⟩;have s1:=bA.upd (o:=.lst [.int (zs.length:Nat)]) hl;refine⟨_,rfl,p,_,_,rfl,s1.sqT h1,rfl,c,rfl,⟨_,s1.sqT h2⟩,fun D hD=>?_⟩;refine Bp (by show 1 < 2;decide) hD (s1.sqT h2) (h3.tups s1.tups) (fun q hq=>?_) (fun q hq=>?_) (by lia) (fun H' s' hl'=>?_)
  ·have:=FK hx.1 hq;lia
  ·have:=wW hx.1 hq;lia
  ·refine⟨l,D,_,_,rfl,rfl,s' _ _ aH,hl',?_,fun q hq=>?_⟩
   ·rw[aJ];show 1+(bE v).length<=aU;exact bI (by lia:1+(bE v).length<=10000) (by decide)
   ·refine⟨q,(((bE v).length::(bE v).map qQ).map fun(n:Nat)=>(n:Int)),rfl,?_,by simp,?_⟩
    ·rw[cQ];have e:(((bE v).length::(bE v).map qQ).map (V.int∘fun(n:Nat)=>(n:Int)))=[.int (zs.length:Nat)]++(bE v).map fun v=>V.int (qQ v):=by rw[aP,cQ,h3.length];rfl
     rw[e];exact hJ.of aH
    ·rw[GX _ (by simp)];have e:VM.pX ((bE v).length::(bE v).map qQ)=qQ v:=(JK hx.1).symm;rw[e];exact k _ ((s1.trans s').trans (bA.upd hq))
inductive ZU (K:aB) (d:Nat) (vs:List V) (H:Hp) (Q:VK) (E:XK):Prop
 | mk (x:V) (v:fT) (e p:Nat):vs=[x,.int e,.int p]->oG K H x v->Vatwva.deep v<=d->Vatwva.count v<=10000->(∀H',bA H H'->Q (.bl (decide (Vatwva.deep v<=6/\Vatwva.count v<=e/\qQ v<=p))) H')->ZU K d vs H Q E
theorem CM (T:iM K mg a) (d:Nat):gY P w K mg base (d+3) "keeps_within" ["value","most_entries","most_parts"] (ZU K d):=by
 refine kL T.f_keeps_within ["value","most_entries","most_parts"] fun vs H Q E h=>?_;obtain⟨x,v,e,p,rfl,hx,hd,hn,k⟩:=h;refine⟨rfl,fun nd _ _ _ _ _ hr=>?_⟩;intro X;obtain⟨u,hm,ru⟩:=T.c_MOST_DEEP;refine⟨_,aI (fE (dB CN (bC (EB T d) hr ⟨rfl,rfl,rfl⟩ (aA (pv 0) aD)) (dN rfl hm ru) (dL _)) (aN (bH Sr)) cZ) (aN (bH (Sq (rF OS (bC (lB T d) hr ⟨rfl,rfl,rfl⟩ (aA (pv 0) aD)) (pv 1) (dL _)) (Jx (rF OS (bC (AC T d) hr ⟨rfl,rfl,rfl⟩ (aA (pv 0) aD)) (pv 2) (dL _)))))),?_⟩;refine⟨_,rfl,x,v,rfl,hx,hd,hn,fun H1 s1=>⟨_,_,rfl,rfl,_,rfl,?_⟩⟩;refine nI (fun c=>?_) (fun c=>?_)
 ·have c:(6:Int) < (Vatwva.deep v:Int):=of_decide_eq_true c;have:=k H1 s1;rw[decide_eq_false (by lia)]at this;exact this
 ·have c:¬(6:Int) < (Vatwva.deep v:Int):=fun z=>c (decide_eq_true z);refine⟨_,rfl,x,v,rfl,hx.tups s1.tups,hd,hn,fun H2 s2=>⟨_,rfl,_,_,rfl,rfl,_,rfl,?_⟩⟩;refine nI (fun c2=>?_) (fun c2=>?_)
  ·have c2:(Vatwva.count v:Int)<=(e:Int):=of_decide_eq_true c2;refine⟨_,rfl,x,v,rfl,hx.tups (s1.trans s2).tups,hd,hn,fun H3 s3=>⟨_,rfl,_,_,rfl,rfl,?_⟩⟩;have:=k H3 ((s1.trans s2).trans s3);have e1:decide (Vatwva.deep v<=6/\Vatwva.count v<=e/\qQ v<=p)=decide ((qQ v:Int)<=(p:Int)):=by
    rw[mB,decide_eq_true_iff,decide_eq_true_iff];constructor
    ·intro z;lia
    ·intro z;lia
   rw[e1]at this;exact this
  ·have c2:¬(Vatwva.count v:Int)<=(e:Int):=fun z=>c2 (decide_eq_true z);have:=k H2 (s1.trans s2);rw[decide_eq_false (by lia)]at this;exact this
inductive Cv (K:aB) (d e p:Nat) (vs:List V) (H:Hp) (Q:VK) (E:XK):Prop
 | mk (x:V) (v:fT):vs=[x]->oG K H x v->Vatwva.deep v<=d->Vatwva.count v<=10000->(∀H',bA H H'->Q (.bl (decide (Vatwva.deep v<=6/\Vatwva.count v<=e/\qQ v<=p))) H')->Cv K d e p vs H Q E
theorem ED (T:iM K mg a) (d:Nat):gY P w K mg base (d+4) "is_value" ["value"] (Cv K d 60 12):=by refine kL T.f_is_value ["value"] fun vs H Q E h=>?_;obtain⟨x,v,rfl,hx,hd,hn,k⟩:=h;refine⟨rfl,fun nd _ _ _ _ _ hr=>?_⟩;intro X;obtain⟨u1,hm1,ru1⟩:=T.c_MOST_ENTRIES;obtain⟨u2,hm2,ru2⟩:=T.c_MOST_PARTS;exact⟨_,aN (bH (bC (CM T d) hr ⟨rfl,rfl,rfl⟩ (aA (pv 0) (aA (dN rfl hm1 ru1) (aA (dN rfl hm2 ru2) aD))))),_,rfl,x,v,60,12,rfl,hx,hd,hn,k⟩
theorem EE (T:iM K mg a) (d:Nat):gY P w K mg base (d+4) "may_be_on_the_way" ["value"] (Cv K d 120 24):=by refine kL T.f_may_be_on_the_way ["value"] fun vs H Q E h=>?_;obtain⟨x,v,rfl,hx,hd,hn,k⟩:=h;refine⟨rfl,fun nd _ _ _ _ _ hr=>?_⟩;intro X;obtain⟨u1,hm1,ru1⟩:=T.c_MOST_ENTRIES_ON_THE_WAY;obtain⟨u2,hm2,ru2⟩:=T.c_MOST_PARTS_ON_THE_WAY;exact⟨_,aN (bH (bC (CM T d) hr ⟨rfl,rfl,rfl⟩ (aA (pv 0) (aA (dN rfl hm1 ru1) (aA (dN rfl hm2 ru2) aD))))),_,rfl,x,v,120,24,rfl,hx,hd,hn,k⟩
def No (a:mF) (H:Hp) (E:XK):Prop:=∀H',bA H H'->E (.ref a.xInapplicable) none H'
theorem tE.on (h:tE K H v Q) (s:bA H H1):tE K H1 v Q:=fun H' x s'=>h H' x (s.trans s')
inductive VR (a:mF) (vs:List V) (H:Hp) (Q:VK) (E:XK):Prop
 | mk (b:_):vs=[.bl b]->(b=true->Q .non H)->(b=false->E (.ref a.xInapplicable) none H)->VR a vs H Q E
theorem nW (T:iM K mg a):gY P w K mg base 1 "require" ["holds"] (VR a):=by
 refine kL T.f_require ["holds"] fun vs H Q E h=>?_;obtain⟨b,rfl,k1,k2⟩:=h;refine⟨rfl,fun nd _ _ _ _ _ hr=>?_⟩;intro X;refine⟨_,aN (fE (xF (mY (pv 0))) (aN (iZ ⟨rfl,rfl,rfl⟩ rfl rfl T.x_Inapplicable.1 T.x_Inapplicable.2)) cZ),?_⟩;cases b with
 | true=>exact⟨_,rfl,_,rfl,xR (k1 rfl)⟩
 | false=>exact⟨_,rfl,_,rfl,tJ (k2 rfl)⟩
def Ij (K:aB) (H:Hp) (xs:List V) (Q:VK):Prop:=∀p H',bA H H'->fK K H' p xs->Q (.ref p) H'
theorem small (h:n<=20000):n<=aU:=bI h (by decide)
inductive MI (K:aB) (vs:List V) (H:Hp) (Q:VK) (E:XK):Prop
 | mk (p:aQ) (xs:List V) (j:Nat) (x:V):vs=[.ref p,.int j,x]->fK K H p xs->xs.length<=10000->Ij K H (xs.take j++x::xs.drop j) Q->MI K vs H Q E
theorem wG (T:iM K mg a):gY P w K mg base 1 "with_more" ["parts","place","part"] (MI K):=by refine kL T.f_with_more ["parts","place","part"] fun vs H Q E h=>?_;obtain⟨p,xs,j,x,rfl,hp,hl,k⟩:=h;refine⟨rfl,fun nd _ _ _ _ _ hr=>?_⟩;intro X;refine⟨_,aN (bH (kE FX (kE FX (xE GD (pv 0) GA (yG (pv 1))) (iT (aA (pv 2) aD))) (xE GD (pv 0) (yG (pv 1)) GA))),?_⟩;refine⟨_,rfl,_,rfl,_,rfl,p,xs,rfl,hp,fun p1 H1 s1 h1=>⟨_,rfl,(by show 1<=aU;decide),fun p2 hp2=>?_⟩⟩;rw[Iy]at h1;have s2:=bA.upd (o:=.tup [x]) hp2;refine⟨p1,p2,xs.take j,[x],rfl,rfl,s2.sqT h1,.of' aH,small (by rw[bK];show min j xs.length+1<=20000;omega),fun p3 H3 s3 h3=>?_⟩;have s13:=(s1.trans s2).trans s3;refine⟨_,rfl,_,rfl,_,rfl,p,xs,rfl,s13.sqT hp,fun p4 H4 s4 h4=>?_⟩;rw[SI]at h4;refine⟨p3,p4,_,_,rfl,rfl,s4.sqT h3,h4,small (by rw[aC,bK,cX];show min j xs.length+1+_<=20000;omega),fun p5 H5 s5 h5=>?_⟩;rw[eY]at h5;exact k p5 H5 ((s13.trans s4).trans s5) h5
inductive VT (K:aB) (vs:List V) (H:Hp) (Q:VK) (E:XK):Prop
 | mk (p:aQ) (xs:List V) (j:Nat):vs=[.ref p,.int j]->fK K H p xs->xs.length<=10000->Ij K H (xs.take j++xs.drop (j+1)) Q->VT K vs H Q E
theorem BN (T:iM K mg a):gY P w K mg base 1 "without" ["parts","place"] (VT K):=by
 refine kL T.f_without ["parts","place"] fun vs H Q E h=>?_;obtain⟨p,xs,j,rfl,hp,hl,k⟩:=h;refine⟨rfl,fun nd _ _ _ _ _ hr=>?_⟩;intro X;refine⟨_,aN (bH (kE FX (xE GD (pv 0) GA (yG (pv 1))) (xE GD (pv 0) (yG (kE uL (pv 1) cB)) GA))),?_⟩;refine⟨_,rfl,_,rfl,_,rfl,p,xs,rfl,hp,fun p1 H1 s1 h1=>⟨_,rfl,_,rfl,_,_,rfl,rfl,_,rfl,p,xs,rfl,s1.sqT hp,fun p2 H2 s2 h2=>?_⟩⟩;rw[Iy]at h1;have e:((j:Int)+1)=((j+1:Nat):Int):=by omega
 have h2:fK K H2 p2 (CT xs (some ((j:Int)+1)) none):=h2;rw[e,SI]at h2;exact⟨p1,p2,_,_,rfl,rfl,s2.sqT h1,h2,small (by rw[bK,cX];omega),fun p5 H5 s5 h5=>k p5 H5 ((s1.trans s2).trans s5) h5⟩
inductive HY (K:aB) (vs:List V) (H:Hp) (Q:VK) (E:XK):Prop
 | mk (p:aQ) (xs:List V) (j:Nat) (x:V):vs=[.ref p,.int j,x]->fK K H p xs->xs.length<=10000->Ij K H (xs.take j++x::xs.drop (j+1)) Q->HY K vs H Q E
theorem HE (T:iM K mg a):gY P w K mg base 1 "with_other" ["parts","place","part"] (HY K):=by
 refine kL T.f_with_other ["parts","place","part"] fun vs H Q E h=>?_;obtain⟨p,xs,j,x,rfl,hp,hl,k⟩:=h;refine⟨rfl,fun nd _ _ _ _ _ hr=>?_⟩;intro X;refine⟨_,aN (bH (kE FX (kE FX (xE GD (pv 0) GA (yG (pv 1))) (iT (aA (pv 2) aD))) (xE GD (pv 0) (yG (kE uL (pv 1) cB)) GA))),?_⟩;refine⟨_,rfl,_,rfl,_,rfl,p,xs,rfl,hp,fun p1 H1 s1 h1=>⟨_,rfl,(by show 1<=aU;decide),fun p2 hp2=>?_⟩⟩;rw[Iy]at h1;have s2:=bA.upd (o:=.tup [x]) hp2;refine⟨p1,p2,xs.take j,[x],rfl,rfl,s2.sqT h1,.of' aH,small (by rw[bK];show min j xs.length+1<=20000;omega),fun p3 H3 s3 h3=>?_⟩;have s13:=(s1.trans s2).trans s3;refine⟨_,rfl,_,rfl,_,_,rfl,rfl,_,rfl,p,xs,rfl,s13.sqT hp,fun p4 H4 s4 h4=>?_⟩;have e:((j:Int)+1)=((j+1:Nat):Int):=by omega
 have h4:fK K H4 p4 (CT xs (some ((j:Int)+1)) none):=h4;rw[e,SI]at h4;refine⟨p3,p4,_,_,rfl,rfl,s4.sqT h3,h4,small (by rw[aC,bK,cX];show min j xs.length+1+_<=20000;omega),fun p5 H5 s5 h5=>?_⟩;rw[eY]at h5;exact k p5 H5 ((s13.trans s4).trans s5) h5
theorem oG.rec (h:oG K H x v) (hr:Vatwva.isRecord v=true):∃p b c zs,x=.ref p/\fK K H p [.str "record",.ref b,.ref c]/\fK K H b (dR (Vatwva.kidsOf v))/\fK K H c zs/\gA K H zs (bE v):=by have e:=VM.fX h.1 hr;rw[<-e]at h;exact(RK VM.mW).mp h
theorem oG.kind (h:oG K H x v):∃p o c,x=.ref p/\fK K H p [.str (vH v),o,.ref c]:=let ⟨p,o,c,_,a,b,_⟩:=h.parts;⟨p,o,c,a,b⟩
theorem YV (o:VM.mQ v):(vH v="list")↔Vatwva.isList v=true:=by rcases o.cases with⟨t,rfl⟩ | ⟨z,rfl⟩ | ⟨k,rfl⟩ | ⟨k,rfl⟩<;>simp[vH,Vatwva.isRecord,Vatwva.isList,vZ,Vatwva.vText,Vatwva.vNum,Vatwva.vRec,Vatwva.vList]<;>decide
theorem TU (o:VM.mQ v):(vH v="record")↔Vatwva.isRecord v=true:=by rcases o.cases with⟨t,rfl⟩ | ⟨z,rfl⟩ | ⟨k,rfl⟩ | ⟨k,rfl⟩<;>simp[vH,Vatwva.isRecord,Vatwva.isList,vZ,Vatwva.vText,Vatwva.vNum,Vatwva.vRec,Vatwva.vList]<;>decide
inductive PN (a:mF) (K:aB) (vs:List V) (H:Hp) (Q:VK) (E:XK):Prop
 | mk (x:V) (v:fT):vs=[x]->oG K H x v->(Vatwva.isList v=true->∀c zs,fK K H c zs->gA K H zs (Vatwva.itemsOf v)->Q (.ref c) H)->(Vatwva.isList v=false->E (.ref a.xInapplicable) none H)->PN a K vs H Q E
theorem vJ (T:iM K mg a):gY P w K mg base 2 "items_of" ["here"] (PN a K):=by
 refine kL T.f_items_of ["here"] fun vs H Q E h=>?_;obtain⟨x,v,rfl,hx,k1,k2⟩:=h;refine⟨rfl,fun nd _ _ _ _ _ hr=>?_⟩;intro X;obtain⟨u,hm,ru⟩:=T.c_LIST;refine⟨_,aI (dO (bC (nW T) hr ⟨rfl,rfl,rfl⟩ (aA (rF qK (bC (mJ T) hr ⟨rfl,rfl,rfl⟩ (aA (pv 0) aD)) (dN rfl hm ru) (dL _)) aD))) (aN (bH (bC (eS T) hr ⟨rfl,rfl,rfl⟩ (aA (pv 0) aD)))),?_⟩;obtain⟨p,o,c,zs,rfl,h1,h2,h3⟩:=hx.parts;refine⟨_,rfl,p,_,_,rfl,h1,rfl,rfl,_,rfl,fun e=>?_,fun e=>?_⟩
 ·have e:vH v="list":=V.str.inj (of_decide_eq_true e);exact⟨_,rfl,p,_,_,rfl,h1,rfl,k1 ((YV hx.1).mp e) c zs h2 h3⟩
 ·refine k2 ?_;cases q:Vatwva.isList v with
  | false=>rfl
  | true=>exact absurd (congrArg V.str ((YV hx.1).mpr q)) (of_decide_eq_false e)
inductive PU (a:mF) (K:aB) (vs:List V) (H:Hp) (Q:VK) (E:XK):Prop
 | mk (x:V) (v:fT):vs=[x]->oG K H x v->(Vatwva.isRecord v=true->∀b,fK K H b (dR (Vatwva.kidsOf v))->Q (.ref b) H)->(Vatwva.isRecord v=false->E (.ref a.xInapplicable) none H)->PU a K vs H Q E
theorem vK (T:iM K mg a):gY P w K mg base 2 "names_of" ["here"] (PU a K):=by
 refine kL T.f_names_of ["here"] fun vs H Q E h=>?_;obtain⟨x,v,rfl,hx,k1,k2⟩:=h;refine⟨rfl,fun nd _ _ _ _ _ hr=>?_⟩;intro X;obtain⟨u,hm,ru⟩:=T.c_RECORD;refine⟨_,aI (dO (bC (nW T) hr ⟨rfl,rfl,rfl⟩ (aA (rF qK (bC (mJ T) hr ⟨rfl,rfl,rfl⟩ (aA (pv 0) aD)) (dN rfl hm ru) (dL _)) aD))) (aN (bH (bC (sG T) hr ⟨rfl,rfl,rfl⟩ (aA (pv 0) aD)))),?_⟩;by_cases q:Vatwva.isRecord v=true
 ·obtain⟨p,b,c,zs,rfl,h1,h2,h3,h4⟩:=hx.rec q;refine⟨_,rfl,p,_,_,rfl,h1,rfl,rfl,_,rfl,fun e=>?_,fun e=>absurd rfl (of_decide_eq_false e)⟩;exact⟨_,rfl,p,_,_,rfl,h1,rfl,k1 q b h2⟩
 ·obtain⟨p,o,c,rfl,h1⟩:=hx.kind;refine⟨_,rfl,p,_,_,rfl,h1,rfl,rfl,_,rfl,fun e=>?_,fun e=>k2 (iD.mpr q)⟩;exact absurd ((TU hx.1).mp (V.str.inj (of_decide_eq_true e))) q
theorem uR (h:bT n=bT m):n=m:=by
 unfold bT at h;have h1:(n.map iC).toArray=(m.map iC).toArray:=by injection h
 have h2:n.map iC=m.map iC:=by simpa using congrArg MV h1
 have key:∀(a b:bW),a.map iC=b.map iC->a=b:=by
  intro a;induction a with
  | nil=>intro b hb;cases b with
   | nil=>rfl
   | cons _ _=>cases hb
  | cons x a ih=>intro b hb;cases b with
   | nil=>cases hb
   | cons y b=>simp only[aP,dE]at hb;rw[lZ.mp hb.1,ih b hb.2]
 exact key n m h2
theorem Bi (n m:bW):Qp (.str (bT n)) (.str (bT m))=decide (n=m):=by
 show(bT n == bT m)=_;by_cases e:n=m
 ·subst e;simp
 ·rw[decide_eq_false e];exact beq_eq_false_iff_ne.mpr fun q=>e (uR q)
theorem uF (l:List (Name×fT)) (n:Name):Tz (.str (bT n)) (dR l)=Vatwvc.hasField l n:=by unfold Tz dR Vatwvc.hasField;rw[List.any_map];congr 1;funext x;show Qp (.str (bT x.1)) (.str (bT n))=_;rw[Bi];rw[mB,decide_eq_true_iff,beq_iff_eq]
theorem uE (l:List (Name×fT)):(dR l).all zV=true:=by rw[cA];intro x hx;obtain⟨y,_,rfl⟩:=aX.mp hx;rfl
theorem gW (l:List (Name×fT)):(dR l).length=l.length:=aJ _
theorem ML (h:Vatwvc.hasField l n=true):∃A x B,l=A++x::B/\x.1=n/\Vatwvc.placeOf l n=A.length/\(∀y∈A,y.1≠n):=by
 obtain⟨x1,hx1,n1⟩:=VM.jR.mp h;cases q:l.find? (fun x=>x.1 == n)with
 | none=>have:=xT.mp q x1 hx1;simp[n1]at this
 | some x0=>obtain⟨A,B,h1,h2,h3⟩:=VM.yX q;exact⟨A,x0,B,h1,(VM.FO q).2,h3,h2⟩
theorem BZ {A B:List (Name×fT)} {x:Name×fT} (h:Vatwva.distinct ((A++x::B).map fun x=>x.1)=true):∀y∈B,y.1≠x.1:=by rw[VM.iI,aW,aP,pD]at h;intro y hy c;exact(dZ.mp h.2.1).1 (aX.mpr ⟨y,hy,c⟩)
inductive HN (a:mF) (K:aB) (vs:List V) (H:Hp) (Q:VK) (E:XK):Prop
 | mk (x:V) (v:fT) (j:Nat):vs=[x,.int j]->oG K H x v->(Vatwva.isList v=true->j < (Vatwva.itemsOf v).length->Q (.int j) H)->(¬(Vatwva.isList v=true/\j < (Vatwva.itemsOf v).length)->E (.ref a.xInapplicable) none H)->HN a K vs H Q E
theorem uX (T:iM K mg a):gY P w K mg base 3 "item_place" ["here","place"] (HN a K):=by
 refine kL T.f_item_place ["here","place"] fun vs H Q E h=>?_;obtain⟨x,v,j,rfl,hx,k1,k2⟩:=h;refine⟨rfl,fun nd _ _ _ _ _ hr=>?_⟩;intro X;refine⟨_,aI (dO (bC (nW T) hr.m ⟨rfl,rfl,rfl⟩ (aA (rF OT (pv 1) (cY cW rfl T.n_len cE (aA (bC (vJ T) hr ⟨rfl,rfl,rfl⟩ (aA (pv 0) aD)) aD)) (dL _)) aD))) (aN (bH (pv 1))),?_⟩;refine⟨_,rfl,_,rfl,x,v,rfl,hx,fun hl c zs hc hz=>⟨c,zs,rfl,.inr hc,_,_,rfl,rfl,_,rfl,fun e=>?_,fun e=>?_⟩,fun hl=>k2 fun z=>?_⟩
 ·have e:(j:Int) < (zs.length:Int):=of_decide_eq_true e;exact⟨_,rfl,k1 hl (by rw[<-hz.length];lia)⟩
 ·have e:¬(j:Int) < (zs.length:Int):=of_decide_eq_false e;exact k2 fun z=>e (by rw[hz.length];lia)
 ·rw[hl]at z;cases z.1
inductive EQ (a:mF) (K:aB) (vs:List V) (H:Hp) (Q:VK) (E:XK):Prop
 | mk (x:V) (v:fT) (n:Name):vs=[x,.str (bT n)]->oG K H x v->(Vatwva.isRecord v=true->Vatwvc.hasField (Vatwva.kidsOf v) n=true->Q (.int (Vatwvc.placeOf (Vatwva.kidsOf v) n:Nat)) H)->(¬(Vatwva.isRecord v=true/\Vatwvc.hasField (Vatwva.kidsOf v) n=true)->E (.ref a.xInapplicable) none H)->EQ a K vs H Q E
theorem tK (T:iM K mg a):gY P w K mg base 3 "field_place" ["here","name"] (EQ a K):=by
 refine kL T.f_field_place ["here","name","names"] fun vs H Q E h=>?_;obtain⟨x,v,n,rfl,hx,k1,k2⟩:=h;refine⟨rfl,fun nd _ _ _ _ _ hr=>?_⟩;intro X;refine⟨_,aI (cM (i:=2) nd rfl (bP rfl) (bC (vK T) hr ⟨rfl,rfl,rfl⟩ (aA (pv 0) aD))) (aI (dO (bC (nW T) hr.m ⟨rfl,rfl,rfl⟩ (aA (rF ZE (pv 1) (pv 2) rfl) aD))) (aN (bH (Ox (pv 2) (aA (pv 1) aD))))),?_⟩;refine⟨_,rfl,x,v,rfl,hx,fun hl b hb=>?_,fun hl=>k2 fun z=>by rw[hl]at z;cases z.1⟩;refine⟨_,rfl,_,rfl,b,_,rfl,.inr hb,rfl,uE _,_,rfl,fun e=>?_,fun e=>?_⟩
 ·have e:Tz (.str (bT n)) (dR (Vatwva.kidsOf v))=true:=e;rw[uF]at e;obtain⟨A,y,B,h1,h2,h3,h4⟩:=ML e;refine⟨_,rfl,⟨b,_,rfl,hb⟩,_,rfl,b,_,_,A.length,.str (bT y.1),rfl,rfl,hb,rfl,uE _,?_,?_,fun m z hm hz=>?_,?_⟩
  ·rw[h1];unfold dR;rw[aW,aP];rw[gO (by rw[aJ];exact aR _),aJ,mO];rfl
  ·rw[Bi,h2];simp
  ·rw[h1]at hz;unfold dR at hz;rw[aW,Ai (by rw[aJ];exact hm),bX]at hz;cases q:A[m]? with
   | none=>rw[q]at hz;cases hz
   | some y'=>rw[q]at hz;cases hz;rw[Bi];exact decide_eq_false (h4 y' (bB q))
  ·have:=k1 hl e;rw[h3]at this;exact this
 ·have e:Tz (.str (bT n)) (dR (Vatwva.kidsOf v))=false:=e;rw[uF]at e;exact k2 fun z=>by rw[e]at z;cases z.2
noncomputable def Tx (K:aB) (H:Hp) (d:aQ):gH->Prop
 | .set _ v=>∃x,fK K H d [x]/\oG K H x v
 | .put _ i v=>∃x,fK K H d [.int i,x]/\oG K H x v
 | .take _ i=>fK K H d [.int i]
 | .move _ i j=>fK K H d [.int i,.int j]
 | .add _ i n v=>∃x,fK K H d [.int i,.str (bT n),x]/\oG K H x v
 | .drop _ n=>fK K H d [.str (bT n)]
 | .rename _ n m=>fK K H d [.str (bT n),.str (bT m)]
theorem Tx.tups (s:zP H H') (h:Tx K H d e):Tx K H' d e:=by
 cases e with
 | set p v=>obtain⟨x,h1,h2⟩:=h;exact⟨x,s.sqT h1,h2.tups s⟩
 | put p i v=>obtain⟨x,h1,h2⟩:=h;exact⟨x,s.sqT h1,h2.tups s⟩
 | take p i=>exact s.sqT h
 | move p i j=>exact s.sqT h
 | add p i n v=>obtain⟨x,h1,h2⟩:=h;exact⟨x,s.sqT h1,h2.tups s⟩
 | drop p n=>exact s.sqT h
 | rename p n m=>exact s.sqT h
noncomputable def IA:gH->Str
 | .set _ _=>"set"
 | .put _ _ _=>"put"
 | .take _ _=>"take"
 | .move _ _ _=>"move"
 | .add _ _ _ _=>"add"
 | .drop _ _=>"drop"
 | .rename _ _ _=>"rename"
def Qx (v:fT):Prop:=VM.eI 10000 v
def Yu (a:mF) (K:aB) (H:Hp) (r:Option fT) (Q:VK) (E:XK):Prop:=match r with
 | some v=>tE K H v Q
 | none=>No a H E
noncomputable def Sa:gH->Bool
 | .set _ _=>true
 | _=>false
noncomputable def Rz:gH->Bool
 | .put _ _ _=>true
 | _=>false
noncomputable def Jm:gH->Bool
 | .take _ _=>true
 | _=>false
noncomputable def Jl:gH->Bool
 | .move _ _ _=>true
 | _=>false
noncomputable def Ry:gH->Bool
 | .add _ _ _ _=>true
 | _=>false
noncomputable def Jj:gH->Bool
 | .drop _ _=>true
 | _=>false
noncomputable def TF:gH->Bool
 | .rename _ _ _=>true
 | _=>false
inductive wI (is:gH->Bool) (a:mF) (K:aB) (vs:List V) (H:Hp) (Q:VK) (E:XK):Prop
 | mk (x:V) (v:fT) (d:aQ) (e:gH):vs=[x,.ref d]->is e=true->oG K H x v->Tx K H d e->Qx v->Vatwva.count v<=5000->Yu a K H (Vatwvc.doneAt e v) Q E->wI is a K vs H Q E
theorem gA.take:∀{zs:List V} {vs:List fT} (n:Nat),gA K H zs vs->gA K H (zs.take n) (vs.take n)
 | _,_,0,_=>.nil
 | _,_,_+1,.nil=>.nil
 | _,_,n+1,.cons r t=>.cons r (gA.take n t)
theorem gA.drop:∀{zs:List V} {vs:List fT} (n:Nat),gA K H zs vs->gA K H (zs.drop n) (vs.drop n)
 | _,_,0,r=>r
 | _,_,_+1,.nil=>.nil
 | _,_,n+1,.cons _ t=>gA.drop n t
theorem gA.append:∀{zs ys:List V} {vs us:List fT},gA K H zs vs->gA K H ys us->gA K H (zs++ys) (vs++us)
 | _,_,_,_,.nil,s=>s
 | _,_,_,_,.cons r t,s=>.cons r (gA.append t s)
theorem gA.insert (h:gA K H zs vs) (hx:oG K H x v) (j:Nat):gA K H (zs.take j++x::zs.drop j) (vs.take j++v::vs.drop j):=(h.take j).append (.cons hx (h.drop j))
theorem gA.erase (h:gA K H zs vs) (j:Nat):gA K H (zs.take j++zs.drop (j+1)) (vs.take j++vs.drop (j+1)):=(h.take j).append (h.drop (j+1))
theorem nL (hx:oG K H x v) (hn:Vatwva.count v<=5000) (hz:gA K H zs (bE v)):zs.length<=5000:=by have:=zZ hx.1;rw[hz.length];lia
theorem Fq (T:iM K mg a):gY P w K mg base 1 "set_here" ["here","details"] (wI Sa a K):=by
 refine kL T.f_set_here ["here","details"] fun vs H Q E h=>?_;obtain⟨x,v,d,e,rfl,hw,hx,hd,hs,hn,k⟩:=h;refine⟨rfl,fun nd _ _ _ _ _ hr=>?_⟩;intro X;cases e with
 | set p u=>obtain⟨y,h1,h2⟩:=hd;exact⟨_,aN (bH (fN fV (pv 1) cB (fun _ _=>rfl))),_,rfl,d,_,_,_,rfl,rfl,h1,rfl,k H y (bA.refl H) h2⟩
 | _=>cases hw
theorem Fp (T:iM K mg a):gY P w K mg base 3 "put_here" ["here","details"] (wI Rz a K):=by
 refine kL T.f_put_here ["here","details"] fun vs H Q E h=>?_;obtain⟨x,v,d,e,rfl,hw,hx,hd,hs,hn,k⟩:=h;refine⟨rfl,fun nd _ _ _ _ _ hr=>?_⟩;intro X;cases e with
 | put p i u=>
  obtain⟨y,h1,h2⟩:=hd;refine⟨_,aI (dO (bC (nW T) hr.m ⟨rfl,rfl,rfl⟩ (aA (rF OS (fN fV (pv 1) cB (fun _ _=>rfl)) (cY cW rfl T.n_len cE (aA (bC (vJ T) hr ⟨rfl,rfl,rfl⟩ (aA (pv 0) aD)) aD)) (dL _)) aD))) (aN (bH (bC (qX T) hr.m ⟨rfl,rfl,rfl⟩ (aA (bC (wG T) hr.m ⟨rfl,rfl,rfl⟩ (aA (bC (vJ T) hr ⟨rfl,rfl,rfl⟩ (aA (pv 0) aD)) (aA (fN fV (pv 1) cB (fun _ _=>rfl)) (aA (fN fV (pv 1) cB (fun _ _=>rfl)) aD)))) aD)))),?_⟩;have kn:(¬(Vatwva.isList v=true/\i<=(Vatwva.itemsOf v).length))->No a H E:=fun c=>by
   have e:Vatwvc.doneAt (.put p i u) v=none:=by
    show Vatwvc.onList (fun l=>Vatwvc.putAt l i u) v=none;unfold Vatwvc.onList;by_cases hl:Vatwva.isList v=true
    ·rw[if_pos hl];show((if i<=(Vatwva.itemsOf v).length then _ else none):Option (List fT)).map _=none;rw[if_neg (fun z=>c ⟨hl,z⟩)];rfl
    ·rw[if_neg hl]
   rw[e]at k;exact k
  refine⟨_,rfl,d,_,_,_,rfl,rfl,h1,rfl,_,rfl,x,v,rfl,hx,fun hl c zs hc hz=>⟨c,zs,rfl,.inr hc,_,_,rfl,rfl,_,rfl,fun e=>?_,fun e=>?_⟩,fun hl=>kn (fun z=>by rw[hl]at z;cases z.1) H (bA.refl H)⟩
  ·have e:(i:Int)<=(zs.length:Int):=of_decide_eq_true e;have hle:i<=(Vatwva.itemsOf v).length:=by rw[<-hz.length];lia
   refine⟨_,rfl,x,v,rfl,hx,fun _ c2 zs2 hc2 hz2=>⟨_,rfl,d,_,_,_,rfl,rfl,h1,rfl,_,rfl,d,_,_,_,rfl,rfl,h1,rfl,c2,zs2,i,y,rfl,hc2,bI (nL hx hn hz2) (by decide),fun q H1 s1 hq=>?_⟩,fun z=>by rw[hl]at z;cases z⟩;refine⟨q,_,_,rfl,.inr hq,(hz2.insert h2 i).tups s1.tups,?_⟩;have e2:Vatwvc.doneAt (.put p i u) v=some (Vatwva.listOf ((Vatwva.itemsOf v).take i++u::(Vatwva.itemsOf v).drop i)):=by show Vatwvc.onList (fun l=>Vatwvc.putAt l i u) v=_;exact VM.eU.mpr ⟨hl,_,VM.jA.mpr ⟨hle,rfl⟩,rfl⟩
   rw[e2]at k;exact tE.on k s1
  ·have e:¬(i:Int)<=(zs.length:Int):=of_decide_eq_false e;exact kn (fun z=>e (by rw[hz.length];lia)) H (bA.refl H)
 | _=>cases hw
theorem mZ (k:Yu a K H r Q E) (h:r=none):No a H E:=by rw[h]at k;exact k
theorem tO (k:Yu a K H r Q E) (h:r=some v):tE K H v Q:=by rw[h]at k;exact k
theorem DY (h:¬(Vatwva.isList v=true/\i < (Vatwva.itemsOf v).length)):Vatwvc.doneAt (.take p i) v=none:=by
 show Vatwvc.onList (fun l=>Vatwvc.takeAt l i) v=none;cases q:Vatwvc.onList (fun l=>Vatwvc.takeAt l i) v with
 | none=>rfl
 | some w=>
  obtain⟨hl,m,hm,_⟩:=VM.eU.mp q;unfold Vatwvc.takeAt at hm;split at hm
  ·rename_i hi;exact absurd ⟨hl,hi⟩ h
  ·cases hm
theorem SM (hl:Vatwva.isList v=true) (hi:i < (Vatwva.itemsOf v).length):Vatwvc.doneAt (.take p i) v=some (Vatwva.listOf ((Vatwva.itemsOf v).take i++(Vatwva.itemsOf v).drop (i+1))):=by show Vatwvc.onList (fun l=>Vatwvc.takeAt l i) v=_;refine VM.eU.mpr ⟨hl,_,?_,rfl⟩;unfold Vatwvc.takeAt;rw[if_pos hi,jM]
theorem Cc (T:iM K mg a):gY P w K mg base 4 "take_here" ["here","details"] (wI Jm a K):=by
 refine kL T.f_take_here ["here","details"] fun vs H Q E h=>?_;obtain⟨x,v,d,e,rfl,hw,hx,hd,hs,hn,k⟩:=h;refine⟨rfl,fun nd _ _ _ _ _ hr=>?_⟩;intro X;cases e with
 | take p i=>
  have hd:fK K H d [.int i]:=hd;refine⟨_,aN (bH (bC (qX T) hr.m ⟨rfl,rfl,rfl⟩ (aA (bC (BN T) hr.m ⟨rfl,rfl,rfl⟩ (aA (bC (vJ T) hr.m ⟨rfl,rfl,rfl⟩ (aA (pv 0) aD)) (aA (bC (uX T) hr ⟨rfl,rfl,rfl⟩ (aA (pv 0) (aA (fN fV (pv 1) cB (fun _ _=>rfl)) aD))) aD))) aD))),?_⟩;refine⟨_,rfl,x,v,rfl,hx,fun hl c zs hc hz=>⟨_,rfl,_,rfl,d,_,_,_,rfl,rfl,hd,rfl,x,v,i,rfl,hx,fun _ hi=>?_,fun hi=>?_⟩,fun hl=>mZ k (DY fun z=>by rw[hl]at z;cases z.1) H (bA.refl H)⟩
  ·refine⟨c,zs,i,rfl,hc,bI (nL hx hn hz) (by decide),fun q H1 s1 hq=>⟨q,_,_,rfl,.inr hq,(hz.erase i).tups s1.tups,?_⟩⟩;exact(tO k (SM hl hi)).on s1
  ·exact mZ k (DY hi) H (bA.refl H)
 | _=>cases hw
theorem DW (h:¬(Vatwva.isList v=true/\i < (Vatwva.itemsOf v).length/\j < (Vatwva.itemsOf v).length)):Vatwvc.doneAt (.move p i j) v=none:=by
 show Vatwvc.onList (fun l=>Vatwvc.moveAt l i j) v=none;cases q:Vatwvc.onList (fun l=>Vatwvc.moveAt l i j) v with
 | none=>rfl
 | some w=>
  obtain⟨hl,m,hm,_⟩:=VM.eU.mp q;unfold Vatwvc.moveAt at hm;split at hm
  ·rename_i hj
   cases ei:(Vatwva.itemsOf v)[i]? with
   | none=>rw[ei]at hm;cases hm
   | some x=>exact absurd ⟨hl,(aT.mp ei).1,hj⟩ h
  ·cases hm
theorem SK (hl:Vatwva.isList v=true) (hi:(Vatwva.itemsOf v)[i]?=some x) (hj:j < (Vatwva.itemsOf v).length):
  Vatwvc.doneAt (.move p i j) v=some (Vatwva.listOf (((Vatwva.itemsOf v).take i++(Vatwva.itemsOf v).drop (i+1)).take j++x::((Vatwva.itemsOf v).take i++(Vatwva.itemsOf v).drop (i+1)).drop j)):=by
 show Vatwvc.onList (fun l=>Vatwvc.moveAt l i j) v=_;refine VM.eU.mpr ⟨hl,_,?_,rfl⟩;unfold Vatwvc.moveAt;rw[if_pos hj,hi];show Vatwvc.putAt _ j x=_;rw[jM];refine VM.jA.mpr ⟨?_,rfl⟩;have:=(aT.mp hi).1;rw[aC,bK,cX];omega
theorem gA.get':∀{zs:List V} {vs:List fT} {i:Nat} {v:fT},gA K H zs vs->vs[i]?=some v->∃x,zs[i]?=some x/\oG K H x v
 | _,_,_,_,.nil,e=>by simp at e
 | _,_,0,_,.cons r _,e=>by simp at e;subst e;exact⟨_,rfl,r⟩
 | _,_,i+1,v,.cons _ t,e=>by obtain⟨x,h1,h2⟩:=gA.get' (i:=i) (v:=v) t (by simpa using e);exact⟨x,by simpa using h1,h2⟩
theorem Bv (T:iM K mg a):gY P w K mg base 4 "move_here" ["here","details"] (wI Jl a K):=by
 refine kL T.f_move_here ["here","details","source","goal","items"] fun vs H Q E h=>?_;obtain⟨x,v,d,e,rfl,hw,hx,hd,hs,hn,k⟩:=h;refine⟨rfl,fun nd _ _ _ _ _ hr=>?_⟩;intro X;cases e with
 | move p i j=>have hd:fK K H d [.int i,.int j]:=hd;refine⟨_,aI (cM (i:=2) nd rfl (bP rfl) (bC (uX T) hr ⟨rfl,rfl,rfl⟩ (aA (pv 0) (aA (fN fV (pv 1) cB (fun _ _=>rfl)) aD)))) (aI (cM (i:=3) nd rfl (bP rfl) (bC (uX T) hr ⟨rfl,rfl,rfl⟩ (aA (pv 0) (aA (fN fV (pv 1) cB (fun _ _=>rfl)) aD)))) (aI (cM (i:=4) nd rfl (bP rfl) (bC (vJ T) hr.m ⟨rfl,rfl,rfl⟩ (aA (pv 0) aD))) (aN (bH (bC (qX T) hr.m ⟨rfl,rfl,rfl⟩ (aA (bC (wG T) hr.m ⟨rfl,rfl,rfl⟩ (aA (bC (BN T) hr.m ⟨rfl,rfl,rfl⟩ (aA (pv 4) (aA (pv 2) aD))) (aA (pv 3) (aA (fN fV (pv 4) (pv 2) (fun _ _=>rfl)) aD)))) aD)))))),?_⟩;refine⟨_,rfl,_,rfl,d,_,_,_,rfl,rfl,hd,rfl,x,v,i,rfl,hx,fun hl hi=>?_,fun c=>mZ k (DW fun z=>c ⟨z.1,z.2.1⟩) H (bA.refl H)⟩;refine⟨_,rfl,_,rfl,d,_,_,_,rfl,rfl,hd,rfl,x,v,j,rfl,hx,fun _ hj=>?_,fun c=>mZ k (DW fun z=>c ⟨z.1,z.2.2⟩) H (bA.refl H)⟩;refine⟨_,rfl,x,v,rfl,hx,fun _ c zs hc hz=>?_,fun z=>by rw[hl]at z;cases z⟩;have eu:(Vatwva.itemsOf v)[i]?=some (Vatwva.itemsOf v)[i]:=bD hi;obtain⟨y,hy1,hy2⟩:=hz.get' eu;have hsm:=nL hx hn hz;refine⟨_,rfl,_,rfl,c,zs,i,rfl,hc,bI hsm (by decide),fun q H1 s1 hq=>?_⟩;refine⟨_,rfl,_,rfl,_,rfl,c,_,_,_,rfl,rfl,s1.sqT hc,gC hy1,q,_,j,y,rfl,hq,by rw[aC,bK,cX];omega,fun q2 H2 s2 hq2=>?_⟩;exact⟨q2,_,_,rfl,.inr hq2,(((hz.erase i).tups s1.tups).insert (hy2.tups s1.tups) j).tups s2.tups,(tO k (SK hl eu hj)).on (s1.trans s2)⟩
 | _=>cases hw
theorem yE (l:List (Name×fT)) (n:Nat):dR (l.take n)=(dR l).take n:=rX
theorem yD (l:List (Name×fT)) (n:Nat):dR (l.drop n)=(dR l).drop n:=rW
theorem mH (l m:List (Name×fT)):dR (l++m)=dR l++dR m:=aW
theorem Fl (T:iM K mg a):gY P w K mg base 3 "add_here" ["here","details"] (wI Ry a K):=by
 refine kL T.f_add_here ["here","details","names","place"] fun vs H Q E h=>?_;obtain⟨x,v,d,e,rfl,hw,hx,hd,hs,hn,k⟩:=h;refine⟨rfl,fun nd _ _ _ _ _ hr=>?_⟩;intro X;cases e with
 | add p i n u=>
  obtain⟨y,h1,h2⟩:=hd;refine⟨_,aI (cM (i:=2) nd rfl (bP rfl) (bC (vK T) hr ⟨rfl,rfl,rfl⟩ (aA (pv 0) aD))) (aI (cM (i:=3) nd rfl (bP rfl) (fN fV (pv 1) cB (fun _ _=>rfl))) (aI (dO (bC (nW T) hr.m ⟨rfl,rfl,rfl⟩ (aA (Sq (rF OS (pv 3) (cY cW rfl T.n_len cE (aA (pv 2) aD)) (dL _)) (Jx (rF LN (fN fV (pv 1) cB (fun _ _=>rfl)) (pv 2) rfl))) aD))) (aN (bH (bC (oH T) hr.m ⟨rfl,rfl,rfl⟩ (aA (bC (wG T) hr.m ⟨rfl,rfl,rfl⟩ (aA (pv 2) (aA (pv 3) (aA (fN fV (pv 1) cB (fun _ _=>rfl)) aD)))) (aA (bC (wG T) hr.m ⟨rfl,rfl,rfl⟩ (aA (bC (eS T) hr.m ⟨rfl,rfl,rfl⟩ (aA (pv 0) aD)) (aA (pv 3) (aA (fN fV (pv 1) cB (fun _ _=>rfl)) aD)))) aD))))))),?_⟩;have kn:(¬(Vatwva.isRecord v=true/\Vatwvc.hasField (Vatwva.kidsOf v) n=false/\i<=(Vatwva.kidsOf v).length))->No a H E:=fun c=>by
   refine mZ k ?_;show Vatwvc.onRecord (fun l=>if Vatwvc.hasField l n=true then none else Vatwvc.putAt l i (n,u)) v=none;cases q:Vatwvc.onRecord (fun l=>if Vatwvc.hasField l n=true then none else Vatwvc.putAt l i (n,u)) v with
   | none=>rfl
   | some w=>
    obtain⟨hl,m,hm,_⟩:=VM.dU.mp q;split at hm
    ·cases hm
    ·rename_i hf
     exact absurd ⟨hl,iD.mpr hf,(VM.jA.mp hm).1⟩ c
  refine⟨_,rfl,x,v,rfl,hx,fun hr b hb=>?_,fun z=>kn (fun c=>by rw[z]at c;cases c.1) H (bA.refl H)⟩;refine⟨_,rfl,d,_,_,_,rfl,rfl,h1,rfl,?_⟩;refine⟨_,rfl,_,rfl,b,_,rfl,.inr hb,_,_,rfl,rfl,_,rfl,?_⟩;refine nI (fun c=>?_) (fun c=>⟨_,rfl,fun z=>(by cases z),fun _=>?_⟩)
  ·have c:(i:Int)<=((dR (Vatwva.kidsOf v)).length:Int):=of_decide_eq_true c;rw[gW]at c;refine⟨_,rfl,d,_,_,_,rfl,rfl,h1,rfl,_,rfl,b,_,rfl,.inr hb,rfl,uE _,_,rfl,fun z=>?_,fun z=>?_⟩
   ·have z:(!Tz (.str (bT n)) (dR (Vatwva.kidsOf v)))=true:=z;rw[uF,eX]at z;obtain⟨p',b',c',zs,rfl,g1,g2,g3,g4⟩:=hx.rec hr;have hsm:=nL hx hn g4;have hkl:(Vatwva.kidsOf v).length<=5000:=by have:=g4.length;unfold bE at this;rw[aJ]at this;omega
    refine⟨_,rfl,_,rfl,_,rfl,d,_,_,_,rfl,rfl,h1,rfl,b,_,i,_,rfl,hb,by rw[gW];omega,fun q H1 s1 hq=>?_⟩;refine⟨_,rfl,p',_,_,rfl,s1.sqT g1,rfl,_,rfl,_,rfl,d,_,_,_,rfl,rfl,s1.sqT h1,rfl,c',zs,i,y,rfl,s1.sqT g3,bI hsm (by decide),fun q2 H2 s2 hq2=>?_⟩;refine⟨q,q2,(Vatwva.kidsOf v).take i++(n,u)::(Vatwva.kidsOf v).drop i,_,rfl,.inr (s2.sqT ?_),.inr hq2,?_,(tO k ?_).on (s1.trans s2)⟩
    ·rw[mH,yE];show fK K H1 q ((dR (Vatwva.kidsOf v)).take i++V.str (bT n)::dR ((Vatwva.kidsOf v).drop i));rw[yD];exact hq
    ·have:=(g4.insert h2 i).tups (s1.trans s2).tups;unfold bE at this;rw[aW,rX,aP,rW];exact this
    ·show Vatwvc.onRecord (fun l=>if Vatwvc.hasField l n=true then none else Vatwvc.putAt l i (n,u)) v=_;refine VM.dU.mpr ⟨hr,_,?_,rfl⟩;rw[if_neg (by rw[z];decide)];exact VM.jA.mpr ⟨by omega,rfl⟩
   ·have z:(!Tz (.str (bT n)) (dR (Vatwva.kidsOf v)))=false:=z;rw[uF,Px]at z;exact kn (fun c=>by rw[z]at c;cases c.2.1) H (bA.refl H)
  ·have c:¬(i:Int)<=((dR (Vatwva.kidsOf v)).length:Int):=fun z=>c (decide_eq_true z);rw[gW]at c;exact kn (fun z=>c (by omega)) H (bA.refl H)
 | _=>cases hw
theorem YN {l:List (Name×fT)} {n:Name} (h:∀z∈l,z.1≠n):l.filter (fun x=>x.1 != n)=l:=by rw[JN];intro z hz;simpa using h z hz
theorem CB (A B:List α):(A++B).take A.length=A:=GN
theorem DZ (A B:List α) (x:α):(A++x::B).drop (A.length+1)=B:=by rw[<-List.drop_drop,qG];rfl
theorem Bu (T:iM K mg a):gY P w K mg base 4 "drop_here" ["here","details"] (wI Jj a K):=by
 refine kL T.f_drop_here ["here","details","place"] fun vs H Q E h=>?_;obtain⟨x,v,d,e,rfl,hw,hx,hd,hs,hn,k⟩:=h;refine⟨rfl,fun nd _ _ _ _ _ hr=>?_⟩;intro X;cases e with
 | drop p n=>
  have hd:fK K H d [.str (bT n)]:=hd;refine⟨_,aI (cM (i:=2) nd rfl (bP rfl) (bC (tK T) hr ⟨rfl,rfl,rfl⟩ (aA (pv 0) (aA (fN fV (pv 1) cB (fun _ _=>rfl)) aD)))) (aN (bH (bC (oH T) hr.m ⟨rfl,rfl,rfl⟩ (aA (bC (BN T) hr.m ⟨rfl,rfl,rfl⟩ (aA (bC (vK T) hr.m ⟨rfl,rfl,rfl⟩ (aA (pv 0) aD)) (aA (pv 2) aD))) (aA (bC (BN T) hr.m ⟨rfl,rfl,rfl⟩ (aA (bC (eS T) hr.m ⟨rfl,rfl,rfl⟩ (aA (pv 0) aD)) (aA (pv 2) aD))) aD))))),?_⟩;refine⟨_,rfl,_,rfl,d,_,_,_,rfl,rfl,hd,rfl,x,v,n,rfl,hx,fun hl hf=>?_,fun c=>mZ k ?_ H (bA.refl H)⟩
  ·obtain⟨A1,y,B1,e1,e2,e3,e4⟩:=ML hf;have hdist:=(hs.kids hl).2.1;rw[e1]at hdist;have e5:∀z∈B1,z.1≠n:=fun z hz=>by rw[<-e2];exact BZ hdist z hz
   obtain⟨p',b',c',zs,rfl,g1,g2,g3,g4⟩:=hx.rec hl;have hsm:=nL hx hn g4;have hkl:(Vatwva.kidsOf v).length<=5000:=by
    have:=g4.length;unfold bE at this;rw[aJ]at this
    lia
   refine⟨_,rfl,.ref p',v,rfl,hx,fun _ b hb=>?_,fun z=>by rw[hl]at z;cases z⟩;refine⟨_,rfl,b,_,Vatwvc.placeOf (Vatwva.kidsOf v) n,rfl,hb,by rw[gW];lia,fun q H1 s1 hq=>?_⟩;refine⟨_,rfl,p',_,_,rfl,s1.sqT g1,rfl,_,rfl,c',zs,Vatwvc.placeOf (Vatwva.kidsOf v) n,rfl,s1.sqT g3,bI hsm (by decide),fun q2 H2 s2 hq2=>?_⟩;refine⟨q,q2,A1++B1,_,rfl,.inr (s2.sqT ?_),.inr hq2,?_,(tO k ?_).on (s1.trans s2)⟩
   ·rw[mH];have:dR A1++dR B1=(dR (Vatwva.kidsOf v)).take (Vatwvc.placeOf (Vatwva.kidsOf v) n)++(dR (Vatwva.kidsOf v)).drop (Vatwvc.placeOf (Vatwva.kidsOf v) n+1):=by rw[<-yE,<-yD,e3,e1,CB,DZ]
    rw[this];exact hq
   ·have:=(g4.erase (Vatwvc.placeOf (Vatwva.kidsOf v) n)).tups (s1.trans s2).tups;have e6:(bE v).take (Vatwvc.placeOf (Vatwva.kidsOf v) n)++(bE v).drop (Vatwvc.placeOf (Vatwva.kidsOf v) n+1)=(A1++B1).map fun x=>x.2:=by unfold bE;rw[<-rX,<-rW,e3,e1,CB,DZ,aW]
    rw[e6]at this;exact this
   ·show Vatwvc.onRecord (fun l=>if Vatwvc.hasField l n=true then some (l.filter fun x=>x.1 != n)else none) v=_;refine VM.dU.mpr ⟨hl,_,?_,rfl⟩;rw[if_pos hf,e1,MS,CF,YN e4,YN e5];simp[e2]
  ·show Vatwvc.onRecord (fun l=>if Vatwvc.hasField l n=true then some (l.filter fun x=>x.1 != n)else none) v=none;cases q:Vatwvc.onRecord (fun l=>if Vatwvc.hasField l n=true then some (l.filter fun x=>x.1 != n)else none) v with
   | none=>rfl
   | some w=>
    obtain⟨hl,m,hm,_⟩:=VM.dU.mp q;split at hm
    ·rename_i hf;exact absurd ⟨hl,hf⟩ c
    ·cases hm
 | _=>cases hw
theorem RB {l:List (Name×fT)} {n m:Name} (h:∀z∈l,z.1≠n):(l.map fun x=>if x.1=n then (m,x.2)else x)=l:=by
 conv=>rhs;rw[<-oB l]
 exact eQ fun y hy=>by rw[if_neg (h y hy)];rfl
theorem UY (T:iM K mg a):gY P w K mg base 4 "rename_here" ["here","details"] (wI TF a K):=by
 refine kL T.f_rename_here ["here","details","place"] fun vs H Q E h=>?_;obtain⟨x,v,d,e,rfl,hw,hx,hd,hs,hn,k⟩:=h;refine⟨rfl,fun nd _ _ _ _ _ hr=>?_⟩;intro X;cases e with
 | rename p n m=>
  have hd:fK K H d [.str (bT n),.str (bT m)]:=hd;refine⟨_,aI (cM (i:=2) nd rfl (bP rfl) (bC (tK T) hr ⟨rfl,rfl,rfl⟩ (aA (pv 0) (aA (fN fV (pv 1) cB (fun _ _=>rfl)) aD)))) (aI (dO (bC (nW T) hr.m ⟨rfl,rfl,rfl⟩ (aA (C4 (rF qK (fN fV (pv 1) cB (fun _ _=>rfl)) (fN fV (pv 1) cB (fun _ _=>rfl)) (dL _)) (Jx (rF LN (fN fV (pv 1) cB (fun _ _=>rfl)) (bC (vK T) hr.m ⟨rfl,rfl,rfl⟩ (aA (pv 0) aD)) rfl))) aD))) (aN (bH (bC (oH T) hr.m ⟨rfl,rfl,rfl⟩ (aA (bC (HE T) hr.m ⟨rfl,rfl,rfl⟩ (aA (bC (vK T) hr.m ⟨rfl,rfl,rfl⟩ (aA (pv 0) aD)) (aA (pv 2) (aA (fN fV (pv 1) cB (fun _ _=>rfl)) aD)))) (aA (bC (eS T) hr.m ⟨rfl,rfl,rfl⟩ (aA (pv 0) aD)) aD)))))),?_⟩;have kn:(¬(Vatwva.isRecord v=true/\Vatwvc.hasField (Vatwva.kidsOf v) n=true/\(n=m\/Vatwvc.hasField (Vatwva.kidsOf v) m=false)))->No a H E:=fun c=>by
   refine mZ k ?_;show Vatwvc.onRecord (fun l=>if (Vatwvc.hasField l n && (n == m || !Vatwvc.hasField l m))=true then some (l.map fun x=>if x.1=n then (m,x.2)else x)else none) v=none;cases q:Vatwvc.onRecord (fun l=>if (Vatwvc.hasField l n && (n == m || !Vatwvc.hasField l m))=true then some (l.map fun x=>if x.1=n then (m,x.2)else x)else none) v with
   | none=>rfl
   | some w=>
    obtain⟨hl,m',hm,_⟩:=VM.dU.mp q;split at hm
    ·rename_i hf
     rw[aE,gQ,beq_iff_eq,eX]at hf;exact absurd ⟨hl,hf.1,hf.2⟩ c
    ·cases hm
  refine⟨_,rfl,_,rfl,d,_,_,_,rfl,rfl,hd,rfl,x,v,n,rfl,hx,fun hl hf=>?_,fun c=>kn (fun z=>c ⟨z.1,z.2.1⟩) H (bA.refl H)⟩;refine⟨_,rfl,d,_,_,_,rfl,rfl,hd,rfl,_,rfl,d,_,_,_,rfl,rfl,hd,rfl,rfl,_,rfl,?_⟩;by_cases c:n=m\/Vatwvc.hasField (Vatwva.kidsOf v) m=false
  ·refine nI (fun c1=>⟨_,rfl,fun _=>?_,fun z=>(by cases z)⟩) (fun c1=>?_)
   rotate_left
   ·have c1:m≠n:=fun z=>c1 (decide_eq_true (by rw[z]));refine⟨_,rfl,d,_,_,_,rfl,rfl,hd,rfl,_,rfl,x,v,rfl,hx,fun _ b hb=>?_,fun z=>by rw[hl]at z;cases z⟩;refine⟨b,_,rfl,.inr hb,rfl,uE _,_,rfl,fun z=>?_,fun z=>?_⟩
    rotate_left
    ·have z:(!Tz (.str (bT m)) (dR (Vatwva.kidsOf v)))=false:=z;rw[uF,Px]at z;rcases c with t | t
     ·exact absurd t.symm c1
     ·rw[z]at t;cases t
    clear z hb b;obtain⟨A1,y,B1,e1,e2,e3,e4⟩:=ML hf;have hdist:=(hs.kids hl).2.1;rw[e1]at hdist;have e5:∀z∈B1,z.1≠n:=fun z hz=>by rw[<-e2];exact BZ hdist z hz
    obtain⟨p',b',c',zs,rfl,g1,g2,g3,g4⟩:=hx.rec hl;have hsm:=nL hx hn g4;have hkl:(Vatwva.kidsOf v).length<=5000:=by
     have:=g4.length;unfold bE at this;rw[aJ]at this
     lia
    refine⟨_,rfl,.ref p',v,rfl,hx,fun _ b hb=>?_,fun z=>by rw[hl]at z;cases z⟩;refine⟨_,rfl,_,rfl,d,_,_,_,rfl,rfl,hd,rfl,b,_,Vatwvc.placeOf (Vatwva.kidsOf v) n,_,rfl,hb,by rw[gW];lia,fun q H1 s1 hq=>?_⟩;refine⟨_,rfl,p',_,_,rfl,s1.sqT g1,rfl,q,c',A1++(m,y.2)::B1,_,rfl,.inr ?_,.inr (s1.sqT g3),?_,(tO k ?_).on s1⟩
    ·have:dR (A1++(m,y.2)::B1)=(dR (Vatwva.kidsOf v)).take (Vatwvc.placeOf (Vatwva.kidsOf v) n)++V.str (bT m)::(dR (Vatwva.kidsOf v)).drop (Vatwvc.placeOf (Vatwva.kidsOf v) n+1):=by rw[<-yE,<-yD,e3,e1,CB,DZ,mH];rfl
     rw[this];exact hq
    ·have:=g4.tups s1.tups;have e6:bE v=(A1++(m,y.2)::B1).map fun x=>x.2:=by unfold bE;rw[e1,aW,aW];rfl
     rw[e6]at this;exact this
    ·show Vatwvc.onRecord (fun l=>if (Vatwvc.hasField l n && (n == m || !Vatwvc.hasField l m))=true then some (l.map fun x=>if x.1=n then (m,x.2)else x)else none) v=_;refine VM.dU.mpr ⟨hl,_,?_,rfl⟩;rw[if_pos (by rw[aE,gQ,beq_iff_eq,eX];exact⟨hf,c⟩),e1,aW,aP,RB e4,RB e5,if_pos e2]
   obtain⟨A1,y,B1,e1,e2,e3,e4⟩:=ML hf;have hdist:=(hs.kids hl).2.1;rw[e1]at hdist;have e5:∀z∈B1,z.1≠n:=fun z hz=>by rw[<-e2];exact BZ hdist z hz
   obtain⟨p',b',c',zs,rfl,g1,g2,g3,g4⟩:=hx.rec hl;have hsm:=nL hx hn g4;have hkl:(Vatwva.kidsOf v).length<=5000:=by
    have:=g4.length;unfold bE at this;rw[aJ]at this
    lia
   refine⟨_,rfl,.ref p',v,rfl,hx,fun _ b hb=>?_,fun z=>by rw[hl]at z;cases z⟩;refine⟨_,rfl,_,rfl,d,_,_,_,rfl,rfl,hd,rfl,b,_,Vatwvc.placeOf (Vatwva.kidsOf v) n,_,rfl,hb,by rw[gW];lia,fun q H1 s1 hq=>?_⟩;refine⟨_,rfl,p',_,_,rfl,s1.sqT g1,rfl,q,c',A1++(m,y.2)::B1,_,rfl,.inr ?_,.inr (s1.sqT g3),?_,(tO k ?_).on s1⟩
   ·have:dR (A1++(m,y.2)::B1)=(dR (Vatwva.kidsOf v)).take (Vatwvc.placeOf (Vatwva.kidsOf v) n)++V.str (bT m)::(dR (Vatwva.kidsOf v)).drop (Vatwvc.placeOf (Vatwva.kidsOf v) n+1):=by rw[<-yE,<-yD,e3,e1,CB,DZ,mH];rfl
    rw[this];exact hq
   ·have:=g4.tups s1.tups;have e6:bE v=(A1++(m,y.2)::B1).map fun x=>x.2:=by unfold bE;rw[e1,aW,aW];rfl
    rw[e6]at this;exact this
   ·show Vatwvc.onRecord (fun l=>if (Vatwvc.hasField l n && (n == m || !Vatwvc.hasField l m))=true then some (l.map fun x=>if x.1=n then (m,x.2)else x)else none) v=_;refine VM.dU.mpr ⟨hl,_,?_,rfl⟩;rw[if_pos (by rw[aE,gQ,beq_iff_eq,eX];exact⟨hf,c⟩),e1,aW,aP,RB e4,RB e5,if_pos e2]
  ·refine nI (fun c1=>absurd (.inl (uR (V.str.inj (of_decide_eq_true c1))).symm) c) (fun c1=>?_);refine⟨_,rfl,d,_,_,_,rfl,rfl,hd,rfl,_,rfl,x,v,rfl,hx,fun _ b hb=>?_,fun z=>by rw[hl]at z;cases z⟩;refine⟨b,_,rfl,.inr hb,rfl,uE _,_,rfl,fun z=>?_,fun z=>kn (fun t=>c t.2.2) H (bA.refl H)⟩;have z:(!Tz (.str (bT m)) (dR (Vatwva.kidsOf v)))=true:=z;rw[uF,eX]at z;exact absurd (.inr z) c
 | _=>cases hw
noncomputable def VU:Vatwva.Step->V
 | .field n=>.str (bT n)
 | .item i=>.int i
noncomputable def JH (v:fT):Vatwva.Step->Option Nat
 | .field n=>if Vatwva.isRecord v=true/\Vatwvc.hasField (Vatwva.kidsOf v) n=true then some (Vatwvc.placeOf (Vatwva.kidsOf v) n)else none
 | .item i=>if Vatwva.isList v=true/\i < (Vatwva.itemsOf v).length then some i else none
theorem jS (v:fT) (n:Name):JH v (.field n)=if Vatwva.isRecord v=true/\Vatwvc.hasField (Vatwva.kidsOf v) n=true then some (Vatwvc.placeOf (Vatwva.kidsOf v) n)else none:=rfl
theorem kX (v:fT) (i:Nat):JH v (.item i)=if Vatwva.isList v=true/\i < (Vatwva.itemsOf v).length then some i else none:=rfl
noncomputable def rB (v:fT) (j:Nat) (w:fT):fT:=if Vatwva.isRecord v=true then Vatwva.recordOf ((Vatwva.kidsOf v).take j++((((Vatwva.kidsOf v)[j]?).map fun x=>x.1).getD [],w)::(Vatwva.kidsOf v).drop (j+1))else Vatwva.listOf ((bE v).take j++w::(bE v).drop (j+1))
theorem KP (h:Vatwvc.hasField l n=true):∃A x B,l=A++x::B/\x.1=n/\Vatwvc.placeOf l n=A.length/\(∀y∈A,y.1≠n)/\l.find? (fun x=>x.1 == n)=some x:=by
 obtain⟨x1,hx1,n1⟩:=VM.jR.mp h;cases q:l.find? (fun x=>x.1 == n)with
 | none=>have:=xT.mp q x1 hx1;simp[n1]at this
 | some x0=>obtain⟨A,B,h1,h2,h3⟩:=VM.yX q;exact⟨A,x0,B,h1,(VM.FO q).2,h3,h2,rfl⟩
theorem Em (h:¬Vatwvc.hasField l n=true):l.find? (fun x=>x.1 == n)=none:=by rw[xT];intro x hx c;exact h (VM.jR.mpr ⟨x,hx,by simpa using c⟩)
theorem ZV (h:JH v s=some j):j < (bE v).length:=by
 cases s with
 | field n=>
  first | rw[jS]at h | rw[kX]at h
  split at h
  ·rename_i c
   cases h;obtain⟨A,x,B,h1,h2,h3,h4,_⟩:=KP c.2;unfold bE;rw[aJ,h3,h1,aC,aK];lia
  ·cases h
 | item i=>
  first | rw[jS]at h | rw[kX]at h
  split at h
  ·rename_i c
   cases h;exact c.2
  ·cases h
theorem DQ:Vatwva.atPath (s::p) v=(JH v s).bind fun j=>((bE v)[j]?).bind (Vatwva.atPath p):=by
 cases s with
 | field n=>
  show(if Vatwva.isRecord v=true then (Vatwva.valueAt n (Vatwva.kidsOf v)).bind (Vatwva.atPath p)else none)=_;first | rw[jS] | rw[kX]
  by_cases hr:Vatwva.isRecord v=true
  ·rw[if_pos hr];by_cases hf:Vatwvc.hasField (Vatwva.kidsOf v) n=true
   ·rw[if_pos ⟨hr,hf⟩];obtain⟨A,x,B,h1,h2,h3,h4,h5⟩:=KP hf;have e1:Vatwva.valueAt n (Vatwva.kidsOf v)=some x.2:=by show((Vatwva.kidsOf v).find? fun x=>x.1 == n).map (fun x=>x.2)=_;rw[h5];rfl
    rw[e1];show _=((bE v)[Vatwvc.placeOf (Vatwva.kidsOf v) n]?).bind _;unfold bE;rw[bX,h3,h1,gO (aR _),mO];rfl
   ·rw[if_neg (fun c=>hf c.2)];have e1:Vatwva.valueAt n (Vatwva.kidsOf v)=none:=by show((Vatwva.kidsOf v).find? fun x=>x.1 == n).map (fun x=>x.2)=_;rw[Em hf];rfl
    rw[e1];rfl
  ·rw[if_neg hr,if_neg (fun c=>hr c.1)];rfl
 | item i=>
  show(if Vatwva.isList v=true then ((Vatwva.itemsOf v)[i]?).bind (Vatwva.atPath p)else none)=_;first | rw[jS] | rw[kX]
  by_cases hr:Vatwva.isList v=true
  ·rw[if_pos hr];by_cases hf:i < (Vatwva.itemsOf v).length
   ·rw[if_pos ⟨hr,hf⟩];rfl
   ·rw[if_neg (fun c=>hf c.2),FC (by lia)];rfl
  ·rw[if_neg hr,if_neg (fun c=>hr c.1)];rfl
theorem Ti (l:List α) (i:Nat) (x:α) (h:i < l.length):l.set i x=l.take i++x::l.drop (i+1):=by rw[List.set_eq_take_append_cons_drop,if_pos h]
theorem GS (hs:Qx v):Vatwvc.changeAt f (s::p) v=(JH v s).bind fun j=>((bE v)[j]?).bind fun x=>(Vatwvc.changeAt f p x).map (rB v j):=by
 cases s with
 | field n=>
  rw[Vatwvc.changeAt];first | rw[jS] | rw[kX]
  by_cases hr:Vatwva.isRecord v=true
  ·rw[if_pos hr];by_cases hf:Vatwvc.hasField (Vatwva.kidsOf v) n=true
   ·rw[if_pos ⟨hr,hf⟩];obtain⟨A,x,B,h1,h2,h3,h4,h5⟩:=KP hf;have hdist:=(hs.kids hr).2.1;rw[h1]at hdist;have e5:∀z∈B,z.1≠n:=fun z hz=>by rw[<-h2];exact BZ hdist z hz
    simp only[h5];have e0:(Vatwva.kidsOf v)[A.length]?=some x:=by rw[h1,gO (aR _),mO];rfl
    have e1:(bE v)[Vatwvc.placeOf (Vatwva.kidsOf v) n]?=some x.2:=by unfold bE;rw[bX,h3,e0];rfl
    show _=((bE v)[Vatwvc.placeOf (Vatwva.kidsOf v) n]?).bind _;rw[e1];show _=(Vatwvc.changeAt f p x.2).map _;congr 1;funext w;unfold rB;rw[if_pos hr,h3,e0];congr 1;have e6:(Vatwva.kidsOf v).take A.length=A:=by rw[h1];exact GN
    have e7:(Vatwva.kidsOf v).drop (A.length+1)=B:=by rw[h1];exact DZ A B x
    rw[e6,e7]
    conv=>lhs;rw[h1]
    rw[aW,aP,if_pos h2];have key:∀l:List (Name×fT),(∀z∈l,z.1≠n)->(l.map fun y=>if y.1=n then (n,w)else y)=l:=fun l hl=>by
     conv=>rhs;rw[<-oB l]
     exact eQ fun y hy=>by rw[if_neg (hl y hy)];rfl
    rw[key A h4,key B e5];show _=A++(x.1,w)::B;rw[h2]
   ·rw[if_neg (fun c=>hf c.2)];simp only[Em hf];rfl
  ·rw[if_neg hr,if_neg (fun c=>hr c.1)];rfl
 | item i=>
  rw[Vatwvc.changeAt];first | rw[jS] | rw[kX]
  by_cases hr:Vatwva.isList v=true
  ·rw[if_pos hr];have hnr:¬Vatwva.isRecord v=true:=by rcases hs.1.cases with⟨t,rfl⟩ | ⟨z,rfl⟩ | ⟨k,rfl⟩ | ⟨k,rfl⟩<;>first | (intro c;cases c;done) | (cases hr;done)
   by_cases hf:i < (Vatwva.itemsOf v).length
   ·rw[if_pos ⟨hr,hf⟩];have e0:(Vatwva.itemsOf v)[i]?=some (Vatwva.itemsOf v)[i]:=bD hf;simp only[e0];show _=((Vatwva.itemsOf v)[i]?).bind _;rw[e0];show _=(Vatwvc.changeAt f p _).map _;congr 1;funext w;unfold rB;rw[if_neg hnr,Ti _ _ _ hf];rfl
   ·rw[if_neg (fun c=>hf c.2)];simp only[FC (show(Vatwva.itemsOf v).length<=i by lia)];rfl
  ·rw[if_neg hr,if_neg (fun c=>hr c.1)];rfl
inductive HU (a:mF) (K:aB) (vs:List V) (H:Hp) (Q:VK) (E:XK):Prop
 | mk (x:V) (v:fT) (s:Vatwva.Step):vs=[x,VU s]->oG K H x v->(∀j,JH v s=some j->Q (.int (j:Nat)) H)->(JH v s=none->E (.ref a.xInapplicable) none H)->HU a K vs H Q E
theorem HC (T:iM K mg a):gY P w K mg base 4 "step_place" ["here","step"] (HU a K):=by
 refine kL T.f_step_place ["here","step"] fun vs H Q E h=>?_;obtain⟨x,v,s,rfl,hx,k1,k2⟩:=h;refine⟨rfl,fun nd _ _ _ _ _ hr=>?_⟩;intro X;refine⟨_,aI (fE (mY (Ga (pv 1) rfl T.n_isinstance rfl T.n_str)) (aN (bH (bC (tK T) hr ⟨rfl,rfl,rfl⟩ (aA (pv 0) (aA (pv 1) aD))))) cZ) (aN (bH (bC (uX T) hr ⟨rfl,rfl,rfl⟩ (aA (pv 0) (aA (pv 1) aD))))),?_⟩;cases s with
 | field n=>
  refine⟨_,rfl,.inl ⟨_,rfl,_,rfl,tJ ⟨_,rfl,_,rfl,x,v,n,rfl,hx,fun h1 h2=>k1 _ ?_,fun c=>k2 ?_⟩⟩⟩
  ·first | rw[jS] | rw[kX]
   rw[if_pos ⟨h1,h2⟩]
  ·first | rw[jS] | rw[kX]
   rw[if_neg c]
 | item i=>
  refine⟨_,rfl,.inr ⟨_,rfl,_,rfl,xR ⟨_,rfl,_,rfl,x,v,i,rfl,hx,fun h1 h2=>k1 _ ?_,fun c=>k2 ?_⟩⟩⟩
  ·first | rw[jS] | rw[kX]
   rw[if_pos ⟨h1,h2⟩]
  ·first | rw[jS] | rw[kX]
   rw[if_neg c]
theorem pL {b:Bool} {p q:Prop} (e:b=true) (h:p):if b=true then p else q:=by rw[if_pos e];exact h
theorem mV {b:Bool} {p q:Prop} (e:b=false) (h:q):if b=true then p else q:=by rw[if_neg (by rw[e];decide)];exact h
noncomputable def qL (p:Vatwvc.Path):List V:=p.map VU
theorem gA.getR (h:gA K H zs vs):∀{j:Nat} {u:fT},vs[j]?=some u->∃y,zs[j]?=some y/\oG K H y u:=by
 induction h with
 | nil=>intro j u e;cases e
 | cons r t ih=>
  intro j u e;cases j with
  | zero=>cases e;exact⟨_,rfl,r⟩
  | succ j=>exact ih e
inductive PX (a:mF) (K:aB) (vs:List V) (H:Hp) (Q:VK) (E:XK):Prop
 | mk (x:V) (v:fT) (pp:aQ) (p:Vatwvc.Path):vs=[x,.ref pp]->oG K H x v->fK K H pp (qL p)->(∀u y,Vatwva.atPath p v=some u->oG K H y u->Q y H)->(Vatwva.atPath p v=none->E (.ref a.xInapplicable) none H)->PX a K vs H Q E
theorem Fs (T:iM K mg a):gY P w K mg base 5 "value_at" ["value","path"] (PX a K):=by
 refine kL T.f_value_at ["value","path","here","step"] fun vs H Q E h=>?_;obtain⟨x,v,pp,p,rfl,hx,hp,k1,k2⟩:=h;refine⟨rfl,fun nd _ _ _ _ _ hr=>?_⟩;intro X;refine⟨_,aI (cM (i:=2) nd rfl (bP rfl) (pv 0)) (aI (pP (gK ⟨rfl,rfl,rfl⟩) rfl (BQ (pv 1)) (fC (i:=3) nd rfl (bP rfl)) (aN (cM (i:=2) nd rfl (bP rfl) (fN fV (bC (eS T) hr.m ⟨rfl,rfl,rfl⟩ (aA (pv 2) aD)) (bC (HC T) hr ⟨rfl,rfl,rfl⟩ (aA (pv 2) (aA (pv 3) aD))) (fun _ _=>rfl))))) (aN (bH (pv 2)))),?_⟩;refine⟨_,rfl,_,rfl,pp,rfl,⟨_,hp⟩,QY (xs:=qL p) (fun i σ H'=>H'=H/\∃y u st,σ=[some x,some (.ref pp),some y,st]/\oG K H y u/\Vatwva.atPath (p.drop i) u=Vatwva.atPath p v) ⟨rfl,x,v,none,rfl,hx,rfl⟩ (fun i σ H' _ ⟨e,_⟩=>by rw[e];exact hp) ?_ ?_⟩
 ·rintro i z σ _ hz ⟨rfl,y,u,st,rfl,hy,e⟩;unfold qL at hz;rw[bX]at hz;cases hs:p[i]? with
  | none=>rw[hs]at hz;cases hz
  | some s=>
   rw[hs]at hz;cases hz;have hd:p.drop i=s::p.drop (i+1):=by obtain⟨hi,rfl⟩:=aT.mp hs;exact bM hi
   rw[hd,DQ]at e;obtain⟨p',o,c,zs,rfl,g1,g2,g3⟩:=hy.parts;refine⟨_,rfl,p',_,_,rfl,g1,rfl,_,rfl,_,rfl,.ref p',u,s,rfl,hy,fun j hj=>?_,fun hn=>k2 ?_⟩
   ·have hlt:=ZV hj;have hu:(bE u)[j]?=some (bE u)[j]:=bD hlt;obtain⟨y1,e1,h1⟩:=gA.getR g3 hu;rw[hj]at e;refine⟨c,zs,j,y1,rfl,rfl,g2,gC e1,rfl,y1,_,_,rfl,h1,?_⟩;rw[<-e];show _=((bE u)[j]?).bind _;rw[hu];rfl
   ·rw[<-e,hn];rfl
 ·rintro σ _ ⟨rfl,y,u,st,rfl,hy,e⟩;have e0:(qL p).length=p.length:=aJ _;rw[e0,jT]at e;exact⟨_,rfl,k1 u y e.symm hy⟩
inductive MJ (K:aB) (vs:List V) (H:Hp) (Q:VK) (E:XK):Prop
 | mk (x:V) (v:fT) (j:Nat) (y:V) (u:fT):vs=[x,.int j,y]->oG K H x v->oG K H y u->j < (bE v).length->Vatwva.count v<=5000->tE K H (rB v j u) Q->MJ K vs H Q E
theorem Ce (T:iM K mg a):gY P w K mg base 2 "with_part" ["value","place","part"] (MJ K):=by
 refine kL T.f_with_part ["value","place","part","parts"] fun vs H Q E h=>?_;obtain⟨x,v,j,y,u,rfl,hx,hy,hj,hn,k⟩:=h;refine⟨rfl,fun nd _ _ _ _ _ hr=>?_⟩;intro X;obtain⟨ur,hm,ru⟩:=T.c_RECORD;refine⟨_,aI (cM (i:=3) nd rfl (bP rfl) (bC (HE T) hr ⟨rfl,rfl,rfl⟩ (aA (bC (eS T) hr ⟨rfl,rfl,rfl⟩ (aA (pv 0) aD)) (aA (pv 1) (aA (pv 2) aD))))) (aI (fE (dB qK (bC (mJ T) hr ⟨rfl,rfl,rfl⟩ (aA (pv 0) aD)) (dN rfl hm ru) (dL _)) (aN (bH (bC (oH T) hr ⟨rfl,rfl,rfl⟩ (aA (bC (sG T) hr ⟨rfl,rfl,rfl⟩ (aA (pv 0) aD)) (aA (pv 3) aD))))) cZ) (aN (bH (bC (qX T) hr ⟨rfl,rfl,rfl⟩ (aA (pv 3) aD))))),?_⟩;obtain⟨p,o,c,zs,rfl,g1,g2,g3⟩:=hx.parts;have hl:=nL hx hn g3;refine⟨_,rfl,p,_,_,rfl,g1,rfl,_,rfl,_,rfl,c,zs,j,y,rfl,g2,bI hl (by decide),fun q H1 s1 hq=>?_⟩;have h4:gA K H1 (zs.take j++y::zs.drop (j+1)) ((bE v).take j++u::(bE v).drop (j+1)):=((g3.take j).append (.cons hy (g3.drop (j+1)))).tups s1.tups;refine⟨_,rfl,p,_,_,rfl,s1.sqT g1,rfl,rfl,_,rfl,?_⟩;by_cases hrec:Vatwva.isRecord v=true
 ·have e1:=(TU hx.1).mpr hrec;refine pL (decide_eq_true (congrArg V.str e1)) ?_;obtain⟨p',b',c',zs',e,f1,f2,f3,f4⟩:=hx.rec hrec;cases e;refine⟨_,rfl,p,_,_,rfl,s1.sqT f1,rfl,_,rfl,b',q,(Vatwva.kidsOf v).take j++((((Vatwva.kidsOf v)[j]?).map fun x=>x.1).getD [],u)::(Vatwva.kidsOf v).drop (j+1),_,rfl,.inr ?_,.inr hq,?_,?_⟩
  ·have e2:dR ((Vatwva.kidsOf v).take j++((((Vatwva.kidsOf v)[j]?).map fun x=>x.1).getD [],u)::(Vatwva.kidsOf v).drop (j+1))=dR (Vatwva.kidsOf v):=by
    have hj':j < (Vatwva.kidsOf v).length:=by unfold bE at hj;rwa [aJ]at hj
    conv=>rhs;rw[<-gE j (Vatwva.kidsOf v),bM hj']
    rw[mH,mH];congr 1;show V.str _::_=V.str _::_;rw[bD hj'];rfl
   rw[e2];exact s1.sqT f2
  ·have e3:((Vatwva.kidsOf v).take j++((((Vatwva.kidsOf v)[j]?).map fun x=>x.1).getD [],u)::(Vatwva.kidsOf v).drop (j+1)).map (fun x=>x.2)=(bE v).take j++u::(bE v).drop (j+1):=by unfold bE;rw[aW,aP,rX,rW]
   rw[e3];exact h4
  ·unfold rB at k;rw[if_pos hrec]at k;exact tE.on k s1
 ·have e1:vH v≠"record":=fun z=>hrec ((TU hx.1).mp z);refine mV (decide_eq_false fun z=>e1 (V.str.inj z)) ?_;refine⟨_,rfl,q,_,_,rfl,.inr hq,h4,?_⟩;unfold rB at k;rw[if_neg hrec]at k;exact tE.on k s1
end My
end
section
namespace My
open Vatwva (Text Name)
open Vatwvc (Edit)
open VM
noncomputable def vO (l:List fT):Nat:=(l.map Vatwva.count).sum
theorem pS (a b:List fT):vO (a++b)=vO a+vO b:=by unfold vO;rw[aW,List.sum_append]
theorem oS (x:fT) (b:List fT):vO (x::b)=Vatwva.count x+vO b:=by unfold vO;rw[aP,dW]
theorem uS (l:List fT) (i:Nat):vO (l.take i)+vO (l.drop i)=vO l:=by rw[<-pS,gE]
structure Nh (W c:Nat) (d:Nat) (v w:fT):Prop where
 good:eI W w
 count:Vatwva.count w<=Vatwva.count v+c
 deep:Vatwva.deep w<=Vatwva.deep v+d
theorem IU (h:eI W v):∀x∈bE v,eI W x:=by
 intro x hx;rcases h.1.cases with⟨t,rfl⟩ | ⟨z,rfl⟩ | ⟨k,rfl⟩ | ⟨k,rfl⟩
 ·cases hx
 ·cases hx
 ·obtain⟨y,hy,rfl⟩:=aX.mp hx;exact((h.kids rfl).2.2 y hy).2
 ·exact(h.items rfl).2 x hx
theorem FV {W c d:Nat} {v:fT} {l:List fT} (o:mQ v) (hl:l.length<=W) (hg:∀x∈l,eI W x) (hc:vO l<=vO (bE v)+c) (hd:∀x∈l,Vatwva.deep x+1<=Vatwva.deep v+d) (hd0:1<=Vatwva.deep v+d):Nh W c d v (Vatwva.listOf l):=by
 have ho:∀x∈l,mQ x:=fun x hx=>(hg x hx).1;refine⟨(sE ho).mpr ⟨hl,hg⟩,?_,?_⟩
 ·rw[lP ho,vD o];unfold vO at hc;lia
 ·rw[lQ ho];have:pX (l.map Vatwva.deep)<=Vatwva.deep v+d - 1:=by rw[pY];intro x hx;obtain⟨y,hy,rfl⟩:=aX.mp hx;have:=hd y hy;lia
  lia
theorem LB {W c d:Nat} {v:fT} {l:List (Name×fT)} (o:mQ v) (hl:l.length<=W) (hdist:Vatwva.distinct (l.map fun x=>x.1)=true) (hg:∀x∈l,Vatwva.isName x.1=true/\eI W x.2) (hc:vO (l.map fun x=>x.2)<=vO (bE v)+c) (hd:∀x∈l,Vatwva.deep x.2+1<=Vatwva.deep v+d) (hd0:1<=Vatwva.deep v+d):Nh W c d v (Vatwva.recordOf l):=by
 have ho:∀x∈l,mQ x.2:=fun x hx=>(hg x hx).2.1;refine⟨(zW ho).mpr ⟨hl,hdist,hg⟩,?_,?_⟩
 ·rw[mS ho,vD o];unfold vO at hc;rw[cQ]at hc;rw[Dr];exact Qa hc 1
 ·rw[mG ho];have:pX (l.map fun x=>Vatwva.deep x.2)<=Vatwva.deep v+d - 1:=by rw[pY];intro x hx;obtain⟨y,hy,rfl⟩:=aX.mp hx;have:=hd y hy;lia
  exact bI (Nat.add_le_add_right this 1) (by lia)
theorem wD {v x:fT} (o:mQ v) (h:x∈bE v):Vatwva.deep x+1<=Vatwva.deep v:=FK o h
noncomputable def GQ:gH->Prop
 | .set _ v=>Vatwva.count v<=60/\Vatwva.deep v<=6
 | .put _ _ v=>Vatwva.count v<=60/\Vatwva.deep v<=6
 | .add _ _ _ v=>Vatwva.count v<=60/\Vatwva.deep v<=6
 | _=>True
theorem LC {α:Type} {l:List α} {i:Nat} {a x:α} (h:x∈l.take i++a::l.drop i):x=a\/x∈l:=by
 rcases eJ.mp h with h | h
 ·exact .inr (gP h)
 ·rcases aS.mp h with h | h
  ·exact .inl h
  ·exact .inr (fQ h)
theorem Od {W:Nat} {e:gH} {x y:fT} (hf:uB W e) (hs:GQ e) (gx:eI W x) (h:Vatwvc.doneAt e x=some y):Nh (W+1) 60 7 x y:=by
 have hm:=fun(z:fT) (q:eI W z)=>eI.mono (wB W) q;have dp:=qU gx.1;cases e with
 | set p v=>cases h;exact⟨hm _ hf,by have:=hs.1;lia,by have:=hs.2;lia⟩
 | put p i v=>
  obtain⟨hl,m,hm',rfl⟩:=eU.mp (SL h);obtain⟨hi,rfl⟩:=jA.mp hm';have gi:=gx.items hl;have hcv:=hs.1;have hdv:=hs.2;refine FV gx.1 ?_ (fun z hz=>?_) ?_ (fun z hz=>?_) (by lia)
  ·rw[aC,aK,bK,cX];have:=gi.1;lia
  ·rcases LC hz with rfl | hz
   ·exact hm _ hf
   ·exact hm _ (gi.2 z hz)
  ·rw[pS,oS];have:=uS (Vatwva.itemsOf x) i;have e:bE x=Vatwva.itemsOf x:=rfl;rw[e];lia
  ·rcases LC hz with rfl | hz
   ·lia
   ·have:=wD gx.1 (show z∈bE x from hz);lia
 | take p i=>
  obtain⟨hl,m,hm',rfl⟩:=eU.mp (NE h);unfold Vatwvc.takeAt at hm';split at hm'
  ·cases hm';have gi:=gx.items hl;refine FV gx.1 ?_ (fun z hz=>hm _ (gi.2 z (jZ hz))) ?_ (fun z hz=>?_) (by lia)
   ·have:=List.length_eraseIdx_le (Vatwva.itemsOf x) i;have:=gi.1;lia
   ·rw[jM,pS];have h1:=uS (Vatwva.itemsOf x) i;have h2:vO ((Vatwva.itemsOf x).drop (i+1))<=vO ((Vatwva.itemsOf x).drop i):=by
     rename_i hi
     rw[bM hi,oS];lia
    have e:bE x=Vatwva.itemsOf x:=rfl;rw[e];lia
   ·have:=wD gx.1 (show z∈bE x from jZ hz);lia
  ·cases hm'
 | move p i j=>
  obtain⟨hl,m,hm',rfl⟩:=eU.mp (ND h);unfold Vatwvc.moveAt at hm';split at hm'
  ·cases q:(Vatwva.itemsOf x)[i]? with
   | none=>rw[q]at hm';cases hm'
   | some z0=>
    rw[q]at hm';obtain⟨hj,rfl⟩:=jA.mp hm';have gi:=gx.items hl;have h0:=bB q;have mem:∀z∈(((Vatwva.itemsOf x).eraseIdx i).take j++z0::((Vatwva.itemsOf x).eraseIdx i).drop j),z∈Vatwva.itemsOf x:=fun z hz=>by
     rcases LC hz with rfl | hz
     ·exact h0
     ·exact jZ hz
    have hi:=(aT.mp q).1;refine FV gx.1 ?_ (fun z hz=>hm _ (gi.2 z (mem z hz))) ?_ (fun z hz=>?_) (by lia)
    ·rw[aC,aK,bK,cX];have:=qH hi;have:=gi.1;lia
    ·rw[pS,oS];have h1:=uS ((Vatwva.itemsOf x).eraseIdx i) j;have h3:vO ((Vatwva.itemsOf x).eraseIdx i)+Vatwva.count z0=vO (Vatwva.itemsOf x):=by
      rw[jM,pS];have h1:=uS (Vatwva.itemsOf x) i;rw[bM hi,oS,(aT.mp q).2]at h1
      lia
     have e:bE x=Vatwva.itemsOf x:=rfl;rw[e];lia
    ·have:=wD gx.1 (show z∈bE x from mem z hz);lia
  ·cases hm'
 | add p i n v=>
  obtain⟨hl,m,hm',rfl⟩:=dU.mp (SJ h);split at hm'
  ·cases hm'
  ·rename_i hn
   obtain⟨hi,rfl⟩:=jA.mp hm';have gi:=gx.kids hl;have hcv:=hs.1;have hdv:=hs.2;refine LB gx.1 ?_ ?_ (fun z hz=>?_) ?_ (fun z hz=>?_) (by lia)
   ·rw[aC,aK,bK,cX];have:=gi.1;lia
   ·rw[iI,aW,aP];have h0:=(iI _).mp gi.2.1;rw[<-gE i (Vatwva.kidsOf x),aW]at h0;have hne:∀z∈Vatwva.kidsOf x,z.1≠n:=pK.mp (iD.mpr hn);rw[pD]at h0 ⊢;refine⟨h0.1,dZ.mpr ⟨fun c=>?_,h0.2.1⟩,fun a ha b hb=>?_⟩
    ·obtain⟨z,hz,e⟩:=aX.mp c;exact hne z (fQ hz) e
    ·rcases aS.mp hb with rfl | hb
     ·obtain⟨z,hz,rfl⟩:=aX.mp ha;exact hne z (gP hz)
     ·exact h0.2.2 a ha b hb
   ·rcases LC hz with rfl | hz
    ·exact⟨hf.1,hm _ hf.2⟩
    ·exact⟨(gi.2.2 z hz).1,hm _ (gi.2.2 z hz).2⟩
   ·rw[aW,aP,rX,rW,pS,oS];have:=uS (bE x) i;show vO ((bE x).take i)+(Vatwva.count v+vO ((bE x).drop i))<=_
    lia
   ·rcases LC hz with rfl | hz
    ·show Vatwva.deep v+1<=_;lia
    ·have:=wD gx.1 (show z.2∈bE x from aX.mpr ⟨z,hz,rfl⟩);lia
 | drop p n=>
  obtain⟨hl,m,hm',rfl⟩:=dU.mp (FM h);split at hm'
  ·cases hm';have gi:=gx.kids hl;have sub:((Vatwva.kidsOf x).filter fun z=>z.1 != n).Sublist (Vatwva.kidsOf x):=List.filter_sublist;refine LB gx.1 ?_ ?_ (fun z hz=>?_) ?_ (fun z hz=>?_) (by lia)
   ·have:=sub.length_le;have:=gi.1;lia
   ·rw[iI];exact((iI _).mp gi.2.1).sublist (sub.map _)
   ·have hz:=(kM.mp hz).1;exact⟨(gi.2.2 z hz).1,hm _ (gi.2.2 z hz).2⟩
   ·have key:∀l:List (Name×fT),vO ((l.filter fun z=>z.1 != n).map fun z=>z.2)<=vO (l.map fun z=>z.2):=by
     intro l;induction l with
     | nil=>exact aR _
     | cons a l ih=>
      rw[CF];split
      ·rw[aP,aP,oS,oS];lia
      ·rw[aP,oS];lia
    exact bI (key (Vatwva.kidsOf x)) (RM _ _)
   ·have:=wD gx.1 (show z.2∈bE x from aX.mpr ⟨z,(kM.mp hz).1,rfl⟩);lia
  ·cases hm'
 | rename p n m=>
  obtain⟨hl,k,hm',rfl⟩:=dU.mp (DX h);split at hm'
  ·rename_i hc
   cases hm';rw[aE,gQ,beq_iff_eq,eX]at hc;have gi:=gx.kids hl;have em:((Vatwva.kidsOf x).map fun z=>if z.1=n then (m,z.2)else z).map (fun z=>z.2)=bE x:=by rw[cQ];unfold bE;refine eQ fun z hz=>?_;show(if z.1=n then (m,z.2)else z).2=z.2;split<;>rfl
   refine LB gx.1 ?_ ?_ (fun z hz=>?_) (by rw[em];lia) (fun z hz=>?_) (by lia)
   ·rw[aJ];have:=gi.1;lia
   ·rw[iI,cQ];have h0:=(iI _).mp gi.2.1;have hinj:=ZB gi.2.1;rcases hc.2 with rfl | hn
    ·have:((Vatwva.kidsOf x).map ((fun z=>z.1)∘fun z=>if z.1=n then (n,z.2)else z))=(Vatwva.kidsOf x).map fun z=>z.1:=by
      refine eQ fun z hz=>?_;show(if z.1=n then (n,z.2)else z).1=z.1;split
      ·rename_i c;exact c.symm
      ·rfl
     rw[this];exact h0
    ·have hne:=pK.mp hn;have key:∀l:List (Name×fT),(l.map fun z=>z.1).Nodup->(∀z∈l,z.1≠m)->(l.map ((fun z=>z.1)∘fun z=>if z.1=n then (m,z.2)else z)).Nodup:=by
      intro l;induction l with
      | nil=>intro _ _;exact GM
      | cons a l ih=>
       intro h1 h2;rw[aP,dZ]at h1 ⊢;refine⟨fun c=>?_,ih h1.2 fun z hz=>h2 z (aL _ hz)⟩;obtain⟨b,hb,e⟩:=aX.mp c;have e:(if b.1=n then (m,b.2)else b).1=(if a.1=n then (m,a.2)else a).1:=e;split at e
       ·rename_i c1
        split at e
        ·rename_i c2
         exact h1.1 (aX.mpr ⟨b,hb,by rw[c1,c2]⟩)
        ·exact h2 a aM e.symm
       ·split at e
        ·exact h2 b (aL _ hb) e
        ·exact h1.1 (aX.mpr ⟨b,hb,e⟩)
     exact key _ h0 hne
   ·obtain⟨b,hb,rfl⟩:=aX.mp hz;split
    ·exact⟨hf.2,hm _ (gi.2.2 b hb).2⟩
    ·exact⟨(gi.2.2 b hb).1,hm _ (gi.2.2 b hb).2⟩
   ·obtain⟨b,hb,rfl⟩:=aX.mp hz;have:=wD gx.1 (show b.2∈bE x from aX.mpr ⟨b,hb,rfl⟩);split
    ·show Vatwva.deep b.2+1<=_;lia
    ·lia
  ·cases hm'
theorem RC {α:Type} {l:List α} {i:Nat} {a x:α} (h:x∈l.take i++a::l.drop (i+1)):x=a\/x∈l:=by
 rcases eJ.mp h with h | h
 ·exact .inr (gP h)
 ·rcases aS.mp h with h | h
  ·exact .inl h
  ·exact .inr (fQ h)
theorem XQ {W c d j:Nat} {v x y:fT} (gv:eI W v) (e:(bE v)[j]?=some x) (h:Nh (W+1) c d x y):Nh (W+1) c d v (rB v j y):=by
 have hm:=fun(z:fT) (q:eI W z)=>eI.mono (wB W) q;have hj:=(aT.mp e).1;have hx:x∈bE v:=bB e;have dv:=wD gv.1 hx;have dy:=h.deep;have cy:=h.count;have hsum:vO ((bE v).take j++y::(bE v).drop (j+1))<=vO (bE v)+c:=by
  rw[pS,oS];have h1:=uS (bE v) j;rw[bM hj,oS,(aT.mp e).2]at h1
  lia
 unfold rB;split
 ·rename_i hr
  have gi:=gv.kids hr;have hj':j < (Vatwva.kidsOf v).length:=by unfold bE at hj;rwa [aJ]at hj
  have e0:(((Vatwva.kidsOf v)[j]?).map fun x=>x.1).getD []=(Vatwva.kidsOf v)[j].1:=by rw[bD hj'];rfl
  rw[e0];have em:((Vatwva.kidsOf v).take j++((Vatwva.kidsOf v)[j].1,y)::(Vatwva.kidsOf v).drop (j+1)).map (fun x=>x.1)=(Vatwva.kidsOf v).map fun x=>x.1:=by
   rw[aW,aP]
   conv=>rhs;rw[<-gE j (Vatwva.kidsOf v),bM hj',aW,aP]
  refine LB gv.1 ?_ (by rw[em];exact gi.2.1) (fun z hz=>?_) ?_ (fun z hz=>?_) (by lia)
  ·rw[aC,aK,bK,cX];have:=gi.1;lia
  ·rcases RC hz with rfl | hz
   ·exact⟨(gi.2.2 _ (List.getElem_mem hj')).1,h.good⟩
   ·exact⟨(gi.2.2 z hz).1,hm _ (gi.2.2 z hz).2⟩
  ·rw[aW,aP,rX,rW];exact hsum
  ·rcases RC hz with rfl | hz
   ·show Vatwva.deep y+1<=_;lia
   ·have:=wD gv.1 (show z.2∈bE v from aX.mpr ⟨z,hz,rfl⟩);lia
 ·refine FV gv.1 ?_ (fun z hz=>?_) hsum (fun z hz=>?_) (by lia)
  ·rw[aC,aK,bK,cX];have:(bE v).length<=W:=by
    rcases gv.1.cases with⟨t,rfl⟩ | ⟨z,rfl⟩ | ⟨k,rfl⟩ | ⟨k,rfl⟩
    ·exact aY _
    ·exact aY _
    ·have:=(gv.kids rfl).1;unfold bE;rw[aJ];exact this
    ·exact(gv.items rfl).1
   lia
  ·rcases RC hz with rfl | hz
   ·exact h.good
   ·exact hm _ (IU gv z hz)
  ·rcases RC hz with rfl | hz
   ·lia
   ·have:=wD gv.1 hz;lia
theorem GU (hW:W<=10000) (hf:uB W e) (hs:GQ e):∀(p:Vatwvc.Path) {v w:fT},eI W v->Vatwvc.changeAt (Vatwvc.doneAt e) p v=some w->Nh (W+1) 60 7 v w
 | [],v,w,gv,h=>Od hf hs gv h
 | s::p,v,w,gv,h=>by rw[GS (gv.mono hW)]at h;obtain⟨j,hj,h⟩:=bF.mp h;obtain⟨x,hx,h⟩:=bF.mp h;obtain⟨y,hy,rfl⟩:=aO.mp h;exact XQ gv hx (GU hW hf hs p (IU gv x (bB hx)) hy)
end My
end
section
namespace My
open PySem PySem.Spec PyProof.Rows L2
open PySem.W (Frag)
open Vatwva (Text Name)
open Vatwvc (Edit State Found cheaper andThen)
open VM (cG jY kG jJ uO kR LR dJ cU rG QI rN OX oX uP pR qN wF gT CL MM VC nB)
variable {P:Program} {w:World} {K:Frag} {mg:Str->Option Value} {base:Heap} {a:mF}
structure sO (P:dF) (w:eW) (K:aB) (mg:Str->Option Value) (a:mF):Prop where
 changes:∃f1 f2 f3 f4 f5 f6 f7,(mg "set_here"=some (.ref f1)/\mg "put_here"=some (.ref f2)/\mg "take_here"=some (.ref f3)/\mg "move_here"=some (.ref f4)/\mg "add_here"=some (.ref f5)/\mg "drop_here"=some (.ref f6)/\mg "rename_here"=some (.ref f7))/\
  xW P w K a.dCHANGES [(.inr "set",.ref f1),(.inr "put",.ref f2),(.inr "take",.ref f3),(.inr "move",.ref f4),(.inr "add",.ref f5),(.inr "drop",.ref f6),(.inr "rename",.ref f7)]
 backs:∃f1 f2 f3 f4 f5 f6 f7,(mg "back_of_set"=some (.ref f1)/\mg "back_of_put"=some (.ref f2)/\mg "back_of_take"=some (.ref f3)/\mg "back_of_move"=some (.ref f4)/\mg "back_of_add"=some (.ref f5)/\mg "back_of_drop"=some (.ref f6)/\mg "back_of_rename"=some (.ref f7))/\
  xW P w K a.dBACKS [(.inr "set",.ref f1),(.inr "put",.ref f2),(.inr "take",.ref f3),(.inr "move",.ref f4),(.inr "add",.ref f5),(.inr "drop",.ref f6),(.inr "rename",.ref f7)]
 forms:∃t1 t2 t3 t4 t5 t6 t7,(∀H:Hp,fK K H t1 [.str "value"]/\fK K H t2 [.str "place",.str "value"]/\fK K H t3 [.str "place"]/\fK K H t4 [.str "place",.str "place"]/\fK K H t5 [.str "place",.str "name",.str "value"]/\fK K H t6 [.str "name"]/\fK K H t7 [.str "name",.str "name"])/\
  xW P w K a.dFORMS [(.inr "set",.ref t1),(.inr "put",.ref t2),(.inr "take",.ref t3),(.inr "move",.ref t4),(.inr "add",.ref t5),(.inr "drop",.ref t6),(.inr "rename",.ref t7)]
 empty:∀H:Hp,oG K H (.ref a.dEMPTY_RECORD) (Vatwva.vRec .nil)
noncomputable def Jk:gH->gH->Bool
 | .set _ _=>Sa
 | .put _ _ _=>Rz
 | .take _ _=>Jm
 | .move _ _ _=>Jl
 | .add _ _ _ _=>Ry
 | .drop _ _=>Jj
 | .rename _ _ _=>TF
theorem OK (e:gH):Jk e e=true:=by cases e<;>rfl
def Ua (P:dF) (w:eW) (K:aB) (mg:Str->Option Value) (base:gF) (k:Nat) (v:V) (sp:Sp):Prop:=∃f fd ps,v=.ref f/\gJ K (.ref f)=true/\sY K fd ps []/\vU P w K mg base (WV P w) k f fd ps sp
theorem gY.fnv (F:gY P w K mg base k n ps sp) (h:mg n=some (.ref f)):Ua P w K mg base k (.ref f) sp:=by obtain⟨f',fd,a,b,c,d⟩:=F.ex;rw[h]at a;cases a;exact⟨f,fd,ps,rfl,b,c,d⟩
theorem Ee (T:iM K mg a) (B:sO P w K mg a) (e:gH):∃kvs f,xW P w K a.dCHANGES kvs/\qP kvs (.inr (IA e))=some (.ref f)/\Ua P w K mg base 4 (.ref f) (wI (Jk e) a K):=by
 obtain⟨f1,f2,f3,f4,f5,f6,f7,⟨h1,h2,h3,h4,h5,h6,h7⟩,kd⟩:=B.changes;cases e with
 | set p v=>exact⟨_,f1,kd,rfl,gY.fnv ((Fq T).mono (by decide)) h1⟩
 | put p i v=>exact⟨_,f2,kd,rfl,gY.fnv ((Fp T).mono (by decide)) h2⟩
 | take p i=>exact⟨_,f3,kd,rfl,gY.fnv ((Cc T).mono (by decide)) h3⟩
 | move p i j=>exact⟨_,f4,kd,rfl,gY.fnv ((Bv T).mono (by decide)) h4⟩
 | add p i n v=>exact⟨_,f5,kd,rfl,gY.fnv ((Fl T).mono (by decide)) h5⟩
 | drop p n=>exact⟨_,f6,kd,rfl,gY.fnv ((Bu T).mono (by decide)) h6⟩
 | rename p n m=>exact⟨_,f7,kd,rfl,gY.fnv ((UY T).mono (by decide)) h7⟩
inductive Dm (a:mF) (K:aB) (H:Hp) (p:aQ) (e:gH):Prop
 | mk (dx:_) (pp:_) (d:_):H p=some (.ins a.cEdit dx [("word",.str (IA e)),("path",.ref pp),("details",.ref d)])->fK K H pp (qL (Vatwvc.pathIn e))->Tx K H d e->Dm a K H p e
theorem Dm.same (s:bA H H') (h:Dm a K H p e):Dm a K H' p e:=let ⟨dx,pp,d,h1,h2,h3⟩:=h;⟨dx,pp,d,s _ _ h1,s.sqT h2,h3.tups s.tups⟩
inductive Qt (K:aB) (H:Hp) (r:V) (fr:fT×Nat):Prop
 | mk (t:_) (y:_):r=.ref t->fK K H t [y,.int fr.2]->oG K H y fr.1->fr.2 < (bE fr.1).length->Vatwva.count fr.1<=5000->Qt K H r fr
theorem Qt.tups (s:zP H H') (h:Qt K H r fr):Qt K H' r fr:=let ⟨t,y,h1,h2,h3,h4,h5⟩:=h;⟨t,y,h1,s.sqT h2,h3.tups s,h4,h5⟩
noncomputable def BW (JT:List (fT×Nat)) (w:fT):fT:=JT.foldr (fun fr w=>rB fr.1 fr.2 w) w
inductive VJ (a:mF) (K:aB) (vs:List V) (H:Hp) (Q:VK) (E:XK):Prop
 | mk (ep:aQ) (x:V) (e:gH) (v:fT):vs=[.ref ep,x]->Dm a K H ep e->oG K H x v->iG v=true->VM.uB 24 e->GQ e->Yu a K H (dP e v) Q E->VJ a K vs H Q E
theorem Uj {K:aB} {a:aQ} {xs:List V} {g:TG} {tb:TS} {D:IL} {σ:L2.St} {H:Hp} (Pv:Nat->L2.St->Hp->Prop) (h0:Pv 0 σ H) (hl:∀i σ H,i<=xs.length->Pv i σ H->hJ K H a xs)
  (hs:∀i x σ H,i < xs.length->xs[xs.length - 1 - i]?=some x->Pv i σ H->g x σ H fun σ2 H2=>tb {D with nx:=Pv (i+1),ct:=Pv (i+1),bk:=D.nx} σ2 H2) (hd:∀σ H,Pv xs.length σ H->D.nx σ H):
  ∃W:Nat->Nat->L2.St->Hp->Prop,(∃m,W 0 m σ H)/\∀i m σ H,W i m σ H->
   ((Zd K a xs.length).stop i H/\D.nx σ H)\/((Zd K a xs.length).go i H/\∃N:L2.St->Hp->Prop,(∀σ' H',N σ' H'->∃m',m' < m/\W (i+1) m' σ' H')/\∀x H',(Zd K a xs.length).yld i H x H'->g x σ H' fun σ2 H2=>tb {D with nx:=N,ct:=N,bk:=D.nx} σ2 H2):=by
 refine⟨fun i m σ H=>m=xs.length - i/\i<=xs.length/\Pv i σ H,⟨xs.length,by simp,aY _,h0⟩,?_⟩;rintro i m σ H ⟨rfl,hi,p⟩;have q:=hl i σ H hi p;by_cases hlt:i < xs.length
 ·refine .inr ⟨⟨hlt,xs,xs[xs.length - 1 - i],q,bD (by lia)⟩,Pv (i+1),fun σ' H' p'=>⟨xs.length - (i+1),by lia,rfl,hlt,p'⟩,fun x H' y=>?_⟩;obtain⟨e,y⟩:=y;subst e;exact hs i x σ _ hlt (y xs q) p
 ·have e:i=xs.length:=by lia
  subst e;exact .inl ⟨aR _,hd σ H p⟩
theorem Cr (JT:List (fT×Nat)) (fr:fT×Nat) (w:fT):BW (JT++[fr]) w=BW JT (rB fr.1 fr.2 w):=by unfold BW;rw[List.foldr_append];rfl
theorem Paired.snoc (h:hU R xs ys) (r:R x y):hU R (xs++[x]) (ys++[y]):=by
 induction h with
 | nil=>exact .cons r .nil
 | cons r' _ ih=>exact .cons r' ih
theorem Paired.at {α β:Type} {R:α->β->Prop} {xs:List α} {ys:List β} (h:hU R xs ys):∀{j:Nat} {x:α},xs[j]?=some x->∃y,ys[j]?=some y/\R x y:=by
 induction h with
 | nil=>intro j x e;cases e
 | cons r t ih=>
  intro j x e;cases j with
  | zero=>cases e;exact⟨_,rfl,r⟩
  | succ j=>exact ih e
theorem dC (s:bA H0 H) (h:H0 l=none):bA H0 (upd H l o):=fun b u e=>by rw[bL (dM e h)];exact s b u e
theorem oU (h:H l=some (.lst xs)):zP H (upd H l (.lst ys)):=⟨fun b zs e=>by rw[bL (kK e h (by intro z;cases z))];exact e,fun b o u e=>by rw[bL (kK e h (by intro z;cases z))];exact e⟩
theorem UN (T:iM K mg a) (B:sO P w K mg a):gY P w K mg base 18 "applied" ["edit","value"] (VJ a K):=by
 refine kL T.f_applied ["edit","value","here","passed","step","place","made","above"] fun vs H Q E h=>?_
 obtain⟨ep,x,e,v,rfl,he,hx,hl,hf,hs,k⟩:=h
 refine⟨rfl,fun nd _ _ _ _ _ hr=>?_⟩
 intro X
 refine⟨_,aI (cM (i:=2) nd rfl (bP rfl) (pv 1)) (aI (cM (i:=3) nd rfl (bP rfl) (eL aD))
  (aI (pP (gK ⟨rfl,rfl,rfl⟩) rfl (BQ (cK (pv 0) rfl)) (fC (i:=4) nd rfl (bP rfl))
   (aI (cM (i:=5) nd rfl (bP rfl) (bC (HC T) hr.m ⟨rfl,rfl,rfl⟩ (aA (pv 2) (aA (pv 4) aD))))
   (aI (dO (nM bG bR bS gI (pv 3) (aA (iT (aA (pv 2) (aA (pv 5) aD))) aD)))
   (aN (cM (i:=2) nd rfl (bP rfl) (fN fV (bC (eS T) hr.m ⟨rfl,rfl,rfl⟩ (aA (pv 2) aD)) (pv 5) (fun _ _=>rfl)))))))
  (aI (cM (i:=6) nd rfl (bP rfl) (Fy (k:=4) ⟨rfl,rfl,rfl⟩ hr.m (BO (dN (v:=.ref a.dCHANGES) (by rfl) T.d_CHANGES rfl) (cK (pv 0) rfl) (fun _ _=>rfl)) (aA (pv 2) (aA (cK (pv 0) rfl) aD))))
  (aI (pP (gK ⟨rfl,rfl,rfl⟩) rfl (Gb (by rfl) T.n_reversed (aA (pv 3) aD)) (JD (n:=2) (by rfl) (lG (fC (i:=7) nd rfl (bP rfl)) (lG (fC (i:=5) nd rfl (bP rfl)) BP)))
   (aN (cM (i:=6) nd rfl (bP rfl) (bC (Ce T) hr.m ⟨rfl,rfl,rfl⟩ (aA (pv 7) (aA (pv 5) (aA (pv 6) aD)))))))
  (aI (dO (bC (nW T) hr.m ⟨rfl,rfl,rfl⟩ (aA (bC (EE T 13) hr.m ⟨rfl,rfl,rfl⟩ (aA (pv 6) aD)) aD)))
  (aN (bH (pv 6)))))))),?_⟩
 obtain⟨gl,cl,dl⟩:=VM.lR.mp hl
 have gl:VM.eI 24 v:=gl
 have cl:Vatwva.count v<=120:=cl
 have dl:Vatwva.deep v<=6:=dl
 have hsv:Qx v:=gl.mono (by decide)
 refine⟨_,rfl,aY _,fun l hl0=>?_⟩
 obtain⟨dx,pp,d,e1,e2,e3⟩:=he
 have s1:bA H (upd H l (.lst [])):=bA.upd hl0
 refine⟨_,rfl,ep,_,dx,_,_,rfl,s1 _ _ e1,T.q_Edit,T.na_Edit_path,rfl,pp,rfl,⟨_,s1.sqT e2⟩,QY (xs:=qL (Vatwvc.pathIn e)) (fun i σ H'=>bA H H'/\∃y u s4 s5 rs fs,σ=[some (.ref ep),some x,some y,some (.ref l),s4,s5,none,none]/\H' l=some (.lst rs)/\hU (Qt K H') rs fs/\oG K H' y u/\VM.eI 24 u/\fs.length+Vatwva.count u<=120/\
  Vatwvc.changeAt (Vatwvc.doneAt e) (Vatwvc.pathIn e) v=(Vatwvc.changeAt (Vatwvc.doneAt e) ((Vatwvc.pathIn e).drop i) u).map (BW fs))
  ⟨s1,x,v,none,none,[],[],rfl,aH,.nil,hx.tups s1.tups,gl,by simpa using cl,by rw[xS];exact Option.map_id'.symm⟩ (fun i σ H' _ ⟨t,_⟩=>t.sqT e2) ?_ ?_⟩
 ·rintro i z σ H' hz ⟨sm,y,u,s4,s5,rs,fs,rfl,hl',hfr,hy,gu,hc,ech⟩
  unfold qL at hz
  rw[bX]at hz
  cases hst:(Vatwvc.pathIn e)[i]? with
  | none=>rw[hst]at hz;cases hz
  | some st=>
   rw[hst]at hz
   cases hz
   have hdr:(Vatwvc.pathIn e).drop i=st::(Vatwvc.pathIn e).drop (i+1):=by
    obtain⟨hi,rfl⟩:=aT.mp hst
    exact bM hi
   rw[hdr,GS (gu.mono (by decide))]at ech
   refine⟨_,rfl,_,rfl,y,u,st,rfl,hy,fun j hj=>?_,fun hn=>?_⟩
   rotate_left
   ·refine mZ k ?_ H' sm
    show(Vatwvc.changeAt _ _ _).bind _=none
    rw[ech,hn];rfl
   have hlt:=ZV hj
   have hu:(bE u)[j]?=some (bE u)[j]:=bD hlt
   have hcu:=wW gu.1 (bB hu)
   obtain⟨p',o,c,zs,rfl,g1,g2,g3⟩:=hy.parts
   obtain⟨y1,e4,h4⟩:=gA.getR g3 hu
   refine⟨_,rfl,.inl ⟨rfl,_,hJ.of hl'⟩,_,rfl,_,rfl,(by show 2<=aU;decide),fun t ht=>?_⟩
   have hl2:upd H' t (.tup [.ref p',.int (j:Nat)]) l=some (.lst rs):=(bA.upd ht) _ _ hl'
   refine⟨l,rs,.ref t,rfl,rfl,hl2,small (by rw[hfr.length];lia),?_⟩
   have tu:zP H' (upd (upd H' t (.tup [.ref p',.int (j:Nat)])) l (.lst (rs++[.ref t]))):=(bA.upd ht).tups.trans (oU hl2)
   refine⟨_,rfl,p',_,_,rfl,tu.sqT g1,rfl,_,rfl,c,zs,j,y1,rfl,rfl,tu.sqT g2,gC e4,?_⟩
   refine⟨dC (sm.trans (bA.upd ht)) hl0,y1,(bE u)[j],_,_,rs++[.ref t],fs++[(u,j)],rfl,aH,Paired.snoc (Paired.mapP hfr fun _ _ q=>q.tups tu) ⟨t,.ref p',rfl,?_,hy.tups tu,hlt,(show Vatwva.count u<=5000 by lia)⟩,h4.tups tu,IU gu _ (bB hu),by rw[aC,cS];lia,?_⟩
   ·exact(oU hl2).sqT (.of' aH)
   ·rw[ech,hj]
    show(((bE u)[j]?).bind _).map _=_
    rw[hu]
    show((Vatwvc.changeAt _ _ _).map _).map _=_
    rw[nE]
    congr 1
    funext w1
    exact(Cr fs (u,j) w1).symm
 ·rintro σ H' ⟨sm,y,u,s4,s5,rs,fs,rfl,hl',hfr,hy,gu,hc,ech⟩
  have e0:(qL (Vatwvc.pathIn e)).length=(Vatwvc.pathIn e).length:=aJ _
  rw[e0,jT]at ech
  have ech:Vatwvc.changeAt (Vatwvc.doneAt e) (Vatwvc.pathIn e) v=(Vatwvc.doneAt e u).map (BW fs):=ech
  obtain⟨kvs,fch,kd,hval,hfn⟩:=Ee (base:=base) T B e
  refine⟨_,rfl,ep,_,dx,_,_,rfl,sm _ _ e1,T.q_Edit,T.na_Edit_word,rfl,_,kvs,.inr (IA e),.ref fch,rfl,kd,rfl,hval,_,⟨hfn⟩,_,rfl,_,rfl,ep,_,dx,_,_,rfl,sm _ _ e1,T.q_Edit,T.na_Edit_details,rfl,y,u,d,e,rfl,OK e,hy,e3.tups sm.tups,gu.mono (by decide),by lia,?_⟩
  cases q:Vatwvc.doneAt e u with
  | none=>
   intro H2 s2
   refine mZ k ?_ H2 (sm.trans s2)
   show(Vatwvc.changeAt _ _ _).bind _=none
   rw[ech,q];rfl
  | some w0=>
   intro H2 m s2 hm
   rw[q]at ech
   have ech:Vatwvc.changeAt (Vatwvc.doneAt e) (Vatwvc.pathIn e) v=some (BW fs w0):=ech
   have md:=GU (by decide) hf hs _ gl ech
   have hlen:=hfr.length
   refine⟨_,rfl,l,rs,rfl,hJ.of (s2 _ _ hl'),Uj (xs:=rs) (fun i σ H3=>bA H2 H3/\∃m' s5 s7,σ=[some (.ref ep),some x,some y,some (.ref l),s4,s5,some m',s7]/\oG K H3 m' (BW (fs.drop (fs.length - i)) w0)) ⟨bA.refl H2,m,s5,none,rfl,by rw[Hw,jT];exact hm⟩ (fun i σ H3 _ ⟨t,_⟩=>hJ.of (t _ _ (s2 _ _ hl'))) ?_ ?_⟩
   ·rintro i z σ H3 hi hz ⟨s3,m',s5',s7,rfl,hm'⟩
    obtain⟨fr,efr,ft,yy,rfl,k2,k3,k4,k5⟩:=Paired.at hfr hz
    have st3:=s2.trans s3
    refine⟨ft,_,rfl,st3.sqT k2,rfl,yy,_,rfl,_,_,rfl,rfl,?_⟩
    refine⟨_,rfl,_,rfl,_,rfl,yy,fr.1,fr.2,m',_,rfl,k3.tups st3.tups,hm',k4,k5,fun H4 m4 s4' h4=>?_⟩
    refine⟨s3.trans s4',m4,_,_,rfl,?_⟩
    have hi':i < fs.length:=by lia
    have e6:fs.drop (fs.length - (i+1))=fr::fs.drop (fs.length - i):=by
     have e7:rs.length - 1 - i=fs.length - (i+1):=by lia
     rw[e7]at efr
     obtain⟨hlt,rfl⟩:=aT.mp efr
     rw[bM hlt]
     congr 2
     lia
    rw[e6]
    exact h4
   ·rintro σ H3 ⟨s3,m',s5',s7,rfl,hm'⟩
    rw[hlen,mO,xS]at hm'
    have smm:=(sm.trans s2).trans s3
    refine⟨_,rfl,m',_,rfl,hm',by have:=md.deep;lia,by have:=md.count;lia,fun H4 s4'=>⟨_,rfl,fun c=>?_,fun c=>?_⟩⟩
    ·have c:=of_decide_eq_true c
     refine⟨_,rfl,tO k ?_ H4 m' (smm.trans s4') (hm'.tups s4'.tups)⟩
     refine VM.nT.mpr ⟨ech,VM.lR.mpr ⟨(FQ md.good).mp c.2.2,c.2.1,c.1⟩⟩
    ·have c:=of_decide_eq_false c
     refine mZ k ?_ H4 (smm.trans s4')
     cases q2:dP e v with
     | none=>rfl
     | some w1=>
      obtain⟨q3,q4⟩:=VM.nT.mp q2
      rw[ech]at q3
      cases q3
      obtain⟨q5,q6,q7⟩:=VM.lR.mp q4
      exact absurd ⟨q7,q6,(FQ md.good).mpr q5⟩ c
noncomputable def IW (e:gH) (v:fT):Option fT:=(dP e v).bind fun w=>if Vatwva.isValue w=true then some w else none
inductive HX (a:mF) (K:aB) (vs:List V) (H:Hp) (Q:VK) (E:XK):Prop
 | mk (ep:aQ) (x:V) (e:gH) (v:fT):vs=[.ref ep,x]->Dm a K H ep e->oG K H x v->iG v=true->VM.uB 24 e->GQ e->Yu a K H (IW e v) Q E->HX a K vs H Q E
theorem yC {w:fT} (h:iG w=true):(Vatwva.deep w<=6/\Vatwva.count w<=60/\qQ w<=12)↔Vatwva.isValue w=true:=by obtain⟨g,c,d⟩:=VM.lR.mp h;rw[VM.dS,<-FQ g];exact⟨fun z=>⟨z.2.2,z.2.1,z.1⟩,fun z=>⟨z.2.2,z.2.1,z.1⟩⟩
noncomputable def xP (a:mF) (K:aB) (H:Hp):List V->List gH->Prop:=hU fun r e=>∃ep,r=.ref ep/\Dm a K H ep e
theorem xP.same (s:bA H H') (h:xP a K H rs es):xP a K H' rs es:=Paired.mapP h fun _ _ ⟨ep,e,q⟩=>⟨ep,e,q.same s⟩
noncomputable def kP (es:List gH) (v:fT):Option fT:=(VM.runs es v).bind fun w=>if Vatwva.isValue w=true then some w else none
theorem lV (e:gH) (v:fT):kP [e] v=IW e v:=by unfold kP IW;show((dP e v).bind (VM.runs [])).bind _=_;cases dP e v<;>rfl
inductive PQ (a:mF) (K:aB) (vs:List V) (H:Hp) (Q:VK) (E:XK):Prop
 | mk (l:aQ) (rs:List V) (es:List gH) (x:V) (v:fT):vs=[.ref l,x]->H l=some (.lst rs)->xP a K H rs es->oG K H x v->iG v=true->(∀e∈es,VM.uB 24 e/\GQ e)->Yu a K H (kP es v) Q E->PQ a K vs H Q E
theorem lX (T:iM K mg a) (B:sO P w K mg a):gY P w K mg base 19 "value_made_by_row" ["edits","value"] (PQ a K):=by
 refine kL T.f_value_made_by_row ["edits","value","made","edit"] fun vs H Q E h=>?_;obtain⟨l,rs,es,x,v,rfl,hl0,hes,hx,hl,hf,k⟩:=h;refine⟨rfl,fun nd _ _ _ _ _ hr=>?_⟩;intro X;refine⟨_,aI (cM (i:=2) nd rfl (bP rfl) (pv 1)) (aI (pP (gK ⟨rfl,rfl,rfl⟩) rfl (RF (pv 0)) (fC (i:=3) nd rfl (bP rfl)) (aN (cM (i:=2) nd rfl (bP rfl) (bC (UN T B) hr ⟨rfl,rfl,rfl⟩ (aA (pv 3) (aA (pv 2) aD)))))) (aI (dO (bC (nW T) hr.m ⟨rfl,rfl,rfl⟩ (aA (bC (ED T 6) hr.m ⟨rfl,rfl,rfl⟩ (aA (pv 2) aD)) aD))) (aN (bH (pv 2))))),?_⟩;refine⟨_,rfl,_,rfl,l,rfl,⟨_,hJ.of hl0⟩,SW (xs:=rs) (fun i σ H'=>bA H H'/\∃y u st,σ=[some (.ref l),some x,some y,st]/\oG K H' y u/\iG u=true/\VM.runs es v=VM.runs (es.drop i) u) ⟨bA.refl H,x,v,none,rfl,hx,hl,rfl⟩ (fun i σ H' _ h=>hJ.of (h.1 _ _ hl0)) ?_ ?_⟩
 ·rintro i z σ H' hz ⟨sm,y,u,st,rfl,hy,lu,hrun⟩;obtain⟨e,he,ep,rfl,hep⟩:=Paired.at hes hz;have hm:=hf e (bB he);have hdr:es.drop i=e::es.drop (i+1):=by obtain⟨hi,rfl⟩:=aT.mp he;exact bM hi
  rw[hdr]at hrun;have hrun:VM.runs es v=(dP e u).bind (VM.runs (es.drop (i+1))):=hrun;refine⟨_,rfl,_,rfl,ep,y,e,u,rfl,hep.same sm,hy,lu,hm.1,hm.2,?_⟩;cases q:dP e u with
  | none=>intro H2 s2;exact mZ k (by unfold kP;rw[hrun,q];rfl) H2 (sm.trans s2)
  | some w1=>intro H2 m s2 hm2;rw[q]at hrun;exact⟨sm.trans s2,m,w1,_,rfl,hm2,(VM.nT.mp q).2,hrun⟩
 ·rintro σ H' ⟨sm,y,u,st,rfl,hy,lu,hrun⟩;have e0:rs.length=es.length:=hes.length;rw[e0,jT]at hrun;have hrun:VM.runs es v=some u:=hrun;obtain⟨g,c,d⟩:=VM.lR.mp lu;have c:Vatwva.count u<=120:=c;have d:Vatwva.deep u<=6:=d;refine⟨_,rfl,y,u,rfl,hy,d,by lia,fun H2 s2=>⟨_,rfl,fun c=>?_,fun c=>?_⟩⟩
  ·have c:=(yC lu).mp (of_decide_eq_true c);exact⟨_,rfl,tO k (by unfold kP;rw[hrun];exact if_pos c) H2 y (sm.trans s2) (hy.tups s2.tups)⟩
  ·have c:=fun z=>of_decide_eq_false c ((yC lu).mpr z);exact mZ k (by unfold kP;rw[hrun];exact if_neg c) H2 (sm.trans s2)
theorem zA (T:iM K mg a) (B:sO P w K mg a):gY P w K mg base 20 "value_made" ["edit","value"] (HX a K):=by
 refine kL T.f_value_made ["edit","value"] fun vs H Q E h=>?_;obtain⟨ep,x,e,v,rfl,he,hx,hl,hf,hs,k⟩:=h;refine⟨rfl,fun nd _ _ _ _ _ hr=>?_⟩;intro X;refine⟨_,aN (bH (bC (lX T B) hr ⟨rfl,rfl,rfl⟩ (aA (eL (aA (pv 0) aD)) (aA (pv 1) aD)))),?_⟩;refine⟨_,rfl,(by show 1<=aU;decide),fun l hl0=>?_⟩;have s1:=bA.upd (o:=.lst [.ref ep]) hl0;refine⟨_,rfl,l,[.ref ep],[e],x,v,rfl,aH,.cons ⟨ep,rfl,he.same s1⟩ .nil,hx.tups s1.tups,hl,fun e' he'=>?_,?_⟩
 ·obtain rfl:=bU.mp he';exact⟨hf,hs⟩
 ·rw[lV];cases q:IW e v with
  | none=>exact fun H2 s2=>mZ k q H2 (s1.trans s2)
  | some w1=>exact fun H2 m s2 hm=>tO k q H2 m (s1.trans s2) hm
section
variable {n q:Str} {st:wS} {ps:List Str} {k:Nat} {sp:Sp} {C:aQ}
theorem Sm (F:∃f fd,Il K C n f/\Ih K n q st f fd) (N:List Str) (h:E1 P w K mg base N ps sp k q st) (c:Zo N ps st=true:=by decide+kernel):La P w K mg base (k+1) C n ps sp:=let ⟨f,fd,m,F⟩:=F;⟨f,fd,m,F.binds ((IQ c).2 _ _),F.okY (IQ c).1 h⟩
theorem E8 (F:∃f fd,Mk K C f/\Ih K "__init__" q st f fd) (N:List Str) (h:E1 P w K mg base N ps sp k q st) (c:Zo N ps st=true:=by decide+kernel):Wk P w K mg base (k+1) C ps sp:=let ⟨f,fd,m,F⟩:=F;⟨f,fd,m,F.binds ((IQ c).2 _ _),F.okY (IQ c).1 h⟩
end
def sN (p:aQ) (H H':Hp):Prop:=∀b o,b≠p->H b=some o->H' b=some o
theorem sN.refl (p:aQ) (H:Hp):sN p H H:=fun _ _ _ e=>e
theorem sN.trans (x:sN p H H1) (y:sN p H1 H2):sN p H H2:=fun b o n e=>y b o n (x b o n e)
theorem bA.but (x:bA H H'):sN p H H':=fun b o _ e=>x b o e
theorem sN.upd (p:aQ) (H:Hp) (o:HO):sN p H (upd H p o):=fun b u n e=>by rw[bL n];exact e
inductive RR (a:mF) (H:Hp) (p:aQ) (m:aQ×bW) (r:bW):Prop
 | mk (dx:_) (i:Nat):H p=some (.ins a.cReader dx [("text",.ref m.1),("place",.int i)])->H m.1=some (.lst (cV m.2))->m.2.length<=6000->m.2.drop i=r->RR a H p m r
theorem bA.sqL (s:bA H H') (h:hJ K H l xs):hJ K H' l xs:=s.seq h
theorem RR.same (s:bA H H') (h:RR a H p m r):RR a H' p m r:=let ⟨dx,i,h1,h2,h3,h4⟩:=h;⟨dx,i,s _ _ h1,s _ _ h2,h3,h4⟩
theorem RR.len (h:RR a H p m r):r.length<=6000:=by obtain⟨dx,i,h1,h2,h3,rfl⟩:=h;rw[cX];omega
theorem RR.upd (h:RR a H' p m r) (h0:RR a H p m r0) (hl:H l=none):RR a (upd H' l o) p m r:=by obtain⟨dx,i,h1,h2,h3,h4⟩:=h;obtain⟨dx0,i0,k1,k2,_⟩:=h0;exact⟨dx,i,by rw[bL (dM k1 hl)];exact h1,by rw[bL (dM k2 hl)];exact h2,h3,h4⟩
theorem sN.tups (s:sN p H H') (h:RR a H p m r):zP H H':=by obtain⟨dx,i,h1,_⟩:=h;exact⟨fun b xs e=>s b _ (kK e h1 (by intro z;cases z)) e,fun b o u e=>s b _ (kK e h1 (by intro z;cases z)) e⟩
noncomputable def vV (r:bW):V:=match r with
 | b::_=>.int (b.toNat:Nat)
 | []=>.int (-1)
theorem Nj {t:bW} {i:Nat} (h:i < t.length):∃b,t[i]?=some b/\t.drop i=b::t.drop (i+1):=⟨t[i],bD h,bM h⟩
inductive Gp (a:mF) (K:aB) (vs:List V) (H:Hp) (Q:VK) (E:XK):Prop
 | mk (p:_) (m:_) (r:_):vs=[.ref p]->RR a H p m r->Q (vV r) H->Gp a K vs H Q E
theorem xC (T:iM K mg a):La P w K mg base 1 a.cReader "ahead" ["self"] (Gp a K):=by
 refine Sm T.m_Reader_ahead ["self"] fun vs H Q E h=>?_;obtain⟨p,m,r,rfl,hp,k⟩:=h;refine⟨rfl,fun nd _ _ _ _ _ hr=>?_⟩;intro X;obtain⟨u,hm,ru⟩:=T.c_END;refine⟨_,aI (fE (dB OT (cK (pv 0) rfl) (cY cW rfl T.n_len cE (aA (cK (pv 0) rfl) aD)) (dL _)) (aN (bH (fN rD (cK (pv 0) rfl) (cK (pv 0) rfl) (fun _ _=>rfl)))) cZ) (aN (bH (dN rfl hm ru))),?_⟩;obtain⟨dx,i,h1,h2,hln,rfl⟩:=hp;refine⟨_,rfl,p,_,dx,_,_,rfl,h1,T.q_Reader,T.na_Reader_place,rfl,_,rfl,p,_,dx,_,_,rfl,h1,T.q_Reader,T.na_Reader_text,rfl,m.1,_,rfl,.inl (hJ.of h2),_,_,rfl,rfl,_,rfl,?_⟩;have el:(cV m.2).length=m.2.length:=aJ _;refine nI (fun c=>?_) (fun c=>?_)
 ·have c:(i:Int) < ((cV m.2).length:Int):=of_decide_eq_true c;have hi:i < m.2.length:=by rw[el]at c;omega
  obtain⟨b,e1,e2⟩:=Nj hi;rw[e2]at k;refine⟨_,rfl,p,_,dx,_,_,rfl,h1,T.q_Reader,T.na_Reader_text,rfl,_,rfl,p,_,dx,_,_,rfl,h1,T.q_Reader,T.na_Reader_place,rfl,m.1,_,_,_,rfl,rfl,hJ.of h2,gC (v:=.int (b.toNat:Nat)) ?_,k⟩;unfold cV;rw[bX,e1];rfl
 ·have c:¬(i:Int) < ((cV m.2).length:Int):=fun z=>c (decide_eq_true z);have hi:m.2.length<=i:=by rw[el]at c;omega
  rw[oN hi]at k;exact k
inductive Gq (a:mF) (K:aB) (vs:List V) (H:Hp) (Q:VK) (E:XK):Prop
 | mk (p:_) (m:_) (r:_):vs=[.ref p]->RR a H p m r->Q (.bl r.isEmpty) H->Gq a K vs H Q E
theorem Fm (T:iM K mg a):La P w K mg base 1 a.cReader "ended" ["self"] (Gq a K):=by
 refine Sm T.m_Reader_ended ["self"] fun vs H Q E h=>?_;obtain⟨p,m,r,rfl,hp,k⟩:=h;refine⟨rfl,fun nd _ _ _ _ _ hr=>?_⟩;intro X;refine⟨_,aN (bH (rF B8 (cK (pv 0) rfl) (cY cW rfl T.n_len cE (aA (cK (pv 0) rfl) aD)) (dL _))),?_⟩;obtain⟨dx,i,h1,h2,hln,rfl⟩:=hp;refine⟨_,rfl,p,_,dx,_,_,rfl,h1,T.q_Reader,T.na_Reader_place,rfl,_,rfl,p,_,dx,_,_,rfl,h1,T.q_Reader,T.na_Reader_text,rfl,m.1,_,rfl,.inl (hJ.of h2),_,_,rfl,rfl,?_⟩;have el:(cV m.2).length=m.2.length:=aJ _;have e:(m.2.drop i).isEmpty=decide (((cV m.2).length:Int)<=(i:Int)):=by rw[el,mB,vP,Kk,decide_eq_true_iff];omega
 rw[e]at k;exact k
theorem RR.next {H:Hp} {p:aQ} {m:aQ×bW} {dx:aQ} {i:Nat} (h1:H p=some (.ins a.cReader dx [("text",.ref m.1),("place",.int i)])) (h2:H m.1=some (.lst (cV m.2))) (hln:m.2.length<=6000):RR a (L2.upd H p (.ins a.cReader dx [("text",.ref m.1),("place",.int ((i:Int)+1))])) p m (m.2.drop i).tail:=⟨dx,i+1,aH,by rw[bL (kK h2 h1 (by intro z;cases z))];exact h2,hln,by rw[List.tail_drop]⟩
inductive LY (a:mF) (K:aB) (vs:List V) (H:Hp) (Q:VK) (E:XK):Prop
 | mk (p:_) (m:_) (r:_):vs=[.ref p]->RR a H p m r->(∀H',sN p H H'->RR a H' p m r.tail->Q (vV r) H')->LY a K vs H Q E
theorem LJ (T:iM K mg a):La P w K mg base 2 a.cReader "pass_byte" ["self"] (LY a K):=by refine Sm T.m_Reader_pass_byte ["self","byte"] fun vs H Q E h=>?_;obtain⟨p,m,r,rfl,hp,k⟩:=h;refine⟨rfl,fun nd _ _ _ _ _ hr=>?_⟩;intro X;refine⟨_,aI (cM (i:=1) nd rfl (bP rfl) (mK (xC T) T.q_Reader hr ⟨rfl,rfl,rfl⟩ (pv 0))) (aI (NQ (pv 0) cB Jh) (aN (bH (pv 1)))),?_⟩;obtain⟨dx,i,h1,h2,hln,rfl⟩:=id hp;exact⟨_,rfl,p,dx,_,rfl,h1,rfl,p,m,_,rfl,hp,_,rfl,p,_,dx,_,_,rfl,h1,T.q_Reader,T.na_Reader_place,rfl,_,_,rfl,rfl,dx,_,h1,(by show 2 < 1000;decide),_,rfl,k _ (sN.upd p H _) (RR.next h1 h2 hln)⟩
inductive Gr (a:mF) (K:aB) (vs:List V) (H:Hp) (Q:VK) (E:XK):Prop
 | mk (p:_) (m:_) (r:_) (c:UInt8):vs=[.ref p,.str ⟨#[c.toNat]⟩]->RR a H p m r->(r.head?=some c->∀H',sN p H H'->RR a H' p m r.tail->Q (.bl true) H')->(¬r.head?=some c->Q (.bl false) H)->Gr a K vs H Q E
theorem qY (T:iM K mg a):La P w K mg base 2 a.cReader "meets" ["self","sign"] (Gr a K):=by
 refine Sm T.m_Reader_meets ["self","sign"] fun vs H Q E h=>?_;obtain⟨p,m,r,c,rfl,hp,k1,k2⟩:=h;refine⟨rfl,fun nd _ _ _ _ _ hr=>?_⟩;intro X;refine⟨_,aI (fE (dB ZF (mK (xC T) T.q_Reader hr ⟨rfl,rfl,rfl⟩ (pv 0)) (cY mR rfl T.n_ord rH (aA (pv 1) aD)) (dL _)) (aN (bH Sr)) cZ) (aI (NQ (pv 0) cB Jh) (aN (bH Sr))),?_⟩;obtain⟨dx,i,h1,h2,hln,rfl⟩:=id hp;refine⟨_,rfl,p,dx,_,rfl,h1,rfl,p,m,_,rfl,hp,_,rfl,_,rfl,rfl,?_,_,rfl,?_⟩
 ·cases m.2.drop i<;>rfl
 ·have key:(vV (m.2.drop i)=.int (c.toNat:Nat))↔(m.2.drop i).head?=some c:=by
   cases m.2.drop i with
   | nil=>exact⟨fun z=>(by have:=V.int.inj z;omega),fun z=>by cases z⟩
   | cons b r=>
    constructor
    ·intro z;have:(b.toNat:Int)=(c.toNat:Nat):=V.int.inj z;have:b=c:=lZ.mp (by omega);rw[this];rfl
    ·intro z;cases z;rfl
  refine nI (fun c1=>?_) (fun c1=>?_)
  ·refine k2 fun z=>?_;rw[decide_eq_true (show vV (m.2.drop i)=.int (((⟨#[c.toNat]⟩:Str).cps.getD 0 0:Nat))from key.mpr z)]at c1;cases c1
  ·have c2:vV (m.2.drop i)=.int (((⟨#[c.toNat]⟩:Str).cps.getD 0 0:Nat)):=by
    by_cases q:vV (m.2.drop i)=.int (((⟨#[c.toNat]⟩:Str).cps.getD 0 0:Nat))
    ·exact q
    ·rw[decide_eq_false q]at c1;exact absurd rfl c1
   exact⟨_,rfl,p,_,dx,_,_,rfl,h1,T.q_Reader,T.na_Reader_place,rfl,_,_,rfl,rfl,dx,_,h1,(by show 2 < 1000;decide),k1 (key.mp c2) _ (sN.upd p H _) (RR.next h1 h2 hln)⟩
theorem uQ (n:bW):(bT n).cps.toList=n.map iC:=by unfold bT;simp
theorem ZZ (n:bW) (i:Nat):(bT n).cps[i]?=(n[i]?).map iC:=by unfold bT;rw[List.getElem?_toArray,bX]
theorem JI (n:bW):(bT n).cps.size=n.length:=by unfold bT;simp
theorem kT (n:bW):(bT n).length=n.length:=JI n
theorem Cw {x y:Str} (h:x.cps.toList=y.cps.toList):x=y:=by cases x;cases y;simp only at h;congr 1;exact Array.toList_inj.mp h
theorem LD:∀n:Nat,TL.Jv n=(Vatwva.decimal n).map iC:=by
 intro n;induction n using wQ with
 | _ n ih=>
  by_cases h:n < 10
  ·rw[TL.Vc h,VM.nU h];show [48+n]=[(VM.DV n).toNat];rw[VM.pJ h]
  ·rw[TL.Oq (n:=n) (by lia),VM.rP h,ih (n / 10) (by lia),aW];show _=_++[(VM.DV (n % 10)).toNat];rw[VM.pJ (Ak n (by decide))]
theorem yK (n:Nat):kD (iQ ((n:Nat):Int))=bT (Vatwva.decimal n):=by apply Cw;rw[uQ,<-LD];exact TL.Ym n
theorem Pr:∀b:UInt8,cG b=true->CI b.toNat=Vatwva.isDigit b:=by
 have h:∀n:Fin 128,cG (sP n.val)=true->CI n.val=Vatwva.isDigit (sP n.val):=by decide+kernel
 intro b hb;have hl:b.toNat < 128:=by
  unfold cG at hb;rw[gQ]at hb;rcases hb with hb | hb
  ·have:=VM.vG.mp hb;lia
  ·have:=VM.kW.mp hb;lia
 have:=h ⟨b.toNat,hl⟩;have e:sP b.toNat=b:=by simp
 simp only[e]at this;exact this hb
theorem BG {w:bW} (h:w.all cG=true):IE (bT w)=(!w.isEmpty && w.all Vatwva.isDigit):=by
 unfold IE;have e1:decide ((bT w).length > 0)= !w.isEmpty:=by rw[kT];cases w<;>simp
 rw[e1];congr 1;have e2:(bT w).cps.all CI=(w.map iC).all CI:=by unfold bT;rw[List.all_toArray]
 rw[e2,List.all_map];rw[cA]at h;clear e1 e2;induction w with
 | nil=>rfl
 | cons b w ih=>
  rw[cR,cR];congr 1
  ·exact Pr b (h b aM)
  ·exact ih (fun x hx=>h x (aL _ hx))
theorem Jb (w:bW):NumText.digitsVal (w.map iC)=VM.val w:=by
 unfold VM.val;have:∀(w:bW) (k:Nat),(w.map iC).foldl (fun acc c=>acc * 10+(c - 48)) k=w.foldl (fun n b=>10 * n+(b.toNat - 48)) k:=by
  intro w;induction w with
  | nil=>intro k;rfl
  | cons b w ih=>
   intro k;rw[aP,mC,mC,ih];congr 1
   lia
 exact this w 0
theorem Rw {w:bW} (h:w.all Vatwva.isDigit=true) (h1:w≠[]) (h2:w.length<=10):intText? (bT w)=some ((VM.val w:Nat):Int):=by have e:=intText_digits (x:=bT w) (by rw[uQ];intro c hc;obtain⟨b,hb,rfl⟩:=aX.mp hc;exact VM.kW.mp (cA.mp h b hb)) (by rw[uQ];simpa using h1) (by rw[kT];lia);rw[uQ,Jb]at e;exact e
def Im (a:mF) (p:aQ) (H:Hp) (E:XK):Prop:=∀H',sN p H H'->E (.ref a.xUnreadable) none H'
theorem Im.on (h:Im a p H E) (s:sN p H H1):Im a p H1 E:=fun H' s'=>h H' (s.trans s')
def oF {α:Type} (a:mF) (p:aQ) (m:aQ×bW) (H:Hp) (o:Option (α×bW)) (At:Hp->V->α->Prop) (Q:VK) (E:XK):Prop:=match o with
 | some x=>∀H' y,sN p H H'->RR a H' p m x.2->At H' y x.1->Q y H'
 | none=>Im a p H E
theorem oF.on (h:oF a p m H o At Q E) (s:sN p H H1):oF a p m H1 o At Q E:=by
 cases o with
 | none=>exact Im.on h s
 | some x=>exact fun H' y b=>h H' y (s.trans b)
theorem oF.no (h:oF a p m H o At Q E) (e:o=none):Im a p H E:=by rw[e]at h;exact h
theorem oF.yes (h:oF a p m H o At Q E) (e:o=some (x,r)):∀H' y,sN p H H'->RR a H' p m r->At H' y x->Q y H':=by rw[e]at h;exact h
inductive ZQ (a:mF) (K:aB) (vs:List V) (H:Hp) (Q:VK) (E:XK):Prop
 | mk (p:_) (m:_) (r:_) (w:_):vs=[.ref p,.str (bT w)]->RR a H p m r->(∀r',jJ w r=some r'->∀H',sN p H H'->RR a H' p m r'->Q .non H')->(jJ w r=none->Im a p H E)->ZQ a K vs H Q E
theorem RR.at (h:RR a H p m r):∃dx fs,H p=some (.ins a.cReader dx fs)/\∀m:Str,m≠"text"->m≠"place"->fs.lookup m=none:=by obtain⟨dx,i,h1,_⟩:=h;refine⟨dx,_,h1,fun m m1 m2=>?_⟩;rw[gZ,beq_eq_false_iff_ne.mpr m1,gZ,beq_eq_false_iff_ne.mpr m2];rfl
theorem wM (T:iM K mg a):La P w K mg base 3 a.cReader "expect" ["self","signs"] (ZQ a K):=by
 refine Sm T.m_Reader_expect ["self","signs","sign"] fun vs H Q E h=>?_;obtain⟨p,m,r,w',rfl,hp,k1,k2⟩:=h;refine⟨rfl,fun nd _ _ _ _ _ hr=>?_⟩;intro X;refine⟨_,aN (pP (gK ⟨rfl,rfl,rfl⟩) rfl (Sx (pv 1)) (fC (i:=2) nd rfl (bP rfl)) (aN (fE (xF (mY (sI (qY T) T.q_Reader hr ⟨rfl,rfl,rfl⟩ (pv 0) (aA (pv 2) aD)))) (aN (iZ ⟨rfl,rfl,rfl⟩ rfl rfl T.x_Unreadable.1 T.x_Unreadable.2)) cZ))),?_⟩;refine⟨_,rfl,_,rfl,Uk (z:=bT w') (fun i σ H'=>sN p H H'/\∃st r',σ=[some (.ref p),some (.str (bT w')),st]/\RR a H' p m r'/\r=w'.take i++r') ⟨sN.refl p H,none,r,rfl,hp,rfl⟩ ?_ ?_⟩
 ·rintro i c σ H' hc ⟨hb,st,r',rfl,hr',e⟩;rw[ZZ]at hc;obtain⟨b,eb,rfl⟩:=aO.mp hc;obtain⟨dx,fs,h1,h2⟩:=hr'.at;refine⟨_,rfl,p,dx,fs,rfl,h1,h2 _ (by decide) (by decide),_,rfl,p,m,r',b,rfl,hr',fun hh H2 b2 h3=>⟨_,rfl,xR ⟨hb.trans b2,_,r'.tail,rfl,h3,?_⟩⟩,fun hh=>⟨_,rfl,tJ (k2 ?_ H' hb)⟩⟩
  ·rw[e,jC eb,VM.mU hh];simp
  ·cases q:jJ w' r with
   | none=>rfl
   | some r2=>
    exfalso;apply hh;have e2:=VM.iJ.mp q;rw[e]at e2;have e3:w'=w'.take i++w'.drop i:=(gE i w').symm;rw[e3,eY]at e2;have hil:=(aT.mp eb).1;have e4:r'=w'.drop i++r2:=by
     have:(w'.take i++w'.drop i).take i=w'.take i:=by rw[gE]
     rw[this]at e2;exact Dq e2
    rw[e4,bM hil,(aT.mp eb).2];rfl
 ·rintro σ H' ⟨hb,st,r',rfl,hr',e⟩;rw[JI,cN]at e;exact k1 r' (VM.iJ.mpr e) H' hb hr'
noncomputable def nD (r:bW):bW:=match r with
 | b::_=>if cG b=true then [b]else []
 | []=>[]
theorem C2:(("a":Str).cps.getD 0 0:Nat)=97:=by decide
theorem C3:(("z":Str).cps.getD 0 0:Nat)=122:=by decide
theorem B9:(("0":Str).cps.getD 0 0:Nat)=48:=by decide
theorem C0:(("9":Str).cps.getD 0 0:Nat)=57:=by decide
theorem Tk:∀n:Fin 26,("abcdefghijklmnopqrstuvwxyz":Str).cps.toList[n.val]?=some (97+n.val):=by decide
theorem Rh:∀n:Fin 10,("0123456789":Str).cps.toList[n.val]?=some (48+n.val):=by decide
theorem AF:bT []=("":Str):=by decide
theorem Pj (b:UInt8):bT [b]=⟨#[b.toNat]⟩:=rfl
inductive MK (vs:List V) (H:Hp) (Q:VK) (E:XK):Prop
 | mk (r:_):vs=[vV r]->Q (.str (bT (nD r))) H->MK vs H Q E
theorem RY (r:bW):∃i:Int,vV r=.int i/\((∃b r',r=b::r'/\i=(b.toNat:Nat))\/(r=[]/\i= -1)):=by
 cases r with
 | nil=>exact⟨_,rfl,.inr ⟨rfl,rfl⟩⟩
 | cons b r=>exact⟨_,rfl,.inl ⟨b,r,rfl,rfl⟩⟩
theorem LM (T:iM K mg a):gY P w K mg base 1 "word_sign" ["byte"] MK:=by
 refine kL T.f_word_sign ["byte"] fun vs H Q E h=>?_
 obtain⟨r,rfl,k⟩:=h
 refine⟨rfl,fun nd _ _ _ _ _ hr=>?_⟩
 intro X
 obtain⟨u1,hm1,ru1⟩:=T.c_SMALL_LETTERS
 obtain⟨u2,hm2,ru2⟩:=T.c_DIGITS
 refine⟨_,aI (fE (PW.pt (VD (dB OS (cY mR rfl T.n_ord rH (aA eB aD)) (pv 0) (dL _)) (LQ (dB OS (pv 0) (cY mR rfl T.n_ord rH (aA eB aD)) (dL _)))))
   (aN (bH (fN Jn (dN rfl hm1 ru1) (kE Sn (pv 0) (cY mR rfl T.n_ord rH (aA eB aD))) (fun _ _=>rfl)))) cZ)
  (aI (fE (PW.pt (VD (dB OS (cY mR rfl T.n_ord rH (aA eB aD)) (pv 0) (dL _)) (LQ (dB OS (pv 0) (cY mR rfl T.n_ord rH (aA eB aD)) (dL _)))))
   (aN (bH (fN Jn (dN rfl hm2 ru2) (kE Sn (pv 0) (cY mR rfl T.n_ord rH (aA eB aD))) (fun _ _=>rfl)))) cZ)
  (aN (bH eB))),?_⟩
 obtain⟨i,ei,hi⟩:=RY r
 rw[ei]
 have small:97<=i->i<=122->Q (.str ⟨#[i.toNat]⟩) H:=fun h1 h2=>by
  rcases hi with⟨b,r',rfl,rfl⟩ | ⟨rfl,rfl⟩
  ·have hw:cG b=true:=by
    unfold cG
    rw[VM.vG.mpr (by omega)];rfl
   have e:nD (b::r')=[b]:=if_pos hw
   rw[e]at k
   exact k
  ·omega
 have dig:48<=i->i<=57->Q (.str ⟨#[i.toNat]⟩) H:=fun h1 h2=>by
  rcases hi with⟨b,r',rfl,rfl⟩ | ⟨rfl,rfl⟩
  ·have hw:cG b=true:=by
    unfold cG
    rw[VM.kW.mpr (by omega),Bool.or_true]
   have e:nD (b::r')=[b]:=if_pos hw
   rw[e]at k
   exact k
  ·omega
 have none:¬(97<=i/\i<=122)->¬(48<=i/\i<=57)->Q (.str "") H:=fun h1 h2=>by
  have e:nD r=[]:=by
   rcases hi with⟨b,r',rfl,rfl⟩ | ⟨rfl,rfl⟩
   ·refine if_neg fun hw=>?_
    unfold cG at hw
    rw[gQ]at hw
    rcases hw with hw | hw
    ·have:=VM.vG.mp hw;omega
    ·have:=VM.kW.mp hw;omega
   ·rfl
  rw[e,AF]at k
  exact k
 have get1:97<=i->i<=122->Ue ("abcdefghijklmnopqrstuvwxyz":Str).cps.toList (i - 97)=some i.toNat:=fun h1 h2=>by
  have e:i - 97=((i.toNat - 97:Nat):Int):=by omega
  rw[e]
  refine gC ?_
  have:=Tk ⟨i.toNat - 97,by omega⟩
  rw[this]
  congr 1
  show 97+(i.toNat - 97)=i.toNat
  omega
 have get2:48<=i->i<=57->Ue ("0123456789":Str).cps.toList (i - 48)=some i.toNat:=fun h1 h2=>by
  have e:i - 48=((i.toNat - 48:Nat):Int):=by omega
  rw[e]
  refine gC ?_
  have:=Rh ⟨i.toNat - 48,by omega⟩
  rw[this]
  congr 1
  show 48+(i.toNat - 48)=i.toNat
  omega
 have o97:(((("a":Str).cps.getD 0 0:Nat)):Int)=97:=by rw[C2];rfl
 have o122:(((("z":Str).cps.getD 0 0:Nat)):Int)=122:=by rw[C3];rfl
 have o48:(((("0":Str).cps.getD 0 0:Nat)):Int)=48:=by rw[B9];rfl
 have o57:(((("9":Str).cps.getD 0 0:Nat)):Int)=57:=by rw[C0];rfl
 refine⟨_,rfl,rfl,_,rfl,_,_,rfl,rfl,_,rfl,nI (fun c=>⟨_,rfl,_,rfl,rfl,_,_,rfl,rfl,_,rfl,nI (fun d=>?_) (fun d=>?_)⟩) (fun c=>xR ?_)⟩
 ·have c:=of_decide_eq_true c
  have d:=of_decide_eq_true d
  rw[o97]at c
  rw[o122]at d
  refine⟨_,rfl,_,rfl,rfl,_,_,rfl,rfl,_,_,i.toNat,rfl,rfl,(by show 26<=aU;decide),?_,small c d⟩
  rw[o97]
  exact get1 c d
 all_goals
  have hn:¬(97<=i/\i<=122):=by
   rintro⟨q1,q2⟩
   first
    | exact d (decide_eq_true (by rw[o122];exact q2))
    | exact c (decide_eq_true (by rw[o97];exact q1))
  refine⟨_,rfl,rfl,_,rfl,_,_,rfl,rfl,_,rfl,nI (fun c=>⟨_,rfl,_,rfl,rfl,_,_,rfl,rfl,_,rfl,nI (fun d=>?_) (fun d=>?_)⟩) (fun c=>xR ?_)⟩
  ·have c:=of_decide_eq_true c
   have d:=of_decide_eq_true d
   rw[o48]at c
   rw[o57]at d
   refine⟨_,rfl,_,rfl,rfl,_,_,rfl,rfl,_,_,i.toNat,rfl,rfl,(by show 10<=aU;decide),?_,dig c d⟩
   rw[o48]
   exact get2 c d
  ·exact none hn fun q=>d (decide_eq_true (by rw[o57];exact q.2))
  ·exact none hn fun q=>c (decide_eq_true (by rw[o48];exact q.1))
noncomputable def NV (u:bW):List V:=u.map fun b=>V.str (bT [b])
theorem tF (s:sN p H H') (h:H l=none):sN p H (upd H' l o):=fun b u n e=>by rw[bL (dM e h)];exact s b u n e
theorem Jo (u:bW):Txt.join ("":Str) (u.map fun b=>bT [b])=bT u:=by
 rw[TL.Ur];apply Cw;have e:(Mz ("":Str) (u.map fun b=>bT [b])).cps.toList=TL.TK [] ((u.map fun b=>bT [b]).map TL.tl):=TL.Mp _ _;rw[e,uQ,cQ];have key:∀u:bW,TL.TK [] (u.map (TL.tl∘fun b=>bT [b]))=u.map iC:=by
  intro u;induction u with
  | nil=>rfl
  | cons b u ih=>
   cases u with
   | nil=>rfl
   | cons c u=>show [b.toNat]++([]++TL.TK [] (_::_))=_;rw[gR];have ih:TL.TK [] ((TL.tl∘fun b=>bT [b]) c::u.map (TL.tl∘fun b=>bT [b]))=(c::u).map iC:=ih;rw[ih];rfl
 exact key u
theorem Td (hu:u.all cG=true) (hr:nD r'=[]):jY (u++r')=u/\kG (u++r')=r':=by
 refine VM.vN hu fun b hb=>?_;cases r' with
 | nil=>cases hb
 | cons c r'=>
  cases hb;by_cases q:cG b=true
  ·have hr:(if cG b=true then [b]else [])=[]:=hr;rw[if_pos q]at hr;cases hr
  ·exact iD.mpr q
theorem HZ (h:nD r≠[]):∃b r',r=b::r'/\cG b=true/\nD r=[b]:=by
 cases r with
 | nil=>exact absurd rfl h
 | cons b r=>
  by_cases q:cG b=true
  ·exact⟨b,r,rfl,q,if_pos q⟩
  ·exact absurd (if_neg q) h
inductive LZ (a:mF) (K:aB) (vs:List V) (H:Hp) (Q:VK) (E:XK):Prop
 | mk (p:_) (m:_) (r:_):vs=[.ref p]->RR a H p m r->(∀H',sN p H H'->RR a H' p m (kG r)->Q (.str (bT (jY r))) H')->LZ a K vs H Q E
theorem tL (T:iM K mg a):La P w K mg base 2 a.cReader "pass_word" ["self"] (LZ a K):=by
 refine Sm T.m_Reader_pass_word ["self","signs","sign"] fun vs H Q E h=>?_;obtain⟨p,m,r,rfl,hp,k⟩:=h;refine⟨rfl,fun nd _ _ _ _ _ hr=>?_⟩;intro X;refine⟨_,aI (cM (i:=1) nd rfl (bP rfl) (eL aD)) (aI (cM (i:=2) nd rfl (bP rfl) (bC (LM T) hr ⟨rfl,rfl,rfl⟩ (aA (mK (xC T) T.q_Reader hr ⟨rfl,rfl,rfl⟩ (pv 0)) aD))) (aI (AD (gK ⟨rfl,rfl,rfl⟩) (dB ZF (pv 2) eB (dL _)) (aI (dO (nM bG bR bS gI (pv 1) (aA (pv 2) aD))) (aI (NQ (pv 0) cB Jh) (aN (cM (i:=2) nd rfl (bP rfl) (bC (LM T) hr ⟨rfl,rfl,rfl⟩ (aA (mK (xC T) T.q_Reader hr ⟨rfl,rfl,rfl⟩ (pv 0)) aD))))))) (aN (bH (nM sW PySem.F.slot_str_join PySem.F.type_str_join Vb eB (aA (pv 1) aD)))))),?_⟩;refine⟨aY _,fun l hl=>?_⟩;have s1:bA H (upd H l (.lst [])):=bA.upd hl;have hp1:=hp.same s1;obtain⟨dx,fs,h1,h2⟩:=hp1.at;refine⟨_,rfl,p,dx,fs,rfl,h1,h2 _ (by decide) (by decide),p,m,r,rfl,hp1,r,rfl,?_⟩;refine⟨fun n σ H'=>∃u r',σ=[some (.ref p),some (.ref l),some (.str (bT (nD r')))]/\H' l=some (.lst (NV u))/\RR a H' p m r'/\sN p H H'/\r=u++r'/\u.all cG=true/\n=r'.length,⟨r.length,[],r,rfl,aH,hp1,bA.but s1,rfl,rfl,rfl⟩,?_⟩;rintro n σ H' ⟨u,r',rfl,hl',hr',hb,e,hu,rfl⟩;have hlen:u.length<=6000:=by have:=hp.len;rw[e,aC]at this;omega
 refine⟨_,rfl,rfl,_,rfl,nI (fun c=>?_) (fun c=>?_)⟩
 ·have c:nD r'≠[]:=fun z=>by rw[z,AF]at c;rw[decide_eq_true rfl]at c;cases c
  obtain⟨b,r2,rfl,hwb,ewh⟩:=HZ c;refine⟨fun σ' H''=>∃u r',σ'=[some (.ref p),some (.ref l),some (.str (bT (nD r')))]/\H'' l=some (.lst (NV u))/\RR a H'' p m r'/\sN p H H''/\r=u++r'/\u.all cG=true/\r'.length < (b::r2).length,fun σ' H'' ⟨u,r',q1,q2,q3,q4,q5,q6,q7⟩=>⟨_,q7,u,r',q1,q2,q3,q4,q5,q6,rfl⟩,?_⟩;refine⟨_,rfl,.inl ⟨rfl,_,hJ.of hl'⟩,_,rfl,l,_,_,rfl,rfl,hl',small (by rw[show(NV u).length=u.length from aJ _];omega),?_⟩;have hr2:RR a (upd H' l (.lst (NV u++[.str (bT (nD (b::r2)))]))) p m (b::r2):=hr'.upd hp hl;obtain⟨dx2,i,g1,g2,g3,g4⟩:=id hr2;refine⟨_,rfl,p,_,dx2,_,_,rfl,g1,T.q_Reader,T.na_Reader_place,rfl,_,_,rfl,rfl,dx2,_,g1,(by show 2 < 1000;decide),?_⟩;have hr3:=RR.next g1 g2 g3;rw[g4]at hr3;obtain⟨dx3,fs3,f1,f2⟩:=hr3.at;have lp:l≠p:=fun z=>by obtain⟨_,_,q,_⟩:=hp;rw[z,q]at hl;cases hl
  refine⟨_,rfl,p,dx3,fs3,rfl,f1,f2 _ (by decide) (by decide),p,m,r2,rfl,hr3,r2,rfl,u++[b],r2,rfl,?_,hr3,(tF hb hl).trans (sN.upd p _ _),by rw[e];simp,by rw[WD,hu];simp[hwb],lI _⟩;show upd (upd H' l _) p _ l=_;rw[bL lp,aH,ewh];show some (HO.lst (NV u++[.str (bT [b])]))=_;unfold NV;rw[aW];rfl
 ·have c:nD r'=[]:=by
   by_cases q:nD r'=[]
   ·exact q
   ·exfalso;apply c;obtain⟨b,r2,rfl,hwb,ewh⟩:=HZ q;rw[ewh,decide_eq_false (fun z=>?_)]
    ·rfl
    ·have z:=V.str.inj z;rw[<-AF]at z;have:=uR z;cases this
  obtain⟨e1,e2⟩:=Td hu c;rw[<-e]at e1 e2;refine⟨rfl,_,rfl,_,l,u.map (fun b=>bT [b]),rfl,rfl,.inl (hJ.of ?_),?_,?_⟩
  ·rw[cQ];exact hl'
  ·rw[cQ,aJ];have:(u.map ((fun x:Str=>x.length)∘fun b=>bT [b])).sum=u.length:=by
    clear e e1 e2 hlen hu hl';induction u with
    | nil=>rfl
    | cons b u ih=>rw[aP,dW,ih,aK];show 1+u.length=_;omega
   rw[this];show u.length+u.length * 0<=_;omega
  ·rw[Jo];have:=k H' hb (by rw[e2];exact hr');rw[e1]at this;exact this
theorem Fi (h:(b::t).all cG=true):Vatwva.isName (b::t)=true↔Vatwva.isDigit b=false/\(b::t).length<=10:=by
 have hb:cG b=true:=by rw[cR,aE]at h;exact h.1
 have hs:Vatwva.isSmall b=true↔Vatwva.isDigit b=false:=by
  unfold cG at hb;rw[gQ]at hb;constructor
  ·intro q;refine iD.mpr fun c=>?_;have:=VM.vG.mp q;have:=VM.kW.mp c
   lia
  ·intro q;rcases hb with hb | hb
   ·exact hb
   ·rw[q]at hb;cases hb
 have h:(b::t).all (fun b=>Vatwva.isSmall b || Vatwva.isDigit b)=true:=h;unfold Vatwva.isName;rw[h,lE,aE,decide_eq_true_iff,<-hs];exact PZ
inductive VL (a:mF) (vs:List V) (H:Hp) (Q:VK) (E:XK):Prop
 | mk (t:bW):vs=[.str (bT t)]->t.all cG=true->t.length<=6000->(Vatwva.isName t=true->Q (.str (bT t)) H)->(¬Vatwva.isName t=true->E (.ref a.xUnreadable) none H)->VL a vs H Q E
theorem UO (T:iM K mg a):gY P w K mg base 1 "as_name" ["word"] (VL a):=by
 refine kL T.f_as_name ["word"] fun vs H Q E h=>?_
 obtain⟨t,rfl,ht,hl,k1,k2⟩:=h
 refine⟨rfl,fun nd _ _ _ _ _ hr=>?_⟩
 intro X
 obtain⟨u,hm,ru⟩:=T.c_MOST_NAME_BYTES
 refine⟨_,aI (fE (PW.pt (ZL (dB qK (pv 0) eB (dL _)) (ZL (mY (VA sW yO yP JA (fN Jn (pv 0) cB (fun _ _=>rfl))))
   (VE (dB CN (cY AY rfl T.n_len cE (aA (pv 0) aD)) (dN rfl hm ru) (dL _)))))) (aN (iZ ⟨rfl,rfl,rfl⟩ rfl rfl T.x_Unreadable.1 T.x_Unreadable.2)) cZ)
  (aN (bH (pv 0))),?_⟩
 refine⟨_,rfl,rfl,_,rfl,?_⟩
 cases t with
 | nil=>exact pL (decide_eq_true (by rw[AF])) (tJ (k2 (by decide)))
 | cons b t=>
  refine mV (decide_eq_false fun z=>?_) ?_
  ·have z:=V.str.inj z
   rw[<-AF]at z
   have:=uR z
   cases this
  have hni:=Fi ht
  have hlen:(bT (b::t)).length<=aU:=small (by rw[kT];lia)
  have hdig:IE (⟨#[b.toNat]⟩:Str)=Vatwva.isDigit b:=by
   have:=BG (w:=[b]) (by rw[cR]at ht ⊢;rw[aE]at ht;simp[ht.1])
   rw[Pj]at this
   rw[this];simp
  refine⟨_,rfl,_,_,b.toNat,rfl,rfl,hlen,gC (j:=0) (by rw[uQ];rfl),rfl,_,rfl,rfl,trivial,_,rfl,?_⟩
  rw[hdig]
  refine nI (fun c=>tJ (k2 fun z=>?_)) (fun c=>⟨_,rfl,_,rfl,hlen,_,_,rfl,rfl,_,rfl,nI (fun d=>k2 fun z=>?_) (fun d=>⟨_,rfl,k1 (hni.mpr ⟨iD.mpr c,?_⟩)⟩)⟩)
  ·rw[(hni.mp z).1]at c;cases c
  ·have d:(10:Int) < ((bT (b::t)).length:Nat):=of_decide_eq_true d
   have:=(hni.mp z).2
   rw[kT]at d
   lia
  ·have d:¬(10:Int) < ((bT (b::t)).length:Nat):=fun z=>d (decide_eq_true z)
   rw[kT]at d
   lia
theorem FU (h:n<=1000000000):n.log2 < 1920:=by
 by_cases h0:n=0
 ·subst h0;decide
 ·exact(Nat.log2_lt h0).mpr (bZ (show n < 2 ^ 30 by lia) (Nat.pow_le_pow_right (by decide) (by decide)))
theorem TX:(kD (iQ ((1000000000:Int)))).length=10:=by decide
inductive PJ (a:mF) (vs:List V) (H:Hp) (Q:VK) (E:XK):Prop
 | mk (t:bW):vs=[.str (bT t)]->t.all cG=true->t.length<=6000->(∀n,Vatwva.naturalOf t=some n->Q (.int (n:Nat)) H)->(Vatwva.naturalOf t=none->E (.ref a.xUnreadable) none H)->PJ a vs H Q E
theorem OP (T:iM K mg a):gY P w K mg base 1 "as_count" ["word"] (PJ a):=by
 refine kL T.f_as_count ["word","count"] fun vs H Q E h=>?_;obtain⟨t,rfl,ht,hl,k1,k2⟩:=h;refine⟨rfl,fun nd _ _ _ _ _ hr=>?_⟩;intro X;obtain⟨u,hm,ru⟩:=T.c_MOST_NUMBER;refine⟨_,aI (fE (PW.pt (ZL (xF (mY (VA sW yO yP JA (pv 0)))) (VE (dB CN (cY AY rfl T.n_len cE (aA (pv 0) aD)) (cY AY rfl T.n_len cE (aA (lO tH rfl T.n_str WJ (aA (dN rfl hm ru) aD)) aD)) (dL _))))) (aN (iZ ⟨rfl,rfl,rfl⟩ rfl rfl T.x_Unreadable.1 T.x_Unreadable.2)) cZ) (aI (cM (i:=1) nd rfl (bP rfl) (lO Az rfl T.n_int boot_int (aA (pv 0) aD))) (aI (fE (PW.pt (ZL (dB CN (pv 1) (dN rfl hm ru) (dL _)) (VE (dB ZF (pv 0) (lO tH rfl T.n_str WJ (aA (pv 1) aD)) (dL _))))) (aN (iZ ⟨rfl,rfl,rfl⟩ rfl rfl T.x_Unreadable.1 T.x_Unreadable.2)) cZ) (aN (bH (pv 1))))),?_⟩;have hlen:(bT t).length<=aU:=small (by rw[kT];lia);have hno:¬(!t.isEmpty && t.all Vatwva.isDigit)=true->Vatwva.naturalOf t=none:=fun c=>by unfold Vatwva.naturalOf;rw[if_neg fun z=>c ?_];simp only[aE]at z ⊢;exact⟨z.1,z.2.2.1⟩
 refine⟨_,rfl,rfl,_,rfl,rfl,trivial,_,rfl,?_⟩;rw[BG ht];refine nI (fun c=>tJ (k2 (hno fun z=>by rw[z]at c;cases c))) (fun c=>?_);have hd:(!t.isEmpty && t.all Vatwva.isDigit)=true:=by
  cases q:(!t.isEmpty && t.all Vatwva.isDigit)with
  | true=>rfl
  | false=>rw[q]at c;exact absurd rfl c
 rw[aE]at hd;have hne:t≠[]:=fun z=>by rw[z]at hd;cases hd.1
 refine⟨_,rfl,_,rfl,hlen,_,rfl,(by decide),_,rfl,(by rw[TX];decide),_,_,rfl,rfl,_,rfl,nI (fun d=>k2 ?_) (fun d=>?_)⟩
 ·have d:(((kD (iQ ((1000000000:Int)))).length:Nat):Int) < ((bT t).length:Nat):=of_decide_eq_true d;rw[TX,kT]at d;cases q:Vatwva.naturalOf t with
  | none=>rfl
  | some n=>
   obtain⟨h1,h2⟩:=VM.mI.mp q;have:=VM.mT 9 n (gS h1 (by decide));rw[h2]at this
   lia
 ·have d:¬(((kD (iQ ((1000000000:Int)))).length:Nat):Int) < ((bT t).length:Nat):=fun z=>d (decide_eq_true z);rw[TX,kT]at d;have hl10:t.length<=10:=by lia
  have hv:=Rw hd.2 hne hl10;refine⟨_,rfl,_,_,rfl,hv,by rw[kT];lia,?_⟩;refine⟨_,rfl,_,_,rfl,rfl,_,rfl,nI (fun e=>tJ (k2 ?_)) (fun e=>?_)⟩
  ·have e:(1000000000:Int) < ((VM.val t:Nat):Int):=of_decide_eq_true e;cases q:Vatwva.naturalOf t with
   | none=>rfl
   | some n=>
    obtain⟨h1,h2⟩:=VM.mI.mp q;have:VM.val t=n:=by rw[<-h2,VM.FA]
    have h1:n<=1000000000:=h1
    lia
  ·have e:¬(1000000000:Int) < ((VM.val t:Nat):Int):=fun z=>e (decide_eq_true z);have hle:VM.val t<=1000000000:=by lia
   refine⟨_,rfl,_,rfl,_,rfl,?_,rfl,_,rfl,?_⟩
   ·show((VM.val t:Nat):Int).natAbs.log2 < 1920;rw[Int.natAbs_natCast];exact FU hle
   ·rw[yK];refine nI (fun g=>k2 ?_) (fun g=>?_)
    ·cases q:Vatwva.naturalOf t with
     | none=>rfl
     | some n=>
      obtain⟨h1,h2⟩:=VM.mI.mp q;have:VM.val t=n:=by rw[<-h2,VM.FA]
      rw[this,h2,decide_eq_true rfl]at g;cases g
    ·have g:bT t=bT (Vatwva.decimal (VM.val t)):=by
      by_cases q:V.str (bT t)=V.str (bT (Vatwva.decimal (VM.val t)))
      ·exact V.str.inj q
      ·rw[decide_eq_false q]at g;exact absurd rfl g
     exact⟨_,rfl,k1 _ (VM.mI.mpr ⟨hle,(uR g).symm⟩)⟩
theorem BS (r:bW):(jY r).all cG=true:=by
 unfold jY;rw[cA];intro b hb;induction r with
 | nil=>cases hb
 | cons c r ih=>
  rw[JO]at hb;split at hb
  ·rename_i hc
   rcases aS.mp hb with rfl | hb
   ·exact hc
   ·exact ih hb
  ·cases hb
theorem BU (r:bW):(jY r).length<=r.length:=by
 conv=>rhs;rw[<-VM.uT r,aC]
 lia
noncomputable def atName:Hp->V->Name->Prop:=fun _ y n=>y=.str (bT n)
noncomputable def Zk:Hp->V->Nat->Prop:=fun _ y n=>y=.int (n:Nat)
noncomputable def Zj:Hp->V->Int->Prop:=fun _ y z=>y=.int z
inductive MC (a:mF) (vs:List V) (H:Hp) (Q:VK) (E:XK):Prop
 | mk (p:_) (m:_) (r:_):vs=[.ref p]->RR a H p m r->oF a p m H (uO r) atName Q E->MC a vs H Q E
theorem LK (T:iM K mg a):gY P w K mg base 3 "read_name" ["reader"] (MC a):=by
 refine kL T.f_read_name ["reader"] fun vs H Q E h=>?_;obtain⟨p,m,r,rfl,hp,k⟩:=h;refine⟨rfl,fun nd _ _ _ _ _ hr=>?_⟩;intro X;refine⟨_,aN (bH (bC (UO T) hr.m ⟨rfl,rfl,rfl⟩ (aA (mK (tL T) T.q_Reader hr ⟨rfl,rfl,rfl⟩ (pv 0)) aD))),?_⟩;obtain⟨dx,fs,h1,h2⟩:=hp.at;refine⟨_,rfl,p,dx,fs,rfl,h1,h2 _ (by decide) (by decide),p,m,r,rfl,hp,fun H' hb hr'=>⟨jY r,rfl,BS r,bI (BU r) hp.len,fun hn=>?_,fun hn=>?_⟩⟩
 ·exact k.yes (show uO r=some (jY r,kG r)from if_pos hn) H' _ hb hr' rfl
 ·exact k.no (if_neg hn) H' hb
inductive HQ (a:mF) (vs:List V) (H:Hp) (Q:VK) (E:XK):Prop
 | mk (p:_) (m:_) (r:_):vs=[.ref p]->RR a H p m r->oF a p m H (kR r) Zk Q E->HQ a vs H Q E
theorem yZ (T:iM K mg a):gY P w K mg base 3 "read_count" ["reader"] (HQ a):=by
 refine kL T.f_read_count ["reader"] fun vs H Q E h=>?_;obtain⟨p,m,r,rfl,hp,k⟩:=h;refine⟨rfl,fun nd _ _ _ _ _ hr=>?_⟩;intro X;refine⟨_,aN (bH (bC (OP T) hr.m ⟨rfl,rfl,rfl⟩ (aA (mK (tL T) T.q_Reader hr ⟨rfl,rfl,rfl⟩ (pv 0)) aD))),?_⟩;obtain⟨dx,fs,h1,h2⟩:=hp.at;refine⟨_,rfl,p,dx,fs,rfl,h1,h2 _ (by decide) (by decide),p,m,r,rfl,hp,fun H' hb hr'=>⟨jY r,rfl,BS r,bI (BU r) hp.len,fun n hn=>?_,fun hn=>?_⟩⟩
 ·exact k.yes (x:=n) (r:=kG r) (by unfold kR;rw[hn];rfl) H' _ hb hr' rfl
 ·exact k.no (by unfold kR;rw[hn];rfl) H' hb
inductive ES (a:mF) (vs:List V) (H:Hp) (Q:VK) (E:XK):Prop
 | mk (p:_) (m:_) (r:_):vs=[.ref p]->RR a H p m r->oF a p m H (LR r) Zj Q E->ES a vs H Q E
theorem UW (T:iM K mg a):gY P w K mg base 4 "read_number" ["reader"] (ES a):=by
 refine kL T.f_read_number ["reader","count"] fun vs H Q E h=>?_;obtain⟨p,m,r,rfl,hp,k⟩:=h;refine⟨rfl,fun nd _ _ _ _ _ hr=>?_⟩;intro X;refine⟨_,aI (fE (xF (mY (sI (qY T) T.q_Reader hr.m ⟨rfl,rfl,rfl⟩ (pv 0) (aA eB aD)))) (aN (bH (bC (yZ T) hr ⟨rfl,rfl,rfl⟩ (aA (pv 0) aD)))) cZ) (aI (cM (i:=1) nd rfl (bP rfl) (bC (yZ T) hr ⟨rfl,rfl,rfl⟩ (aA (pv 0) aD))) (aI (fE (dB qK (pv 1) cB (dL _)) (aN (iZ ⟨rfl,rfl,rfl⟩ rfl rfl T.x_Unreadable.1 T.x_Unreadable.2)) cZ) (aN (bH (OU EY (pv 1)))))),?_⟩;obtain⟨dx,fs,h1,h2⟩:=hp.at;refine⟨_,rfl,p,dx,fs,rfl,h1,h2 _ (by decide) (by decide),p,m,r,45,rfl,hp,fun hh H1 b1 r1=>⟨_,rfl,xR ?_⟩,fun hh=>⟨_,rfl,tJ ?_⟩⟩
 ·have e:LR r=(kR r.tail).bind fun x=>if x.1=0 then none else some (-(x.1:Int),x.2):=if_pos hh
  refine⟨_,rfl,p,m,r.tail,rfl,r1,?_⟩;cases q:kR r.tail with
  | none=>exact(k.no (by rw[e,q];rfl)).on b1
  | some x=>
   intro H2 y b2 r2 hy;have hy:y=.int (x.1:Nat):=hy;subst hy;have e:LR r=if x.1=0 then none else some (-(x.1:Int),x.2):=by rw[e,q];rfl
   refine⟨_,rfl,rfl,_,rfl,nI (fun c=>?_) (fun c=>?_)⟩
   ·have c:(x.1:Int)=0:=V.int.inj (of_decide_eq_true c);exact k.no (by rw[e,if_pos (by lia)]) H2 (b1.trans b2)
   ·have c:¬x.1=0:=fun z=>c (decide_eq_true (by rw[z];rfl));refine⟨_,rfl,_,rfl,?_⟩;exact k.yes (x:= -(x.1:Int)) (r:=x.2) (by rw[e,if_neg c]) H2 _ (b1.trans b2) r2 rfl
 ·have e:LR r=(kR r).map fun x=>((x.1:Int),x.2):=if_neg hh;refine⟨_,rfl,p,m,r,rfl,hp,?_⟩;cases q:kR r with
  | none=>exact k.no (by rw[e,q];rfl)
  | some x=>intro H2 y b2 r2 hy;exact k.yes (x:=(x.1:Int)) (r:=x.2) (by rw[e,q];rfl) H2 y b2 r2 hy
noncomputable def zB (r:bW):Option (UInt8×bW):=if r.head?=some 92 then (if r.tail.head?=some 34\/r.tail.head?=some 92 then (r.tail.head?).map fun b=>(b,r.tail.tail)else none)else (r.head?).bind fun b=>if Vatwva.isSign b=true then some (b,r.tail)else none
theorem XO (r:bW):Vatwva.unquoted r=if r.head?=some 34 then some ([],r.tail)else (zB r).bind fun x=>(Vatwva.unquoted x.2).map fun y=>(x.1::y.1,y.2):=by
 cases r with
 | nil=>rw[Vatwva.unquoted];rfl
 | cons b r=>
  by_cases h34:b=34
  ·subst h34;rw[Vatwva.unquoted];exact(if_pos rfl).symm
  ·have n34:¬(b::r).head?=some 34:=fun z=>h34 (by simpa using z);rw[if_neg n34];unfold zB;by_cases h92:b=92
   ·subst h92;rw[if_pos (show(92::r:bW).head?=some 92 from rfl)];cases r with
    | nil=>
     have e:Vatwva.unquoted [92]=if (Vatwva.isSign 92 && (92:UInt8) != 92)=true then (Vatwva.unquoted []).map fun x=>(92::x.1,x.2)else none:=by
      rw[Vatwva.unquoted]
      ·intro q;cases q
      ·intro b' r' _ q;cases q
     rw[e];rfl
    | cons c r=>
     rw[Vatwva.unquoted];show _=(if (c::r:bW).head?=some 34\/(c::r:bW).head?=some 92 then some (c,r)else none).bind _;by_cases hc:c=34\/c=92
     ·rw[if_pos hc,if_pos (by simpa using hc)];rfl
     ·rw[if_neg hc,if_neg (by simpa using hc)];rfl
   ·have n92:¬(b::r).head?=some 92:=fun z=>h92 (by simpa using z);rw[if_neg n92];have e:Vatwva.unquoted (b::r)=if (Vatwva.isSign b && b != 92)=true then (Vatwva.unquoted r).map fun x=>(b::x.1,x.2)else none:=by
     rw[Vatwva.unquoted]
     ·intro q;exact h34 q
     ·intro b' r' q _;exact h92 q
    rw[e];show _=(if Vatwva.isSign b=true then some (b,r)else none).bind _;by_cases hs:Vatwva.isSign b=true
    ·rw[if_pos hs,if_pos (by rw[hs];simpa using h92)];rfl
    ·rw[if_neg hs,if_neg (by simp[hs])];rfl
theorem Ka (h:zB r=some x):x.2.length < r.length:=by
 unfold zB at h;cases r with
 | nil=>
  split at h
  ·rename_i q;cases q
  ·cases h
 | cons b r=>
  split at h
  ·split at h
   ·obtain⟨c,hc,rfl⟩:=aO.mp h;show r.tail.length < _;rw[QT,aK];omega
   ·cases h
  ·obtain⟨c,hc,h⟩:=bF.mp h;split at h
   ·cases h;exact lI _
   ·cases h
theorem KD (r:bW) (c:UInt8):(vV r=.int (c.toNat:Nat))↔r.head?=some c:=by
 cases r with
 | nil=>exact⟨fun z=>(by have:=V.int.inj z;omega),fun z=>by cases z⟩
 | cons b r=>
  constructor
  ·intro z;have:(b.toNat:Int)=(c.toNat:Nat):=V.int.inj z;have:b=c:=lZ.mp (by omega);rw[this];rfl
  ·intro z;cases z;rfl
theorem Fv:(("\"":Str).cps.getD 0 0:Nat)=(34:UInt8).toNat:=by decide
theorem ZG:(("\\":Str).cps.getD 0 0:Nat)=(92:UInt8).toNat:=by decide
noncomputable def Xh:Hp->V->UInt8->Prop:=fun _ y b=>y=.int (b.toNat:Nat)
inductive wA (a:mF) (vs:List V) (H:Hp) (Q:VK) (E:XK):Prop
 | mk (p:_) (m:_) (r:_):vs=[.ref p]->RR a H p m r->oF a p m H (zB r) Xh Q E->wA a vs H Q E
theorem JF (r:bW) (i:Int):Yc (vV r) (.int i)=true:=by cases r<;>rfl
theorem RD {r:bW} {c:UInt8} {i:Int} (h:i=(c.toNat:Nat)):(!decide (vV r=.int i))=true↔¬r.head?=some c:=by subst h;rw[eX,decide_eq_false_iff_not,KD]
theorem GK (T:iM K mg a):gY P w K mg base 3 "read_marked_sign" ["reader"] (wA a):=by
 refine kL T.f_read_marked_sign ["reader","byte"] fun vs H Q E h=>?_;obtain⟨p,m,r,rfl,hp,k⟩:=h;refine⟨rfl,fun nd _ _ _ _ _ hr=>?_⟩;intro X;obtain⟨u1,hm1,ru1⟩:=T.c_FIRST_SIGN;obtain⟨u2,hm2,ru2⟩:=T.c_LAST_SIGN;refine⟨_,aI (fE (mY (sI (qY T) T.q_Reader hr ⟨rfl,rfl,rfl⟩ (pv 0) (aA eB aD))) (aI (fE (PW.pt (VD (dB ZF (mK (xC T) T.q_Reader hr.m ⟨rfl,rfl,rfl⟩ (pv 0)) (cY mR rfl T.n_ord rH (aA eB aD)) (dL _)) (LQ (dB ZF (mK (xC T) T.q_Reader hr.m ⟨rfl,rfl,rfl⟩ (pv 0)) (cY mR rfl T.n_ord rH (aA eB aD)) (dL _))))) (aN (iZ ⟨rfl,rfl,rfl⟩ rfl rfl T.x_Unreadable.1 T.x_Unreadable.2)) cZ) (aN (bH (mK (LJ T) T.q_Reader hr ⟨rfl,rfl,rfl⟩ (pv 0))))) cZ) (aI (cM (i:=1) nd rfl (bP rfl) (mK (LJ T) T.q_Reader hr ⟨rfl,rfl,rfl⟩ (pv 0))) (aI (fE (PW.pt (ZL (dB OT (pv 1) (dN rfl hm1 ru1) (dL _)) (VE (dB CN (pv 1) (dN rfl hm2 ru2) (dL _))))) (aN (iZ ⟨rfl,rfl,rfl⟩ rfl rfl T.x_Unreadable.1 T.x_Unreadable.2)) cZ) (aN (bH (pv 1))))),?_⟩;obtain⟨dx,fs,h1,h2⟩:=hp.at;refine⟨_,rfl,p,dx,fs,rfl,h1,h2 _ (by decide) (by decide),p,m,r,92,rfl,hp,fun hh H1 b1 r1=>⟨_,rfl,tJ ?_⟩,fun hh=>⟨_,rfl,xR ?_⟩⟩
 ·obtain⟨dx1,fs1,g1,g2⟩:=r1.at;have e:zB r=if r.tail.head?=some 34\/r.tail.head?=some 92 then (r.tail.head?).map fun b=>(b,r.tail.tail)else none:=if_pos hh
  have o34:(((("\"":Str).cps.getD 0 0:Nat)):Int)=((34:UInt8).toNat:Nat):=by rw[Fv]
  have o92:(((("\\":Str).cps.getD 0 0:Nat)):Int)=((92:UInt8).toNat:Nat):=by rw[ZG]
  have fin:∀c:UInt8,r.tail.head?=some c->(c=34\/c=92)->zB r=some (c,r.tail.tail):=fun c hc hq=>by rw[e,if_pos (by rw[hc];simpa using hq),hc];rfl
  refine⟨_,rfl,p,dx1,fs1,rfl,g1,g2 _ (by decide) (by decide),p,m,r.tail,rfl,r1,_,rfl,rfl,JF _ _,_,rfl,nI (fun c=>?_) (fun c=>xR ?_)⟩
  ·have c:=(RD o34).mp c;refine⟨_,rfl,p,dx1,fs1,rfl,g1,g2 _ (by decide) (by decide),p,m,r.tail,rfl,r1,_,rfl,rfl,JF _ _,_,rfl,nI (fun d=>?_) (fun d=>?_)⟩
   ·have d:=(RD o92).mp d;exact k.no (by rw[e,if_neg (by rw[not_or];exact⟨c,d⟩)]) H1 b1
   ·have d:r.tail.head?=some 92:=by
     by_cases q:r.tail.head?=some 92
     ·exact q
     ·exact absurd ((RD o92).mpr q) d
    refine⟨_,rfl,p,dx1,fs1,rfl,g1,g2 _ (by decide) (by decide),p,m,r.tail,rfl,r1,fun H2 b2 r2=>?_⟩;exact k.yes (fin 92 d (.inr rfl)) H2 _ (b1.trans b2) r2 ((KD _ _).mpr d)
  ·have c:r.tail.head?=some 34:=by
    by_cases q:r.tail.head?=some 34
    ·exact q
    ·exact absurd ((RD o34).mpr q) c
   refine⟨_,rfl,p,dx1,fs1,rfl,g1,g2 _ (by decide) (by decide),p,m,r.tail,rfl,r1,fun H2 b2 r2=>?_⟩;exact k.yes (fin 34 c (.inl rfl)) H2 _ (b1.trans b2) r2 ((KD _ _).mpr c)
 ·have e:zB r=(r.head?).bind fun b=>if Vatwva.isSign b=true then some (b,r.tail)else none:=if_neg hh
  refine⟨_,rfl,p,dx,fs,rfl,h1,h2 _ (by decide) (by decide),p,m,r,rfl,hp,fun H1 b1 r1=>?_⟩;obtain⟨i,ei,hi⟩:=RY r;rw[ei];have no:¬(32<=i/\i<=126)->zB r=none:=fun c=>by
   rw[e];rcases hi with⟨b,r',rfl,rfl⟩ | ⟨rfl,rfl⟩
   ·show(if Vatwva.isSign b=true then _ else none)=none;rw[if_neg fun z=>c ?_];have:=VM.TH.mp z;omega
   ·rfl
  refine⟨_,rfl,_,_,rfl,rfl,_,rfl,nI (fun c=>tJ (k.no (no ?_) H1 b1)) (fun c=>⟨_,rfl,_,_,rfl,rfl,_,rfl,nI (fun d=>k.no (no ?_) H1 b1) (fun d=>⟨_,rfl,?_⟩)⟩)⟩
  ·have c:i < 32:=of_decide_eq_true c;omega
  ·have d:(126:Int) < i:=of_decide_eq_true d;omega
  ·have c:¬i < 32:=fun z=>c (decide_eq_true z);have d:¬(126:Int) < i:=fun z=>d (decide_eq_true z);rcases hi with⟨b,r',rfl,rfl⟩ | ⟨rfl,rfl⟩
   ·refine k.yes (x:=b) (r:=r') ?_ H1 _ b1 r1 rfl;rw[e];show(if Vatwva.isSign b=true then some (b,r')else none)=_;rw[if_pos (VM.TH.mpr (by omega))]
   ·omega
inductive ME (a:mF) (K:aB) (vs:List V) (H:Hp) (Q:VK) (E:XK):Prop
 | mk (p:_) (m:_) (r:_):vs=[.ref p]->RR a H p m r->oF a p m H (VM.EK r) (oG K) Q E->ME a K vs H Q E
theorem eP (u v:bW):cV (u++v)=cV u++cV v:=aW
theorem RR.ne (h:RR a H p m r) (hl:H l=none):l≠p:=fun z=>by obtain⟨_,_,q,_⟩:=h;rw[z,q]at hl;cases hl
theorem Bz (T:iM K mg a):gY P w K mg base 4 "read_text" ["reader"] (ME a K):=by
 refine kL T.f_read_text ["reader","signs"] fun vs H Q E h=>?_
 obtain⟨p,m,r,rfl,hp,k⟩:=h
 refine⟨rfl,fun nd _ _ _ _ _ hr=>?_⟩
 intro X
 obtain⟨u1,hm1,ru1⟩:=T.c_MOST_SIGNS
 refine⟨_,aI (cM (i:=1) nd rfl (bP rfl) (eL aD))
  (aI (AD (gK ⟨rfl,rfl,rfl⟩) (xF (mY (sI (qY T) T.q_Reader hr.m ⟨rfl,rfl,rfl⟩ (pv 0) (aA eB aD))))
   (aN (dO (nM bG bR bS gI (pv 1) (aA (bC (GK T) hr ⟨rfl,rfl,rfl⟩ (aA (pv 0) aD)) aD)))))
  (aI (fE (dB CN (cY cW rfl T.n_len cE (aA (pv 1) aD)) (dN rfl hm1 ru1) (dL _)) (aN (iZ ⟨rfl,rfl,rfl⟩ rfl rfl T.x_Unreadable.1 T.x_Unreadable.2)) cZ)
  (aN (bH (bC (XI T) hr.m ⟨rfl,rfl,rfl⟩ (aA (pv 1) aD)))))),?_⟩
 refine⟨aY _,fun l hl=>?_⟩
 have s1:bA H (upd H l (.lst [])):=bA.upd hl
 have lp:=hp.ne hl
 refine⟨fun n σ H'=>∃u r',σ=[some (.ref p),some (.ref l)]/\H' l=some (.lst (cV u))/\RR a H' p m r'/\sN p H H'/\Vatwva.unquoted r=(Vatwva.unquoted r').map (fun x=>(u++x.1,x.2))/\u.length+r'.length<=6000/\n=r'.length,
  ⟨r.length,[],r,rfl,aH,hp.same s1,bA.but s1,?_,by have:=hp.len;simpa using this,rfl⟩,?_⟩
 ·cases Vatwva.unquoted r<;>rfl
 rintro n σ H' ⟨u,r',rfl,hl',hr',hb,e,hn,rfl⟩
 obtain⟨dx,fs,h1,h2⟩:=hr'.at
 have est:=XO r'
 refine⟨_,rfl,p,dx,fs,rfl,h1,h2 _ (by decide) (by decide),p,m,r',34,rfl,hr',fun hh H1 b1 r1=>⟨_,rfl,xR ?_⟩,fun hh=>⟨_,rfl,tJ ?_⟩⟩
 ·rw[if_pos hh]at est
  rw[est]at e
  have e:Vatwva.unquoted r=some (u++[],r'.tail):=e
  rw[cI]at e
  have hl1:H1 l=some (.lst (cV u)):=b1 l _ lp hl'
  have elen:(cV u).length=u.length:=aJ _
  refine⟨_,rfl,l,_,rfl,.inl (hJ.of hl1),_,_,rfl,rfl,_,rfl,nI (fun c=>?_) (fun c=>?_)⟩
  ·have c:(30:Int) < ((cV u).length:Nat):=of_decide_eq_true c
   refine k.no ?_ H1 (hb.trans b1)
   unfold VM.EK
   rw[e]
   exact if_neg (by show ¬u.length<=30;omega)
  ·have c:¬(30:Int) < ((cV u).length:Nat):=fun z=>c (decide_eq_true z)
   refine⟨_,rfl,l,u,rfl,hJ.of hl1,fun H2 x s2 hx=>?_⟩
   refine k.yes (x:=Vatwva.vText u) (r:=r'.tail) ?_ H2 x ((hb.trans b1).trans (bA.but s2)) (r1.same s2) hx
   unfold VM.EK
   rw[e]
   exact if_pos (by show u.length<=30;omega)
 ·rw[if_neg hh]at est
  refine⟨fun σ' H''=>∃u r2,σ'=[some (.ref p),some (.ref l)]/\H'' l=some (.lst (cV u))/\RR a H'' p m r2/\sN p H H''/\Vatwva.unquoted r=(Vatwva.unquoted r2).map (fun x=>(u++x.1,x.2))/\u.length+r2.length<=6000/\r2.length < r'.length,
   fun σ' H'' ⟨u,r2,q1,q2,q3,q4,q5,q6,q7⟩=>⟨_,q7,u,r2,q1,q2,q3,q4,q5,q6,rfl⟩,?_⟩
  refine⟨_,rfl,.inl ⟨rfl,_,hJ.of hl'⟩,_,rfl,p,m,r',rfl,hr',?_⟩
  cases q:zB r' with
  | none=>
   rw[q]at est
   rw[est]at e
   refine Im.on (k.no ?_) hb
   unfold VM.EK
   rw[e];rfl
  | some x=>
   intro H2 y b2 r2 hy
   have hy:y=.int (x.1.toNat:Nat):=hy
   subst hy
   have hlt:=Ka q
   have hl2:H2 l=some (.lst (cV u)):=b2 l _ lp hl'
   refine⟨l,_,_,rfl,rfl,hl2,small (by rw[show(cV u).length=u.length from aJ _];omega),?_⟩
   refine⟨u++[x.1],x.2,rfl,?_,r2.upd hp hl,tF (hb.trans b2) hl,?_,by rw[aC,cS];omega,hlt⟩
   ·rw[eP];exact aH
   ·rw[q]at est
    rw[e,est]
    show((Vatwva.unquoted x.2).map _).map _=_
    rw[nE]
    congr 1
    funext z
    show(u++x.1::z.1,z.2)=_
    simp
theorem LO (h:dJ d r=some x):x.2.length < r.length:=by obtain⟨g,_,e⟩:=VM.tN d r.length r x (aR _) h;obtain⟨b,s,eb,_⟩:=VM.xI g.1;rw[e,eb,aC,aK];lia
theorem BF {w r r':bW} (h:jJ w r=some r'):r'.length<=r.length:=by rw[VM.iJ.mp h,aC];lia
noncomputable def jL (fs:List (Name×fT)):List Name:=fs.map fun x=>x.1
noncomputable def HJ (fs:List (Name×fT)):List fT:=fs.map fun x=>x.2
theorem KO (h:r.head?=some (VM.dG (!named))):cU named (dJ d) ns r=some ([],r.tail):=by rw[cU,if_pos h]
theorem YM (h:¬r.head?=some (VM.dG (!named))):
  cU named (dJ d) ns r=(if ns.isEmpty=true then some r else jJ [44,32] r).bind fun r1=>(VM.uN named ns r1).bind fun h=>(dJ d h.2).bind fun x=>(cU named (dJ d) (ns++[h.1]) x.2).map fun y=>((h.1,x.1)::y.1,y.2):=by
 rw[cU,if_neg h];cases q1:(if ns.isEmpty=true then some r else jJ [44,32] r)with
 | none=>rfl
 | some r1=>
  have l1:r1.length<=r.length:=by
   split at q1
   ·cases q1;exact aR _
   ·exact BF q1
  show(VM.uN named ns r1).bind _=(VM.uN named ns r1).bind _;cases q2:VM.uN named ns r1 with
  | none=>rfl
  | some hh=>
   have l2:hh.2.length<=r1.length:=by rw[(VM.OZ q2).2.2,aC];lia
   show(dJ d hh.2).bind _=(dJ d hh.2).bind _;cases q3:dJ d hh.2 with
   | none=>rfl
   | some x=>have:=LO q3;show(if h':x.2.length < r.length then _ else none)=_;rw[dif_pos (by lia)];rfl
inductive wJ (d:Nat) (a:mF) (K:aB) (vs:List V) (H:Hp) (Q:VK) (E:XK):Prop
 | mk (p:_) (m:_) (r:_) (lv:Int):vs=[.ref p,.int lv]->lv+d=7->RR a H p m r->oF a p m H (dJ d r) (oG K) Q E->wJ d a K vs H Q E
noncomputable def NR (d:Nat) (r:bW):Option (fT×bW):=(cU false (dJ d) [] r).map fun x=>(Vatwva.listOf (HJ x.1),x.2)
noncomputable def vM (d:Nat) (r:bW):Option (fT×bW):=(cU true (dJ d) [] r).map fun x=>(Vatwva.recordOf x.1,x.2)
inductive MB (d:Nat) (a:mF) (K:aB) (vs:List V) (H:Hp) (Q:VK) (E:XK):Prop
 | mk (p:_) (m:_) (r:_) (lv:Int):vs=[.ref p,.int lv]->lv+d=6->RR a H p m r->oF a p m H (NR d r) (oG K) Q E->MB d a K vs H Q E
inductive ET (d:Nat) (a:mF) (K:aB) (vs:List V) (H:Hp) (Q:VK) (E:XK):Prop
 | mk (p:_) (m:_) (r:_) (lv:Int):vs=[.ref p,.int lv]->lv+d=6->RR a H p m r->oF a p m H (vM d r) (oG K) Q E->ET d a K vs H Q E
theorem RA:(", ":Str)=bT [44,32]:=by decide
theorem Lw:(": ":Str)=bT [58,32]:=by decide
theorem gA.snoc (h:gA K H zs vs) (hx:oG K H x v):gA K H (zs++[x]) (vs++[v]):=h.append (.cons hx .nil)
theorem Bx (T:iM K mg a) {d k0:Nat} (hk:4<=k0) (R:gY P w K mg base k0 "read_part" ["reader","level"] (wJ d a K)):gY P w K mg base (k0+1) "read_list" ["reader","level"] (MB d a K):=by
 refine kL T.f_read_list ["reader","level","parts"] fun vs H Q E h=>?_
 obtain⟨p,m,r,lv,rfl,hlv,hp,k⟩:=h
 refine⟨rfl,fun nd _ _ _ _ _ hr=>?_⟩
 intro X
 refine⟨_,aI (cM (i:=2) nd rfl (bP rfl) (eL aD))
  (aI (AD (gK ⟨rfl,rfl,rfl⟩) (xF (mY (sI (qY T) T.q_Reader (hr.mono (by lia)) ⟨rfl,rfl,rfl⟩ (pv 0) (aA eB aD))))
   (aI (fE (dB CN (cY cW rfl T.n_len cE (aA (pv 2) aD)) cB (dL _)) (aN (dO (sI (wM T) T.q_Reader (hr.mono (by lia)) ⟨rfl,rfl,rfl⟩ (pv 0) (aA eB aD)))) cZ)
   (aN (dO (nM bG bR bS gI (pv 2) (aA (bC R hr ⟨rfl,rfl,rfl⟩ (aA (pv 0) (aA (kE uL (pv 1) cB) aD))) aD))))))
  (aN (bH (bC (qX T) (hr.mono (by lia)) ⟨rfl,rfl,rfl⟩ (aA (pv 2) aD))))),?_⟩
 refine⟨aY _,fun l hl=>?_⟩
 have s1:bA H (upd H l (.lst [])):=bA.upd hl
 have lp:=hp.ne hl
 refine⟨fun n σ H'=>∃fs zs r',σ=[some (.ref p),some (.int lv),some (.ref l)]/\H' l=some (.lst zs)/\gA K H' zs (HJ fs)/\RR a H' p m r'/\sN p H H'/\cU false (dJ d) [] r=(cU false (dJ d) (jL fs) r').map (fun x=>(fs++x.1,x.2))/\zs.length=fs.length/\fs.length+r'.length<=6000/\n=r'.length,
  ⟨r.length,[],[],r,rfl,aH,.nil,hp.same s1,bA.but s1,?_,rfl,by have:=hp.len;simpa using this,rfl⟩,?_⟩
 ·show _=(cU false (dJ d) [] r).map _
  cases cU false (dJ d) [] r<;>rfl
 rintro n σ H' ⟨fs,zs,r',rfl,hl',hz,hr',hb,e,hzl,hn,rfl⟩
 obtain⟨dx,fl,h1,h2⟩:=hr'.at
 refine⟨_,rfl,p,dx,fl,rfl,h1,h2 _ (by decide) (by decide),p,m,r',93,rfl,hr',fun hh H1 b1 r1=>⟨_,rfl,xR ?_⟩,fun hh=>⟨_,rfl,tJ ?_⟩⟩
 ·rw[KO (named:=false) hh]at e
  have e:cU false (dJ d) [] r=some (fs++[],r'.tail):=e
  rw[cI]at e
  have hl1:H1 l=some (.lst zs):=b1 l _ lp hl'
  refine⟨_,rfl,l,HJ fs,zs,rfl,.inl (hJ.of hl1),hz.tups (sN.tups b1 hr'),fun H2 x s2 hx=>?_⟩
  exact k.yes (x:=Vatwva.listOf (HJ fs)) (r:=r'.tail) (by unfold NR;rw[e];rfl) H2 x ((hb.trans b1).trans (bA.but s2)) (r1.same s2) hx
 ·rw[YM (named:=false) hh]at e
  refine⟨fun σ' H''=>∃fs zs r2,σ'=[some (.ref p),some (.int lv),some (.ref l)]/\H'' l=some (.lst zs)/\gA K H'' zs (HJ fs)/\RR a H'' p m r2/\sN p H H''/\cU false (dJ d) [] r=(cU false (dJ d) (jL fs) r2).map (fun x=>(fs++x.1,x.2))/\zs.length=fs.length/\fs.length+r2.length<=6000/\r2.length < r'.length,
   fun σ' H'' ⟨fs,zs,r2,q1,q2,q3,q4,q5,q6,q7,q8,q9⟩=>⟨_,q9,fs,zs,r2,q1,q2,q3,q4,q5,q6,q7,q8,rfl⟩,?_⟩
  have elen:(jL fs).isEmpty=true↔¬(0:Int) < ((zs.length:Nat):Int):=by
   rw[hzl]
   cases fs<;>simp[jL]
  refine⟨_,rfl,l,_,rfl,.inl (hJ.of hl'),_,_,rfl,rfl,_,rfl,nI (fun c=>⟨_,rfl,p,dx,fl,rfl,h1,h2 _ (by decide) (by decide),p,m,r',[44,32],by rw[RA];rfl,hr',fun r1 he H1 b1 hr1=>?_,fun he=>?_⟩) (fun c=>?_)⟩
  rotate_left
  ·have c:=of_decide_eq_true c
   rw[if_neg fun z=>elen.mp z c,he]at e
   exact Im.on (k.no (by unfold NR;rw[e];rfl)) hb
  rotate_left
  ·have c:(0:Int) < ((zs.length:Nat):Int):=of_decide_eq_true c
   have hif:(if (jL fs).isEmpty=true then some r' else jJ [44,32] r')=some r1:=by rw[if_neg fun z=>elen.mp z c];exact he
   have hle:=BF he
   rw[hif]at e
   refine⟨_,rfl,.inl ⟨rfl,_,hJ.of (b1 l _ lp hl')⟩,_,rfl,_,rfl,_,_,rfl,rfl,p,m,r1,lv+1,rfl,by lia,hr1,?_⟩
   have e:cU false (dJ d) [] r=((dJ d r1).bind fun x=>(cU false (dJ d) (jL fs++[[]]) x.2).map fun y=>(([],x.1)::y.1,y.2)).map (fun x=>(fs++x.1,x.2)):=e
   cases q:dJ d r1 with
   | none=>
    rw[q]at e
    exact Im.on (k.no (by unfold NR;rw[e];rfl)) (hb.trans b1)
   | some x=>
    rw[q]at e
    intro H2 y b2 r2 hy
    have hlt:=LO q
    have hl2:H2 l=some (.lst zs):=b2 l _ lp (b1 l _ lp hl')
    have t1:=(sN.tups b1 hr').trans (sN.tups b2 hr1)
    refine⟨l,_,_,rfl,rfl,hl2,small (by lia),fs++[([],x.1)],zs++[y],x.2,rfl,aH,?_,r2.upd hp hl,tF ((hb.trans b1).trans b2) hl,?_,by rw[aC,aC,hzl];rfl,by rw[aC,cS];lia,by lia⟩
    ·have:=(gA.snoc (hz.tups t1) hy).tups (oU (ys:=zs++[y]) hl2)
     unfold HJ at this ⊢
     rw[aW];exact this
    ·rw[e]
     show((cU false (dJ d) (jL fs++[[]]) x.2).map _).map _=_
     rw[nE]
     have e3:jL (fs++[([],x.1)])=jL fs++[[]]:=by unfold jL;rw[aW];rfl
     rw[e3]
     congr 1
     funext z
     show(fs++([],x.1)::z.1,z.2)=_
     simp
  ·have c:¬(0:Int) < ((zs.length:Nat):Int):=fun z=>c (decide_eq_true z)
   have hif:(if (jL fs).isEmpty=true then some r' else jJ [44,32] r')=some r':=by rw[if_pos (elen.mpr c)]
   rw[hif]at e
   refine⟨_,rfl,.inl ⟨rfl,_,hJ.of hl'⟩,_,rfl,_,rfl,_,_,rfl,rfl,p,m,r',lv+1,rfl,by lia,hr',?_⟩
   have e:cU false (dJ d) [] r=((dJ d r').bind fun x=>(cU false (dJ d) (jL fs++[[]]) x.2).map fun y=>(([],x.1)::y.1,y.2)).map (fun x=>(fs++x.1,x.2)):=e
   cases q:dJ d r' with
   | none=>
    rw[q]at e
    exact Im.on (k.no (by unfold NR;rw[e];rfl)) hb
   | some x=>
    rw[q]at e
    intro H2 y b2 r2 hy
    have hlt:=LO q
    have hl2:H2 l=some (.lst zs):=b2 l _ lp hl'
    have t1:=sN.tups b2 hr'
    refine⟨l,_,_,rfl,rfl,hl2,small (by lia),fs++[([],x.1)],zs++[y],x.2,rfl,aH,?_,r2.upd hp hl,tF (hb.trans b2) hl,?_,by rw[aC,aC,hzl];rfl,by rw[aC,cS];lia,by lia⟩
    ·have:=(gA.snoc (hz.tups t1) hy).tups (oU (ys:=zs++[y]) hl2)
     unfold HJ at this ⊢
     rw[aW];exact this
    ·rw[e]
     show((cU false (dJ d) (jL fs++[[]]) x.2).map _).map _=_
     rw[nE]
     have e3:jL (fs++[([],x.1)])=jL fs++[[]]:=by unfold jL;rw[aW];rfl
     rw[e3]
     congr 1
     funext z
     show(fs++([],x.1)::z.1,z.2)=_
     simp
theorem Og (ns:List Name) (r:bW):VM.uN true ns r=(uO r).bind fun n=>if ns.contains n.1=true then none else (jJ [58,32] n.2).map fun r2=>(n.1,r2):=rfl
theorem Bc (fs:List (Name×fT)) (n:Name):(jL fs).contains n=Vatwvc.hasField fs n:=by rw[mB,VM.jR,List.contains_iff_mem];unfold jL;rw[aX]
theorem Sj (h:uO r=some x):x.2.length<=r.length:=by rw[(VM.vL.mp h).2.1,aC];lia
theorem UX (T:iM K mg a) (hk:4<=k0) (R:gY P w K mg base k0 "read_part" ["reader","level"] (wJ d a K)):gY P w K mg base (k0+1) "read_record" ["reader","level"] (ET d a K):=by
 refine kL T.f_read_record ["reader","level","names","parts","name"] fun vs H Q E h=>?_
 obtain⟨p,m,r,lv,rfl,hlv,hp,k⟩:=h
 refine⟨rfl,fun nd _ _ _ _ _ hr=>?_⟩
 intro X
 refine⟨_,aI (cM (i:=2) nd rfl (bP rfl) (eL aD)) (aI (cM (i:=3) nd rfl (bP rfl) (eL aD))
  (aI (AD (gK ⟨rfl,rfl,rfl⟩) (xF (mY (sI (qY T) T.q_Reader (hr.mono (by lia)) ⟨rfl,rfl,rfl⟩ (pv 0) (aA eB aD))))
   (aI (fE (dB CN (cY cW rfl T.n_len cE (aA (pv 2) aD)) cB (dL _)) (aN (dO (sI (wM T) T.q_Reader (hr.mono (by lia)) ⟨rfl,rfl,rfl⟩ (pv 0) (aA eB aD)))) cZ)
   (aI (cM (i:=4) nd rfl (bP rfl) (bC (LK T) (hr.mono (by lia)) ⟨rfl,rfl,rfl⟩ (aA (pv 0) aD)))
   (aI (fE (dB ZE (pv 4) (pv 2) rfl) (aN (iZ ⟨rfl,rfl,rfl⟩ rfl rfl T.x_Unreadable.1 T.x_Unreadable.2)) cZ)
   (aI (dO (nM bG bR bS gI (pv 2) (aA (pv 4) aD)))
   (aI (dO (sI (wM T) T.q_Reader (hr.mono (by lia)) ⟨rfl,rfl,rfl⟩ (pv 0) (aA eB aD)))
   (aN (dO (nM bG bR bS gI (pv 3) (aA (bC R hr ⟨rfl,rfl,rfl⟩ (aA (pv 0) (aA (kE uL (pv 1) cB) aD))) aD))))))))))
  (aN (bH (bC (oH T) (hr.mono (by lia)) ⟨rfl,rfl,rfl⟩ (aA (pv 2) (aA (pv 3) aD))))))),?_⟩
 refine⟨aY _,fun ln hln=>⟨aY _,fun l hl0=>?_⟩⟩
 have hne:l≠ln:=fun z=>by rw[z,aH]at hl0;cases hl0
 have hl:H l=none:=by rw[bL hne]at hl0;exact hl0
 have s1:bA H (upd (upd H ln (.lst [])) l (.lst [])):=(bA.upd hln).trans (bA.upd hl0)
 have lp:=hp.ne hl
 have lnp:=hp.ne hln
 refine⟨fun n σ H'=>∃fs zs r' st,σ=[some (.ref p),some (.int lv),some (.ref ln),some (.ref l),st]/\H' ln=some (.lst (dR fs))/\H' l=some (.lst zs)/\gA K H' zs (HJ fs)/\RR a H' p m r'/\sN p H H'/\cU true (dJ d) [] r=(cU true (dJ d) (jL fs) r').map (fun x=>(fs++x.1,x.2))/\zs.length=fs.length/\fs.length+r'.length<=6000/\n=r'.length,
  ⟨r.length,[],[],r,none,rfl,by rw[bL hne.symm];exact aH,aH,.nil,hp.same s1,bA.but s1,?_,rfl,by have:=hp.len;simpa using this,rfl⟩,?_⟩
 ·show _=(cU true (dJ d) [] r).map _
  cases cU true (dJ d) [] r<;>rfl
 rintro n σ H' ⟨fs,zs,r',st,rfl,hln',hl',hz,hr',hb,e,hzl,hn,rfl⟩
 obtain⟨dx,fl,h1,h2⟩:=hr'.at
 refine⟨_,rfl,p,dx,fl,rfl,h1,h2 _ (by decide) (by decide),p,m,r',125,rfl,hr',fun hh H1 b1 r1=>⟨_,rfl,xR ?_⟩,fun hh=>⟨_,rfl,tJ ?_⟩⟩
 ·rw[KO (named:=true) hh]at e
  have e:cU true (dJ d) [] r=some (fs++[],r'.tail):=e
  rw[cI]at e
  have hl1:H1 l=some (.lst zs):=b1 l _ lp hl'
  have hln1:H1 ln=some (.lst (dR fs)):=b1 ln _ lnp hln'
  refine⟨_,rfl,_,rfl,ln,l,fs,zs,rfl,.inl (hJ.of hln1),.inl (hJ.of hl1),hz.tups (sN.tups b1 hr'),fun H2 x s2 hx=>?_⟩
  exact k.yes (x:=Vatwva.recordOf fs) (r:=r'.tail) (by unfold vM;rw[e];rfl) H2 x ((hb.trans b1).trans (bA.but s2)) (r1.same s2) hx
 ·rw[YM (named:=true) hh]at e
  refine⟨fun σ' H''=>∃fs zs r2 st,σ'=[some (.ref p),some (.int lv),some (.ref ln),some (.ref l),st]/\H'' ln=some (.lst (dR fs))/\H'' l=some (.lst zs)/\gA K H'' zs (HJ fs)/\RR a H'' p m r2/\sN p H H''/\cU true (dJ d) [] r=(cU true (dJ d) (jL fs) r2).map (fun x=>(fs++x.1,x.2))/\zs.length=fs.length/\fs.length+r2.length<=6000/\r2.length < r'.length,
   fun σ' H'' ⟨fs,zs,r2,st,q1,q2,q3,q4,q5,q6,q7,q8,q9,q10⟩=>⟨_,q10,fs,zs,r2,st,q1,q2,q3,q4,q5,q6,q7,q8,q9,rfl⟩,?_⟩
  have elen:(jL fs).isEmpty=true↔¬(0:Int) < (((dR fs).length:Nat):Int):=by
   rw[gW]
   cases fs<;>simp[jL]
  refine⟨_,rfl,ln,_,rfl,.inl (hJ.of hln'),_,_,rfl,rfl,_,rfl,nI (fun c=>⟨_,rfl,p,dx,fl,rfl,h1,h2 _ (by decide) (by decide),p,m,r',[44,32],by rw[RA];rfl,hr',fun r1 he H1 b1 hr1=>?rest1,fun he=>?ecase⟩) (fun c=>?rest2)⟩
  case ecase=>
   have c:=of_decide_eq_true c
   rw[if_neg fun z=>elen.mp z c,he]at e
   exact Im.on (k.no (by unfold vM;rw[e];rfl)) hb
  case' rest1=>
   have c:(0:Int) < (((dR fs).length:Nat):Int):=of_decide_eq_true c
   have hif:(if (jL fs).isEmpty=true then some r' else jJ [44,32] r')=some r1:=by rw[if_neg fun z=>elen.mp z c];exact he
   have hle:=BF he
   rw[hif]at e
   have e:cU true (dJ d) [] r=((VM.uN true (jL fs) r1).bind fun h=>(dJ d h.2).bind fun x=>(cU true (dJ d) (jL fs++[h.1]) x.2).map fun y=>((h.1,x.1)::y.1,y.2)).map (fun x=>(fs++x.1,x.2)):=e
  case' rest2=>
   have c:¬(0:Int) < (((dR fs).length:Nat):Int):=fun z=>c (decide_eq_true z)
   have hif:(if (jL fs).isEmpty=true then some r' else jJ [44,32] r')=some r':=by rw[if_pos (elen.mpr c)]
   rw[hif]at e
   obtain⟨r1,hr1,hle,e⟩:∃r1,RR a H' p m r1/\r1.length<=r'.length/\cU true (dJ d) [] r=((VM.uN true (jL fs) r1).bind fun h=>(dJ d h.2).bind fun x=>(cU true (dJ d) (jL fs++[h.1]) x.2).map fun y=>((h.1,x.1)::y.1,y.2)).map (fun x=>(fs++x.1,x.2)):=⟨r',hr',aR _,e⟩
   have b1:=sN.refl p H'
  all_goals
   refine⟨_,rfl,p,m,r1,rfl,hr1,?_⟩
   rw[Og]at e
   cases q1:uO r1 with
   | none=>
    rw[q1]at e
    exact Im.on (k.no (by unfold vM;rw[e];rfl)) (hb.trans b1)
   | some nm=>
    rw[q1]at e
    intro H2 y b2 r2 hy
    have hy:y=.str (bT nm.1):=hy
    subst hy
    have hnl:=Sj q1
    have b12:=b1.trans b2
    have e:cU true (dJ d) [] r=((if (jL fs).contains nm.1=true then none else (jJ [58,32] nm.2).map fun r2=>(nm.1,r2)).bind fun h=>(dJ d h.2).bind fun x=>(cU true (dJ d) (jL fs++[h.1]) x.2).map fun y=>((h.1,x.1)::y.1,y.2)).map (fun x=>(fs++x.1,x.2)):=e
    refine⟨_,rfl,_,rfl,ln,_,rfl,.inl (hJ.of (b12 ln _ lnp hln')),rfl,uE _,_,rfl,?_⟩
    rw[uF,<-Bc]
    refine nI (fun g=>?_) (fun g=>?_)
    ·have g:(jL fs).contains nm.1=true:=g
     rw[if_pos g]at e
     exact k.no (by unfold vM;rw[e];rfl) _ (hb.trans b12)
    ·have g:¬(jL fs).contains nm.1=true:=g
     rw[if_neg g]at e
     have hln2:=b12 ln _ lnp hln'
     refine⟨_,rfl,.inl ⟨rfl,_,hJ.of hln2⟩,_,rfl,ln,_,_,rfl,rfl,hln2,small (by rw[gW];lia),?_⟩
     have r3:RR a (upd H2 ln (.lst (dR fs++[.str (bT nm.1)]))) p m nm.2:=r2.upd hp hln
     obtain⟨dx3,fl3,f1,f2⟩:=r3.at
     refine⟨_,rfl,p,dx3,fl3,rfl,f1,f2 _ (by decide) (by decide),p,m,nm.2,[58,32],by rw[Lw];rfl,r3,fun r4 he4 H4 b4 hr4=>?_,fun he4=>?_⟩
     rotate_left
     ·rw[he4]at e
      exact Im.on (k.no (by unfold vM;rw[e];rfl)) (tF (hb.trans b12) hln)
     have hle4:=BF he4
     rw[he4]at e
     have hl4:H4 l=some (.lst zs):=b4 l _ lp (by rw[bL hne];exact b12 l _ lp hl')
     have hln4:H4 ln=some (.lst (dR fs++[.str (bT nm.1)])):=b4 ln _ lnp aH
     have bH4:sN p H H4:=(tF (hb.trans b12) hln).trans b4
     have t4:zP H' H4:=((sN.tups b12 hr').trans (oU hln2)).trans (sN.tups b4 r3)
     refine⟨_,rfl,.inl ⟨rfl,_,hJ.of hl4⟩,_,rfl,_,rfl,_,_,rfl,rfl,p,m,r4,lv+1,rfl,by lia,hr4,?_⟩
     have e:cU true (dJ d) [] r=((dJ d r4).bind fun x=>(cU true (dJ d) (jL fs++[nm.1]) x.2).map fun y=>((nm.1,x.1)::y.1,y.2)).map (fun x=>(fs++x.1,x.2)):=e
     cases q:dJ d r4 with
     | none=>
      rw[q]at e
      exact Im.on (k.no (by unfold vM;rw[e];rfl)) bH4
     | some x=>
      rw[q]at e
      intro H5 y b5 r5 hy
      have hlt:=LO q
      have hl5:H5 l=some (.lst zs):=b5 l _ lp hl4
      have hln5:=b5 ln _ lnp hln4
      have t5:=t4.trans (sN.tups b5 hr4)
      refine⟨l,_,_,rfl,rfl,hl5,small (by lia),fs++[(nm.1,x.1)],zs++[y],x.2,_,rfl,?_,aH,?_,r5.upd hp hl,tF (bH4.trans b5) hl,?_,by rw[aC,aC,hzl];rfl,by rw[aC,cS];lia,by lia⟩
      ·rw[bL hne.symm,mH];exact hln5
      ·have:=(gA.snoc (hz.tups t5) hy).tups (oU (ys:=zs++[y]) hl5)
       unfold HJ at this ⊢
       rw[aW];exact this
      ·rw[e]
       show((cU true (dJ d) (jL fs++[nm.1]) x.2).map _).map _=_
       rw[nE]
       have e3:jL (fs++[(nm.1,x.1)])=jL fs++[nm.1]:=by unfold jL;rw[aW];rfl
       rw[e3]
       congr 1
       funext z
       show(fs++(nm.1,x.1)::z.1,z.2)=_
       simp
theorem wX:∀(r:QK) (named:Bool),Vatwva.count r<=(Vatwva.rowText named r).length
 | .nil,_=>aY _
 | .text n t r,named=>by
  have ih:=wX r named;show 1+Vatwva.count r<=(Vatwva.nameText named n++(Vatwva.quoted t++(if r=.nil then []else 44::32::Vatwva.rowText named r))).length;rw[aC,aC,VM.qD,aK];split
  ·rename_i h;subst h
   show 1+0<=_;lia
  ·rw[aK,aK];lia
 | .num n z r,named=>by
  have ih:=wX r named;obtain⟨b,s,e,_⟩:=VM.tI z;show 1+Vatwva.count r<=(Vatwva.nameText named n++(Vatwva.integer z++(if r=.nil then []else 44::32::Vatwva.rowText named r))).length;rw[aC,aC,e,aK];split
  ·rename_i h;subst h
   show 1+0<=_;lia
  ·rw[aK,aK];lia
 | .sub n l k r,named=>by
  have ih:=wX r named;have ik:=wX k (!l);show 1+Vatwva.count k+Vatwva.count r<=(Vatwva.nameText named n++((if l=true then 91 else 123)::(Vatwva.rowText (!l) k++((if l=true then 93 else 125)::(if r=.nil then []else 44::32::Vatwva.rowText named r))))).length;rw[aC,aK,aC,aK];split
  ·rename_i h;subst h
   show 1+Vatwva.count k+0<=_;lia
  ·rw[aK,aK];lia
theorem LL (T:iM K mg a):∀d:Nat,gY P w K mg base (2 * d+6) "read_part" ["reader","level"] (wJ d a K)
 | 0=>by
  refine kL T.f_read_part ["reader","level"] fun vs H Q E h=>?_
  obtain⟨p,m,r,lv,rfl,hlv,hp,k⟩:=h
  refine⟨rfl,fun nd _ _ _ _ _ hr=>?_⟩
  intro X
  obtain⟨u,hm,ru⟩:=T.c_MOST_DEEP
  refine⟨_,aI (fE (dB CN (pv 1) (dN rfl hm ru) (dL _)) (aN (iZ ⟨rfl,rfl,rfl⟩ rfl rfl T.x_Unreadable.1 T.x_Unreadable.2)) cZ) Oz,?_⟩
  refine⟨_,rfl,_,_,rfl,rfl,_,rfl,pL (decide_eq_true ?_) (k H (sN.refl p H))⟩
  show(6:Int) < lv
  have:lv+(0:Nat)=7:=hlv
  lia
 | d+1=>by
  have R:=LL T d
  refine kL T.f_read_part ["reader","level"] fun vs H Q E h=>?_
  obtain⟨p,m,r,lv,rfl,hlv,hp,k⟩:=h
  refine⟨rfl,fun nd f cdv A outer s hr=>?_⟩
  intro X
  obtain⟨u,hm,ru⟩:=T.c_MOST_DEEP
  have hr:jI (2 * d+7) (A.deeper (tZ "read_part" (fU (top 71)) s.heap.objs.size f cdv)):=hr
  refine⟨_,aI (fE (dB CN (pv 1) (dN rfl hm ru) (dL _)) (aN (iZ ⟨rfl,rfl,rfl⟩ rfl rfl T.x_Unreadable.1 T.x_Unreadable.2)) cZ)
   (aI (fE (mY (sI (qY T) T.q_Reader (hr.mono (by lia)) ⟨rfl,rfl,rfl⟩ (pv 0) (aA eB aD))) (aN (bH (bC (UX T (by lia) R) hr ⟨rfl,rfl,rfl⟩ (aA (pv 0) (aA (pv 1) aD))))) cZ)
   (aI (fE (mY (sI (qY T) T.q_Reader (hr.mono (by lia)) ⟨rfl,rfl,rfl⟩ (pv 0) (aA eB aD))) (aN (bH (bC (Bx T (by lia) R) hr ⟨rfl,rfl,rfl⟩ (aA (pv 0) (aA (pv 1) aD))))) cZ)
   (aI (fE (mY (sI (qY T) T.q_Reader (hr.mono (by lia)) ⟨rfl,rfl,rfl⟩ (pv 0) (aA eB aD))) (aN (bH (bC (Bz T) (hr.mono (by lia)) ⟨rfl,rfl,rfl⟩ (aA (pv 0) aD)))) cZ)
   (aN (bH (bC (QR T) (hr.mono (by lia)) ⟨rfl,rfl,rfl⟩ (aA (bC (UW T) (hr.mono (by lia)) ⟨rfl,rfl,rfl⟩ (aA (pv 0) aD)) aD))))))),?_⟩
  have hlv':lv+d=6:=by lia
  obtain⟨dx,fl,h1,h2⟩:=hp.at
  have e0:dJ (d+1) r=if r.head?=some 123 then vM d r.tail else if r.head?=some 91 then NR d r.tail else if r.head?=some 34 then VM.EK r.tail else (LR r).map fun x=>(Vatwva.vNum x.1,x.2):=by
   rw[dJ];rfl
  rw[e0]at k
  refine⟨_,rfl,_,_,rfl,rfl,_,rfl,mV (decide_eq_false (by show ¬(6:Int) < lv;lia)) ?_⟩
  refine⟨_,rfl,p,dx,fl,rfl,h1,h2 _ (by decide) (by decide),p,m,r,123,rfl,hp,fun hh H1 b1 r1=>⟨_,rfl,tJ ?_⟩,fun hh=>⟨_,rfl,xR ?_⟩⟩
  ·rw[if_pos hh]at k
   exact⟨_,rfl,_,rfl,p,m,r.tail,lv,rfl,hlv',r1,k.on b1⟩
  rw[if_neg hh]at k
  refine⟨_,rfl,p,dx,fl,rfl,h1,h2 _ (by decide) (by decide),p,m,r,91,rfl,hp,fun hh H1 b1 r1=>⟨_,rfl,tJ ?_⟩,fun hh=>⟨_,rfl,xR ?_⟩⟩
  ·rw[if_pos hh]at k
   exact⟨_,rfl,_,rfl,p,m,r.tail,lv,rfl,hlv',r1,k.on b1⟩
  rw[if_neg hh]at k
  refine⟨_,rfl,p,dx,fl,rfl,h1,h2 _ (by decide) (by decide),p,m,r,34,rfl,hp,fun hh H1 b1 r1=>⟨_,rfl,tJ ?_⟩,fun hh=>⟨_,rfl,xR ?_⟩⟩
  ·rw[if_pos hh]at k
   exact⟨_,rfl,p,m,r.tail,rfl,r1,k.on b1⟩
  rw[if_neg hh]at k
  refine⟨_,rfl,p,m,r,rfl,hp,?_⟩
  cases q:LR r with
  | none=>exact k.no (by rw[q];rfl)
  | some x=>
   intro H1 y b1 r1 hy
   have hy:y=.int x.1:=hy
   subst hy
   refine⟨x.1,rfl,fun H2 z s2 hz=>?_⟩
   exact k.yes (x:=Vatwva.vNum x.1) (r:=x.2) (by rw[q];rfl) H2 z (b1.trans (bA.but s2)) (r1.same s2) hz
inductive HR (a:mF) (K:aB) (vs:List V) (H:Hp) (Q:VK) (E:XK):Prop
 | mk (p:_) (m:_) (r:_):vs=[.ref p]->RR a H p m r->oF a p m H (rG r) (oG K) Q E->HR a K vs H Q E
theorem VX (g:VM.eI W v):(Vatwva.deep v<=6/\Vatwva.count v<=60/\qQ v<=12)↔Vatwva.isValue v=true:=by rw[VM.dS,<-FQ g];exact⟨fun z=>⟨z.2.2,z.2.1,z.1⟩,fun z=>⟨z.2.2,z.2.1,z.1⟩⟩
theorem HB (T:iM K mg a):gY P w K mg base 19 "read_value" ["reader"] (HR a K):=by
 refine kL T.f_read_value ["reader","value"] fun vs H Q E h=>?_;obtain⟨p,m,r,rfl,hp,k⟩:=h;refine⟨rfl,fun nd _ _ _ _ _ hr=>?_⟩;intro X;refine⟨_,aI (cM (i:=1) nd rfl (bP rfl) (bC (LL T 6) hr ⟨rfl,rfl,rfl⟩ (aA (pv 0) (aA cB aD)))) (aI (fE (xF (mY (bC (ED T 6) hr.m ⟨rfl,rfl,rfl⟩ (aA (pv 1) aD)))) (aN (iZ ⟨rfl,rfl,rfl⟩ rfl rfl T.x_Unreadable.1 T.x_Unreadable.2)) cZ) (aN (bH (pv 1)))),?_⟩;refine⟨_,rfl,p,m,r,1,rfl,rfl,hp,?_⟩;unfold rG at k;cases q:dJ 6 r with
 | none=>exact k.no (by rw[q];rfl)
 | some x=>
  intro H1 y b1 r1 hy;have hy:oG K H1 y x.1:=hy;obtain⟨g,hd,et⟩:=VM.tN 6 r.length r x (aR _) q;have hc:Vatwva.count x.1<=10000:=by
   have h1:Vatwva.count x.1<=(Vatwva.valueText x.1).length:=wX x.1 false;have h2:=hp.len;rw[et,aC]at h2
   lia
  refine⟨_,rfl,y,x.1,rfl,hy,hd,hc,fun H2 s2=>⟨_,rfl,?_⟩⟩;by_cases hv:Vatwva.isValue x.1=true
  ·rw[decide_eq_true ((VX g).mpr hv)];refine xR ⟨_,rfl,?_⟩;exact k.yes (x:=x.1) (r:=x.2) (by rw[q];exact if_pos hv) H2 y (b1.trans (bA.but s2)) (r1.same s2) (hy.tups s2.tups)
  ·rw[decide_eq_false fun z=>hv ((VX g).mp z)];exact tJ (k.no (by rw[q];exact if_neg hv) H2 (b1.trans (bA.but s2)))
inductive EM (a:mF) (vs:List V) (H:Hp) (Q:VK) (E:XK):Prop
 | mk (x:_) (l:_) (dx:_):vs=[.ref x,.ref l]->H x=some (.ins a.cReader dx [])->Q .non (upd (upd H x (.ins a.cReader dx [("text",.ref l)])) x (.ins a.cReader dx [("text",.ref l),("place",.int 0)]))->EM a vs H Q E
theorem ZC (T:iM K mg a):Wk P w K mg base 1 a.cReader ["self","text"] (EM a):=by refine E8 T.mk_Reader ["self","text"] fun vs H Q E h=>?_;obtain⟨x,l,dx,rfl,hx,k⟩:=h;refine⟨rfl,fun nd _ _ _ _ _ hr=>?_⟩;intro X;refine⟨_,aI (nY (pv 0) (pv 1) rfl) (aN (nY (pv 0) cB rfl)),?_⟩;exact⟨_,rfl,_,rfl,x,_,dx,_,rfl,hx,T.q_Reader,T.na_Reader_text,(by show 0 < 1000;decide),_,rfl,x,_,dx,_,rfl,aH,T.q_Reader,T.na_Reader_place,(by show 1 < 1000;decide),k⟩
def Wy (a:mF) (K:aB) (H:Hp) (o:Option fT) (Q:VK) (E:XK):Prop:=match o with
 | some v=>tE K H v Q
 | none=>∀H',bA H H'->E (.ref a.xUnreadable) none H'
inductive HW (a:mF) (K:aB) (vs:List V) (H:Hp) (Q:VK) (E:XK):Prop
 | mk (l:_) (t:_):vs=[.ref l]->H l=some (.lst (cV t))->t.length<=6000->Wy a K H (Vatwva.valueOf t) Q E->HW a K vs H Q E
theorem sN.same (s:bA H H1) (b:sN p H1 H2) (h:H p=none):bA H H2:=fun c o e=>b c o (dM e h) (s c o e)
theorem UA (hl:H l=some (.lst (cV t))) (hn:t.length<=6000) (hx:H x=none) (hdx:H dx=none) (ne:dx≠x):
  bA H (upd (upd (upd (upd H dx (.own x)) x (.ins a.cReader dx [])) x (.ins a.cReader dx [("text",.ref l)])) x (.ins a.cReader dx [("text",.ref l),("place",.int 0)]))/\
   RR a (upd (upd (upd (upd H dx (.own x)) x (.ins a.cReader dx [])) x (.ins a.cReader dx [("text",.ref l)])) x (.ins a.cReader dx [("text",.ref l),("place",.int 0)])) x (l,t) t:=by
 have s:bA H (upd (upd (upd (upd H dx (.own x)) x (.ins a.cReader dx [])) x (.ins a.cReader dx [("text",.ref l)])) x (.ins a.cReader dx [("text",.ref l),("place",.int 0)])):=dC (dC (dC (bA.upd hdx) hx) hx) hx;exact⟨s,dx,0,aH,s _ _ hl,hn,rfl⟩
theorem HD (T:iM K mg a):gY P w K mg base 20 "value_from" ["text"] (HW a K):=by
 refine kL T.f_value_from ["text","reader","value"] fun vs H Q E h=>?_;obtain⟨l,t,rfl,hl,hn,k⟩:=h;refine⟨rfl,fun nd _ _ _ _ _ hr=>?_⟩;intro X;refine⟨_,aI (cM (i:=1) nd rfl (bP rfl) (nX (ZC T) T.k_Reader hr.m ⟨rfl,rfl,rfl⟩ (aA (pv 0) aD))) (aI (cM (i:=2) nd rfl (bP rfl) (bC (HB T) hr ⟨rfl,rfl,rfl⟩ (aA (pv 1) aD))) (aI (fE (xF (mY (mK (Fm T) T.q_Reader hr.m ⟨rfl,rfl,rfl⟩ (pv 1)))) (aN (iZ ⟨rfl,rfl,rfl⟩ rfl rfl T.x_Unreadable.1 T.x_Unreadable.2)) cZ) (aN (bH (pv 2))))),?_⟩;refine⟨_,rfl,fun x dx hx hdx ne=>⟨x,l,dx,rfl,aH,rfl,?_⟩⟩;obtain⟨s1,r1⟩:=UA (a:=a) hl hn hx hdx ne;refine⟨_,rfl,x,(l,t),t,rfl,r1,?_⟩;cases q:rG t with
 | none=>
  intro H2 b2;have:Vatwva.valueOf t=none:=by
   cases q2:Vatwva.valueOf t with
   | none=>rfl
   | some v=>rw[VM.EL.mpr q2]at q;cases q
  rw[this]at k;exact k H2 (sN.same s1 b2 hx)
 | some y=>
  intro H2 z b2 r2 hz;obtain⟨dx2,fl2,f1,f2⟩:=r2.at;refine⟨_,rfl,x,dx2,fl2,rfl,f1,f2 _ (by decide) (by decide),x,(l,t),y.2,rfl,r2,_,rfl,?_⟩;cases hy:y.2 with
  | nil=>refine xR ⟨_,rfl,?_⟩;have:Vatwva.valueOf t=some y.1:=VM.EL.mp (by rw[q,<-hy]);rw[this]at k;exact k H2 z (sN.same s1 b2 hx) hz
  | cons b rr=>
   refine tJ ?_;have:Vatwva.valueOf t=none:=by
    cases q2:Vatwva.valueOf t with
    | none=>rfl
    | some v=>rw[VM.EL.mpr q2]at q;cases q;cases hy
   rw[this]at k;exact k H2 (sN.same s1 b2 hx)
theorem big (h:n<=16000000):n<=aU:=bI h (by decide)
theorem MY (h:n<=16000000):n < aU:=gS h (by decide)
theorem bV (t:bW):(cV t).length=t.length:=aJ _
def dX (H:Hp) (t:bW) (Q:VK):Prop:=∀D H',bA H H'->H D=none->H' D=some (.lst (cV t))->Q (.ref D) H'
theorem dX.on (h:dX H t Q) (s:bA H H1):dX H1 t Q:=fun D H' s' hD h'=>h D H' (s.trans s') (by
 cases q:H D with
 | none=>rfl
 | some o=>rw[s _ _ q]at hD;cases hD) h'
inductive PL (vs:List V) (H:Hp) (Q:VK) (E:XK):Prop
 | mk (t:bW):vs=[.str (bT t)]->t.length<=1000000->dX H t Q->PL vs H Q E
theorem fM (T:iM K mg a):gY P w K mg base 1 "bytes_of" ["signs"] PL:=by
 refine kL T.f_bytes_of ["signs","sign"] fun vs H Q E h=>?_;obtain⟨t,rfl,hl,k⟩:=h;refine⟨rfl,fun nd _ _ _ _ _ hr=>?_⟩;intro X;refine⟨_,aN (bH (ZI rfl nd (Sx (pv 0)) (vB (own:=[("sign",1)]) (by rfl)) (fun _ _ _ _ _=>fC (i:=1) nd rfl (bP rfl)) (fun _ _ _ _ _=>yH) (fun _ _ _ _ _=>cY mR rfl T.n_ord rH (aA (pv 1) aD)))),?_⟩;refine⟨_,rfl,_,rfl,fun D hD=>?_⟩;refine Xs (z:=bT t) (fun j H'=>bA H H'/\H' D=some (.lst (cV (t.take j)))) ⟨bA.upd hD,aH⟩ (fun j c H' hc h=>?_) (fun H' h=>?_)
 ·rw[ZZ]at hc;obtain⟨b,hb,rfl⟩:=aO.mp hc;refine⟨rfl,tJ (B:=bA H H'/\H' D=some (.lst (cV (t.take (j+1))))) ⟨_,rfl,_,rfl,rfl,_,h.2,?_,?_,?_⟩⟩
  ·rw[bV,bK];exact MY (by lia)
  ·intro c o e;rw[bL (dM e hD)];exact h.1 c o e
  ·rw[aH,jC hb,eP];rfl
 ·rw[JI,cN]at h;exact k D H' h.1 hD h.2
noncomputable def mM (b:bW):List bW->bW
 | []=>[]
 | [t]=>t
 | t::r=>t++(b++mM b r)
theorem TM (b:bW):∀(ts:List bW) (t:bW),mM b (ts++[t])=mM b ts++((if ts.length=0 then []else b)++t)
 | [],t=>rfl
 | [u],t=>by show u++(b++t)=u++(b++t);rfl
 | u::v::r,t=>by have ih:=TM b (v::r) t;show u++(b++mM b ((v::r)++[t]))=(u++(b++mM b (v::r)))++_;rw[ih];simp
noncomputable def Aw (H:Hp):List V->List bW->Prop:=hU fun r t=>∃q,r=.ref q/\H q=some (.lst (cV t))
theorem Aw.same (s:bA H H') (h:Aw H rs ts):Aw H' rs ts:=Paired.mapP h fun _ _ ⟨q,e,hq⟩=>⟨q,e,s _ _ hq⟩
noncomputable def kH (b:bW) (ts:List bW):Nat:=(ts.map fun t=>t.length+b.length).sum
theorem pM (b:bW):∀(ts:List bW) (i:Nat),(mM b (ts.take i)).length<=kH b ts
 | [],i=>by rw[List.take_nil];exact aY _
 | t::ts,0=>aY _
 | t::ts,i+1=>by
  have ih:=pM b ts i;rw[List.take_succ_cons];have e:kH b (t::ts)=t.length+b.length+kH b ts:=by unfold kH;rw[aP,dW]
  rw[e];cases q:ts.take i with
  | nil=>show t.length<=_;lia
  | cons u r=>rw[q]at ih;show(t++(b++mM b (u::r))).length<=_;rw[aC,aC];lia
theorem Pn (h:t∈ts):t.length+b.length<=kH b ts:=by
 induction ts with
 | nil=>cases h
 | cons u ts ih=>
  have e:kH b (u::ts)=u.length+b.length+kH b ts:=by unfold kH;rw[aP,dW]
  rw[e];rcases aS.mp h with rfl | h
  ·lia
  ·have:=ih h;lia
inductive ZR (vs:List V) (H:Hp) (Q:VK) (E:XK):Prop
 | mk (l:aQ) (rs:List V) (ts:List bW) (b:bW):vs=[.ref l,.str (bT b)]->H l=some (.lst rs)->Aw H rs ts->kH b ts<=1000000->b.length<=1000000->dX H (mM b ts) Q->ZR vs H Q E
theorem FW (T:iM K mg a):gY P w K mg base 2 "joined" ["texts","between"] ZR:=by
 refine kL T.f_joined ["texts","between","whole","place","text"] fun vs H Q E h=>?_;obtain⟨l,rs,ts,b,rfl,hl,ht,hn,hb,k⟩:=h;refine⟨rfl,fun nd _ _ _ _ _ hr=>?_⟩;intro X;refine⟨_,aI (cM (i:=2) nd rfl (bP rfl) (eL aD)) (aI (pP (gK ⟨rfl,rfl,rfl⟩) rfl (Md (by rfl) T.n_enumerate (aA (pv 0) aD)) (JD (n:=2) (by rfl) (lG (fC (i:=3) nd rfl (bP rfl)) (lG (fC (i:=4) nd rfl (bP rfl)) BP))) (aI (fE (dB CN (pv 3) cB (dL _)) (aN (dO (nM bG kF mE AB (pv 2) (aA (bC (fM T) hr ⟨rfl,rfl,rfl⟩ (aA (pv 1) aD)) aD)))) cZ) (aN (dO (nM bG kF mE AB (pv 2) (aA (pv 4) aD)))))) (aN (bH (pv 2)))),?_⟩;have hlen:=ht.length;refine⟨aY _,fun D hD=>?_⟩;have s1:bA H (upd H D (.lst [])):=bA.upd hD;refine⟨_,rfl,l,rs,rfl,hJ.of (s1 _ _ hl),Eo (xs:=rs) (fun i σ H'=>bA H H'/\H' D=some (.lst (cV (mM b (ts.take i))))/\∃s3 s4,σ=[some (.ref l),some (.str (bT b)),some (.ref D),s3,s4]) ⟨s1,aH,none,none,rfl⟩ (fun i σ H' _ h=>hJ.of (h.1 _ _ hl)) ?_ ?_⟩
 ·rintro i x t' σ H' hx ht' ⟨sm,hD',s3,s4,rfl⟩;obtain⟨t,et,q,rfl,hq⟩:=Paired.at ht hx;have sT:bA H' (upd H' t' (.tup [.int (i:Nat),.ref q])):=bA.upd ht';have hmem:=bB et;have htot:=Pn (b:=b) hmem;have htk:=pM b ts i;have htk1:=pM b ts (i+1);have esn:mM b (ts.take (i+1))=mM b (ts.take i)++((if i=0 then []else b)++t):=by
   rw[jC et,TM];have hi:=(aT.mp et).1;have:(ts.take i).length=i:=by rw[bK];lia
   rw[this]
  have hqD:q≠D:=fun z=>by rw[z,hD]at hq;cases hq
  refine⟨t',_,rfl,.of' aH,rfl,_,_,rfl,_,_,rfl,rfl,?_⟩;refine⟨_,rfl,_,_,rfl,rfl,_,rfl,nI (fun c=>?_) (fun c=>?_)⟩
  ·have c:(0:Int) < ((i:Nat):Int):=of_decide_eq_true c;rw[if_neg (show ¬i=0 by lia)]at esn;have hD2:=sT _ _ hD';refine⟨_,rfl,.inl ⟨rfl,_,hJ.of hD2⟩,_,rfl,b,rfl,hb,fun B H2 s2 hB0 hB=>?_⟩;have hD3:=s2 _ _ hD2;refine⟨D,B,_,_,rfl,rfl,hD3,hB,big (by rw[bV,bV];lia),?_⟩;have hq3:upd H2 D (.lst (cV (mM b (ts.take i))++cV b)) q=some (.lst (cV t)):=by rw[bL hqD];exact s2 _ _ (sT _ _ (sm _ _ hq))
   refine⟨_,rfl,.inl ⟨rfl,_,hJ.of aH⟩,_,rfl,D,q,_,_,rfl,rfl,aH,hq3,big ?_,dC (dC (sm.trans (sT.trans s2)) hD) hD,?_,_,_,rfl⟩
   ·rw[aC,bV,bV,bV];lia
   ·rw[aH,esn,eP,eP,eY]
  ·have c:¬(0:Int) < ((i:Nat):Int):=fun z=>c (decide_eq_true z);rw[if_pos (show i=0 by lia)]at esn;have hD2:=sT _ _ hD';refine⟨_,rfl,.inl ⟨rfl,_,hJ.of hD2⟩,_,rfl,D,q,_,_,rfl,rfl,hD2,sT _ _ (sm _ _ hq),big ?_,dC (sm.trans sT) hD,?_,_,_,rfl⟩
   ·rw[bV,bV];lia
   ·rw[aH,esn,gR,eP]
 ·rintro σ H' ⟨sm,hD',s3,s4,rfl⟩;rw[hlen,cN]at hD';exact⟨_,rfl,k D H' sm hD hD'⟩
theorem Gu (z:Int):kD (iQ z)=bT (Vatwva.integer z):=by
 cases z with
 | ofNat n=>
  have e:Vatwva.integer (Int.ofNat n)=Vatwva.decimal n:=by unfold Vatwva.integer;rw[if_neg (by show ¬(n:Int) < 0;lia)];rfl
  rw[e];exact yK n
 | negSucc m=>
  have e:Vatwva.integer (Mt m)=45::Vatwva.decimal (m+1):=by unfold Vatwva.integer;rw[if_pos (Int.negSucc_lt_zero m)];rfl
  rw[e];apply Cw;rw[uQ,PySem.Str.ofString_eq_toList];show((iQ (Mt m)).toList.map XR)=_;have e1:iQ (Mt m)="-"++Nat.repr (m+1):=rfl;rw[e1,String.toList_append,aW,Nat.toList_repr];show 45::TL.Jv (m+1)=_;rw[LD];rfl
theorem Up {z:Int} (h:z.natAbs<=1000000000):z.natAbs.log2 < 1920:=FU h
theorem IX (t:bW):(t.flatMap VM.marked).length<=2 * t.length:=by
 induction t with
 | nil=>exact aR _
 | cons b t ih=>
  rw[dY,aC,aK];have:(VM.marked b).length<=2:=by unfold VM.marked;split<;>simp
  lia
theorem YO {t:bW} {b:UInt8} {i:Nat} (h:t[i]?=some b):(t.take (i+1)).flatMap VM.marked=(t.take i).flatMap VM.marked++VM.marked b:=by rw[jC h,Mu];simp
theorem Fa:("\"":Str)=bT [34]:=by decide
theorem Oj:("\\":Str)=bT [92]:=by decide
inductive PM (K:aB) (vs:List V) (H:Hp) (Q:VK) (E:XK):Prop
 | mk (c:aQ) (t:bW):vs=[.ref c]->fK K H c (cV t)->t.length<=1000->dX H (Vatwva.quoted t) Q->PM K vs H Q E
theorem Fn (T:iM K mg a):gY P w K mg base 2 "in_marks" ["signs"] (PM K):=by
 refine kL T.f_in_marks ["signs","marked","byte"] fun vs H Q E h=>?_;obtain⟨c,t,rfl,hc,hn,k⟩:=h;refine⟨rfl,fun nd _ _ _ _ _ hr=>?_⟩;intro X;refine⟨_,aI (cM (i:=1) nd rfl (bP rfl) (bC (fM T) hr ⟨rfl,rfl,rfl⟩ (aA eB aD))) (aI (pP (gK ⟨rfl,rfl,rfl⟩) rfl (BQ (pv 0)) (fC (i:=2) nd rfl (bP rfl)) (aI (fE (PW.pt (ZL (dB qK (pv 2) (cY mR rfl T.n_ord rH (aA eB aD)) (dL _)) (VE (dB qK (pv 2) (cY mR rfl T.n_ord rH (aA eB aD)) (dL _))))) (aN (dO (nM bG kF mE AB (pv 1) (aA (bC (fM T) hr ⟨rfl,rfl,rfl⟩ (aA eB aD)) aD)))) cZ) (aN (dO (nM bG bR bS gI (pv 1) (aA (pv 2) aD)))))) (aN (bH (kE uM (pv 1) (bC (fM T) hr ⟨rfl,rfl,rfl⟩ (aA eB aD)))))),?_⟩;refine⟨[34],by rw[Fa];rfl,by decide,fun D H1 s1 hD h1=>?_⟩;refine⟨_,rfl,c,rfl,⟨_,s1.sqT hc⟩,QY (xs:=cV t) (fun i σ H'=>bA H H'/\H' D=some (.lst (cV (34::(t.take i).flatMap VM.marked)))/\∃st,σ=[some (.ref c),some (.ref D),st]) ⟨s1,h1,none,rfl⟩ (fun i σ H' _ h=>h.1.sqT hc) ?_ ?_⟩
 ·rintro i x σ H' hx ⟨sm,hD',st,rfl⟩;unfold cV at hx;rw[bX]at hx;obtain⟨b,eb,rfl⟩:=aO.mp hx;have hlen:(cV (34::(t.take i).flatMap VM.marked)).length<=3000:=by
   rw[bV,aK];have:=IX (t.take i);rw[bK]at this
   lia
  have o34:(((("\"":Str).cps.getD 0 0:Nat)):Int)=((34:UInt8).toNat:Nat):=by rw[Fv]
  have o92:(((("\\":Str).cps.getD 0 0:Nat)):Int)=((92:UInt8).toNat:Nat):=by rw[ZG]
  have yes:∀{c:UInt8} {i:Int},i=(c.toNat:Nat)->decide (V.int (b.toNat:Nat)=.int i)=true->b=c:=fun {c i} hi h=>by have h:=V.int.inj (of_decide_eq_true h);rw[hi]at h;exact lZ.mp (by lia)
  have no:∀{c:UInt8} {i:Int},i=(c.toNat:Nat)->¬decide (V.int (b.toNat:Nat)=.int i)=true->b≠c:=fun {c i} hi h z=>h (decide_eq_true (by rw[hi,z]));have mark:b=34\/b=92->cV (34::(t.take (i+1)).flatMap VM.marked)=(cV (34::(t.take i).flatMap VM.marked)++cV [92])++[.int (b.toNat:Nat)]:=fun hb=>by rw[YO eb];unfold VM.marked;rw[if_pos hb,<-iV,eP];simp[cV]
  refine⟨_,rfl,_,rfl,rfl,rfl,_,rfl,nI (fun c1=>tJ ?y1) (fun c1=>⟨_,rfl,_,rfl,rfl,rfl,_,rfl,nI (fun c2=>?y2) (fun c2=>?n)⟩)⟩
  case n=>refine⟨_,rfl,.inl ⟨rfl,_,hJ.of hD'⟩,_,rfl,D,_,_,rfl,rfl,hD',MY (by lia),dC sm hD,?_,_,rfl⟩;rw[aH,YO eb];unfold VM.marked;rw[if_neg (by rw[not_or];exact⟨no o34 c1,no o92 c2⟩),<-iV,eP];rfl
  case' y1=>have hb:b=34\/b=92:=.inl (yes o34 c1)
  case' y2=>have hb:b=34\/b=92:=.inr (yes o92 c2)
  all_goals refine⟨_,rfl,.inl ⟨rfl,_,hJ.of hD'⟩,[92],by rw[Oj];rfl,by decide,fun B H2 s2 hB0 hB=>?_⟩;have hD2:=s2 _ _ hD';refine⟨D,B,_,_,rfl,rfl,hD2,hB,big (by have:(cV [92]).length=1:=rfl;lia),?_⟩;refine⟨_,rfl,.inl ⟨rfl,_,hJ.of aH⟩,_,rfl,D,_,_,rfl,rfl,aH,MY (by rw[aC];have:(cV [92]).length=1:=rfl;lia),dC (dC (sm.trans s2) hD) hD,?_,_,rfl⟩;rw[aH,mark hb]
 ·rintro σ H' ⟨sm,hD',st,rfl⟩;rw[bV,cN]at hD';refine⟨_,rfl,[34],by rw[Fa];rfl,by decide,fun B H2 s2 hB0 hB=>?_⟩;have hm:=IX t;refine⟨D,B,_,_,rfl,rfl,s2 _ _ hD',hB,big ?_,fun p hp=>?_⟩
  ·rw[bV,bV,aK];show _+1+1<=_;lia
  ·have sf:=sm.trans s2;have hp0:H p=none:=by
    cases q:H p with
    | none=>rfl
    | some o=>rw[sf _ _ q]at hp;cases hp
   refine k p _ (sf.trans (bA.upd hp)) hp0 ?_;rw[aH,<-eP,VM.qD];rfl
theorem rR (h:Vatwva.isName n=true):n.length<=10:=by unfold Vatwva.isName at h;simp only[aE,decide_eq_true_iff]at h;exact h.2.1
theorem OJ (h:z.natAbs<=1000000000):(Vatwva.integer z).length<=11:=by
 have hd:=VM.mT 9 z.natAbs (gS h (by decide));unfold Vatwva.integer;split
 ·rw[aK];lia
 ·have:z.toNat=z.natAbs:=by lia
  rw[this];lia
theorem EW:∀(r:QK) (named:Bool),VM.ok W named r=true->(Vatwva.rowText named r).length<=100 * Vatwva.count r
 | .nil,_,_=>aY _
 | .text n t r,named,h=>by
  unfold VM.ok at h;rw[aE,aE]at h;have ih:=EW r named h.2.2;have hn:(Vatwva.nameText named n).length<=12:=by
   unfold Vatwva.nameText;cases named with
   | false=>exact aY _
   | true=>have:=rR (n:=n) (by simpa using h.1);show(n++[58,32]).length<=12;rw[aC];show n.length+2<=12;lia
  have ht:(Vatwva.quoted t).length<=62:=by have h2:=h.2.1;unfold Vatwva.isText at h2;rw[aE,decide_eq_true_iff]at h2;have h3:t.length<=30:=h2.1;have:=IX t;rw[VM.qD,aK,aC];show _+1+1<=62;lia
  show(Vatwva.nameText named n++(Vatwva.quoted t++(if r=.nil then []else 44::32::Vatwva.rowText named r))).length<=100 * (1+Vatwva.count r);rw[aC,aC];split
  ·show _+(_+0)<=_;lia
  ·rw[aK,aK];lia
 | .num n z r,named,h=>by
  unfold VM.ok at h;rw[aE,aE,decide_eq_true_iff]at h;have ih:=EW r named h.2.2;have hn:(Vatwva.nameText named n).length<=12:=by
   unfold Vatwva.nameText;cases named with
   | false=>exact aY _
   | true=>have:=rR (n:=n) (by simpa using h.1);show(n++[58,32]).length<=12;rw[aC];show n.length+2<=12;lia
  have ht:=OJ h.2.1;show(Vatwva.nameText named n++(Vatwva.integer z++(if r=.nil then []else 44::32::Vatwva.rowText named r))).length<=100 * (1+Vatwva.count r);rw[aC,aC];split
  ·show _+(_+0)<=_;lia
  ·rw[aK,aK];lia
 | .sub n l k r,named,h=>by
  unfold VM.ok at h;rw[aE,aE,aE,aE]at h;have ih:=EW r named h.2.2.2.2;have ik:=EW k (!l) h.2.2.2.1;have hn:(Vatwva.nameText named n).length<=12:=by
   unfold Vatwva.nameText;cases named with
   | false=>exact aY _
   | true=>have:=rR (n:=n) (by simpa using h.1);show(n++[58,32]).length<=12;rw[aC];show n.length+2<=12;lia
  show(Vatwva.nameText named n++((if l=true then 91 else 123)::(Vatwva.rowText (!l) k++((if l=true then 93 else 125)::(if r=.nil then []else 44::32::Vatwva.rowText named r))))).length<=100 * (1+Vatwva.count k+Vatwva.count r);rw[aC,aK,aC,aK];split
  ·show _+(_+(0+1)+1)<=_;lia
  ·rw[aK,aK];lia
theorem wO (g:VM.eI W v):(Vatwva.valueText v).length<=100 * Vatwva.count v:=EW v false g.2
theorem OH (named:Bool):∀l:List (Name×fT),VM.cJ named l=mM [44,32] (l.map fun x=>Vatwva.nameText named x.1++Vatwva.valueText x.2)
 | []=>rfl
 | [x]=>by show Vatwva.nameText named x.1++(Vatwva.valueText x.2++[])=Vatwva.nameText named x.1++Vatwva.valueText x.2;rw[cI]
 | x::y::l=>by have ih:=OH named (y::l);show Vatwva.nameText named x.1++(Vatwva.valueText x.2++(44::32::VM.cJ named (y::l)))=(Vatwva.nameText named x.1++Vatwva.valueText x.2)++([44,32]++mM [44,32] ((y::l).map _));rw[ih];simp
theorem TJ:∀l:List fT,VM.jE l=mM [44,32] (l.map Vatwva.valueText)
 | []=>rfl
 | [x]=>by show Vatwva.valueText x++[]=Vatwva.valueText x;rw[cI]
 | x::y::l=>by have ih:=TJ (y::l);show Vatwva.valueText x++(44::32::VM.jE (y::l))=Vatwva.valueText x++([44,32]++mM [44,32] ((y::l).map _));rw[ih];simp
noncomputable def WY (H:Hp) (D:aQ):List V->List bW->Prop:=hU fun r t=>∃q,r=.ref q/\q≠D/\H q=some (.lst (cV t))
theorem WY.ts {H:Hp} {D:aQ} {rs:List V} {ts:List bW} (h:WY H D rs ts):Aw H rs ts:=Paired.mapP h fun _ _ ⟨q,e,_,hq⟩=>⟨q,e,hq⟩
theorem WY.same {H H':Hp} {D:aQ} (s:bA H H') {rs:List V} {ts:List bW} (h:WY H D rs ts):WY H' D rs ts:=Paired.mapP h fun _ _ ⟨q,e,n,hq⟩=>⟨q,e,n,s _ _ hq⟩
theorem WY.upd {H:Hp} {D:aQ} {o:HO} {rs:List V} {ts:List bW} (h:WY H D rs ts):WY (upd H D o) D rs ts:=Paired.mapP h fun _ _ ⟨q,e,n,hq⟩=>⟨q,e,n,by rw[bL n];exact hq⟩
theorem xG:∀{l:List α},(∀x∈l,(f x).length+b.length<=m * g x)->kH b (l.map f)<=m * (l.map g).sum
 | [],_=>aY _
 | x::l,h=>by
  have ih:=xG (b:=b) (f:=f) (g:=g) (m:=m) (l:=l) fun y hy=>h y (aL _ hy);have hx:=h x aM;have e:kH b ((x::l).map f)=(f x).length+b.length+kH b (l.map f):=by unfold kH;rw[aP,aP,dW]
  rw[e,aP,dW,Nat.mul_add];lia
inductive zD (d:Nat) (K:aB) (vs:List V) (H:Hp) (Q:VK) (E:XK):Prop
 | mk (x:V) (v:fT):vs=[x]->oG K H x v->VM.eI 24 v->Vatwva.deep v<=d->Vatwva.count v<=200->dX H (Vatwva.valueText v) Q->zD d K vs H Q E
inductive HM (d:Nat) (K:aB) (vs:List V) (H:Hp) (Q:VK) (E:XK):Prop
 | mk (n:Name) (x:V) (v:fT):vs=[.str (bT n),x]->Vatwva.isName n=true->oG K H x v->VM.eI 24 v->Vatwva.deep v<=d->Vatwva.count v<=200->dX H (Vatwva.nameText true n++Vatwva.valueText v) Q->HM d K vs H Q E
theorem dX.fresh (s:bA H H') (h:H' p=none):H p=none:=by
 cases q:H p with
 | none=>rfl
 | some o=>rw[s _ _ q]at h;cases h
theorem XG (T:iM K mg a) (hk:1<=k0) (R:gY P w K mg base k0 "value_text" ["value"] (zD d K)):gY P w K mg base (k0+1) "field_text" ["name","part"] (HM d K):=by refine kL T.f_field_text ["name","part"] fun vs H Q E h=>?_;obtain⟨n,x,v,rfl,hn,hx,g,hd,hc,k⟩:=h;refine⟨rfl,fun nd _ _ _ _ _ hr=>?_⟩;intro X;refine⟨_,aN (bH (kE uM (kE uM (bC (fM T) (hr.mono hk) ⟨rfl,rfl,rfl⟩ (aA (pv 0) aD)) (bC (fM T) (hr.mono hk) ⟨rfl,rfl,rfl⟩ (aA eB aD))) (bC R hr ⟨rfl,rfl,rfl⟩ (aA (pv 1) aD)))),?_⟩;have hnl:=rR hn;have hvl:=wO g;refine⟨_,rfl,n,rfl,by lia,fun A1 H1 s1 hA1 h1=>⟨[58,32],by rw[Lw];rfl,by decide,fun A2 H2 s2 hA2 h2=>?_⟩⟩;refine⟨A1,A2,_,_,rfl,rfl,s2 _ _ h1,h2,big (by rw[bV,bV];show _+2<=_;lia),fun A3 hA3=>?_⟩;have s3:=(s1.trans s2).trans (bA.upd (o:=.lst (cV n++cV [58,32])) hA3);refine⟨_,rfl,x,v,rfl,hx.tups s3.tups,g,hd,hc,fun A4 H4 s4 hA4 h4=>?_⟩;refine⟨A3,A4,_,_,rfl,rfl,s4 _ _ aH,h4,big (by rw[aC,bV,bV,bV];show _+2+_<=_;lia),fun A5 hA5=>?_⟩;refine k A5 _ ((s3.trans s4).trans (bA.upd hA5)) (dX.fresh (s3.trans s4) hA5) ?_;rw[aH,<-eP,<-eP];rfl
theorem Sc:("{":Str)=bT [123]:=by decide
theorem Sd:("}":Str)=bT [125]:=by decide
theorem Uw:("[":Str)=bT [91]:=by decide
theorem Ux:("]":Str)=bT [93]:=by decide
theorem uY (T:iM K mg a):∀d:Nat,gY P w K mg base (2 * d+3) "value_text" ["value"] (zD d K)
 | 0=>by refine kL T.f_value_text ["value","fields","name","part"] fun vs H Q E h=>?_;obtain⟨x,v,rfl,hx,g,hd,_⟩:=h;refine⟨rfl,fun nd _ _ _ _ _ hr=>?_⟩;intro X;exact absurd (VM.qU hx.1) (by lia)
 | d+1=>by
  have R:=uY T d;refine kL T.f_value_text ["value","fields","name","part"] fun vs H Q E h=>?_;obtain⟨x,v,rfl,hx,g,hd,hc,k⟩:=h;refine⟨rfl,fun nd f cdv A outer s hr=>?_⟩;intro X;obtain⟨u1,hm1,ru1⟩:=T.c_NUMBER;obtain⟨u2,hm2,ru2⟩:=T.c_RECORD;obtain⟨u3,hm3,ru3⟩:=T.c_LIST;have hr:jI (2 * d+4) (A.deeper (tZ "value_text" (fU (top 79)) s.heap.objs.size f cdv)):=hr;refine⟨_,aI (fE (dB qK (bC (mJ T) (hr.mono (by lia)) ⟨rfl,rfl,rfl⟩ (aA (pv 0) aD)) (dN rfl hm1 ru1) (dL _)) (aN (bH (bC (fM T) (hr.mono (by lia)) ⟨rfl,rfl,rfl⟩ (aA (lO tH rfl T.n_str WJ (aA (bC (sG T) (hr.mono (by lia)) ⟨rfl,rfl,rfl⟩ (aA (pv 0) aD)) aD)) aD)))) cZ) (aI (fE (dB qK (bC (mJ T) (hr.mono (by lia)) ⟨rfl,rfl,rfl⟩ (aA (pv 0) aD)) (dN rfl hm2 ru2) (dL _)) (aI (Gf (i:=1) rfl nd rfl rfl (Mm rfl rfl rfl (by rfl)) (Cm rfl T.n_zip (aA (bC (sG T) (hr.mono (by lia)) ⟨rfl,rfl,rfl⟩ (aA (pv 0) aD)) (aA (bC (eS T) (hr.mono (by lia)) ⟨rfl,rfl,rfl⟩ (aA (pv 0) aD)) aD))) (vB (own:=[("name",2),("part",3)]) (by rfl)) (g:=Zv K 2 (Rt (SY 2) (Rt (SY 3) Zu))) (fun _ _ _ _ _=>JD (n:=2) (by rfl) (lG (fC (i:=2) nd rfl (bP rfl)) (lG (fC (i:=3) nd rfl (bP rfl)) BP))) (fun _ _ _ _ _=>yH) (fun _ _ _ _ _=>NP (XG T (by lia) R) hr (aA (pv 2) (aA (pv 3) aD)))) (aN (bH (kE uM (kE uM (bC (fM T) (hr.mono (by lia)) ⟨rfl,rfl,rfl⟩ (aA eB aD)) (bC (FW T) (hr.mono (by lia)) ⟨rfl,rfl,rfl⟩ (aA (pv 1) (aA eB aD)))) (bC (fM T) (hr.mono (by lia)) ⟨rfl,rfl,rfl⟩ (aA eB aD)))))) cZ) (aI (fE (dB qK (bC (mJ T) (hr.mono (by lia)) ⟨rfl,rfl,rfl⟩ (aA (pv 0) aD)) (dN rfl hm3 ru3) (dL _)) (aN (bH (kE uM (kE uM (bC (fM T) (hr.mono (by lia)) ⟨rfl,rfl,rfl⟩ (aA eB aD)) (bC (FW T) (hr.mono (by lia)) ⟨rfl,rfl,rfl⟩ (aA (ZI rfl nd (BQ (bC (eS T) (hr.mono (by lia)) ⟨rfl,rfl,rfl⟩ (aA (pv 0) aD))) (vB (own:=[("part",3)]) (by rfl)) (fun _ _ _ _ _=>fC (i:=3) nd rfl (bP rfl)) (fun _ _ _ _ _=>yH) (fun _ _ _ _ _=>NP R (hr.mono (by lia)) (aA (pv 3) aD))) (aA eB aD)))) (bC (fM T) (hr.mono (by lia)) ⟨rfl,rfl,rfl⟩ (aA eB aD))))) cZ) (aN (bH (bC (Fn T) (hr.mono (by lia)) ⟨rfl,rfl,rfl⟩ (aA (bC (sG T) (hr.mono (by lia)) ⟨rfl,rfl,rfl⟩ (aA (pv 0) aD)) aD)))))),?_⟩;rcases g.cases with⟨t,ht,rfl⟩ | ⟨z,hz,rfl⟩ | ⟨l,rfl,gl⟩ | ⟨l,rfl,gl⟩
  ·obtain⟨p,b,c,rfl,h1,h2,h3⟩:=WB.mp hx;refine⟨_,rfl,p,_,_,rfl,h1,rfl,rfl,_,rfl,mV (decide_eq_false (by decide)) ?_⟩;refine⟨_,rfl,p,_,_,rfl,h1,rfl,rfl,_,rfl,mV (decide_eq_false (by decide)) ?_⟩;refine⟨_,rfl,p,_,_,rfl,h1,rfl,rfl,_,rfl,mV (decide_eq_false (by decide)) ?_⟩;refine⟨_,rfl,p,_,_,rfl,h1,rfl,b,t,rfl,h2,?_,?_⟩
   ·unfold Vatwva.isText at ht;rw[aE,decide_eq_true_iff]at ht;have:t.length<=30:=ht.1
    lia
   ·rw[VM.nA]at k;exact k
  ·obtain⟨p,c,rfl,h1,h2⟩:=Cz.mp hx;refine⟨_,rfl,p,_,_,rfl,h1,rfl,rfl,_,rfl,pL (decide_eq_true rfl) ?_⟩;refine⟨_,rfl,p,_,_,rfl,h1,rfl,z,rfl,Up hz,Vatwva.integer z,by rw[Gu];rfl,?_,?_⟩
   ·have:=OJ hz;lia
   ·rw[VM.oV]at k;exact k
  ·have ho:∀z∈l,VM.mQ z.2:=fun z hz=>(gl.2.2 z hz).2.1;obtain⟨p,b,c,zs,rfl,h1,h2,h3,h4⟩:=(RK ho).mp hx;have hzl:(dR l).length=zs.length:=by rw[gW,h4.length,aJ]
   have hcount:=VM.mS ho;have hdeep:=VM.mG ho;refine⟨_,rfl,p,_,_,rfl,h1,rfl,rfl,_,rfl,mV (decide_eq_false (by decide)) ?_⟩;refine⟨_,rfl,p,_,_,rfl,h1,rfl,rfl,_,rfl,pL (decide_eq_true rfl) ?_⟩;refine⟨_,rfl,p,_,_,rfl,h1,rfl,_,rfl,p,_,_,rfl,h1,rfl,b,c,_,_,rfl,h2,h3,fun D hD=>?_⟩;refine Uv (xs:=dR l) (ys:=zs) hzl (fun j H'=>bA H H'/\∃rs,H' D=some (.lst rs)/\WY H' D rs ((l.take j).map fun x=>Vatwva.nameText true x.1++Vatwva.valueText x.2)) ⟨bA.upd hD,[],aH,.nil⟩ (fun j H' _ h=>⟨h.1.sqT h2,h.1.sqT h3⟩) (fun j n y t' H' hn hy ht' h=>?_) (fun H' h=>?_)
   ·obtain⟨sm,rs,hD',hts⟩:=h;unfold dR at hn;rw[bX]at hn;obtain⟨kid,ek,rfl⟩:=aO.mp hn;have mk:=bB ek;obtain⟨v1,ev,hv⟩:=h4.get hy;rw[bX,ek]at ev;cases ev;have sT:bA H' (upd H' t' (.tup [.str (bT kid.1),y])):=bA.upd ht';have hcm:=VM.IY mk;have hdm:Vatwva.deep kid.2<=d:=by rw[hdeep]at hd;exact VM.pY.mp (tY hd) _ (aX.mpr ⟨kid,mk,rfl⟩)
    refine⟨t',_,rfl,.of' aH,rfl,_,_,rfl,_,_,rfl,rfl,rfl,tJ (B:=bA H (upd H' t' (.tup [.str (bT kid.1),y]))/\∃rs,upd H' t' (.tup [.str (bT kid.1),y]) D=some (.lst rs)/\WY (upd H' t' (.tup [.str (bT kid.1),y])) D rs ((l.take (j+1)).map fun x=>Vatwva.nameText true x.1++Vatwva.valueText x.2)) ?_⟩;refine⟨_,rfl,_,rfl,kid.1,y,kid.2,rfl,(gl.2.2 kid mk).1,hv.tups (sm.trans sT).tups,(gl.2.2 kid mk).2,hdm,by lia,fun B H4 s4 hB0 hB=>?_⟩;have hD4:=s4 _ _ (sT _ _ hD');have hBD:B≠D:=fun z=>by rw[z,sT _ _ hD']at hB0;cases hB0
    have hrl:=hts.length;refine⟨rs,hD4,MY ?_,dC (sm.trans (sT.trans s4)) hD,rs++[.ref B],aH,?_⟩
    ·rw[hrl,aJ,bK];have:=gl.1;lia
    ·rw[jC ek,aW];exact Paired.snoc (WY.upd (hts.same (sT.trans s4))) ⟨B,rfl,hBD,by rw[bL hBD];exact hB⟩
   ·obtain⟨sm,rs,hD',hts⟩:=h;rw[gW,cN]at hts;have htot:kH [44,32] (l.map fun x=>Vatwva.nameText true x.1++Vatwva.valueText x.2)<=120 * (l.map fun x=>Vatwva.count x.2).sum:=xG fun x hx'=>by
     have h1:=rR (gl.2.2 x hx').1;have h2:=wO (gl.2.2 x hx').2;have h3:=VM.FJ (ho x hx');show((x.1++[58,32])++Vatwva.valueText x.2).length+2<=_;rw[aC,aC];show x.1.length+2+_+2<=_
     lia
    have hjl:=pM [44,32] (l.map fun x=>Vatwva.nameText true x.1++Vatwva.valueText x.2) l.length;rw[<-aJ (as:=l) (f:=fun x=>Vatwva.nameText true x.1++Vatwva.valueText x.2),cN]at hjl;refine⟨[123],by rw[Sc];rfl,by decide,fun A1 H1 s1 hA1 g1=>?_⟩;refine⟨_,rfl,D,rs,_,[44,32],by rw[RA];rfl,s1 _ _ hD',(hts.ts).same s1,by lia,by decide,fun A2 H2 s2 hA2 g2=>?_⟩;refine⟨A1,A2,_,_,rfl,rfl,s2 _ _ g1,g2,big (by rw[bV,bV];show 1+_<=_;lia),fun A3 hA3=>?_⟩;have s3:=((sm.trans s1).trans s2).trans (bA.upd (o:=.lst (cV [123]++cV (mM [44,32] (l.map fun x=>Vatwva.nameText true x.1++Vatwva.valueText x.2)))) hA3);refine⟨[125],by rw[Sd];rfl,by decide,fun A4 H4 s4 hA4 g4=>?_⟩;refine⟨A3,A4,_,_,rfl,rfl,s4 _ _ aH,g4,big (by rw[aC,bV,bV,bV];show 1+_+1<=_;lia),fun A5 hA5=>?_⟩;refine k A5 _ ((s3.trans s4).trans (bA.upd hA5)) (dX.fresh (s3.trans s4) hA5) ?_;rw[aH,<-eP,<-eP,VM.oA ho,OH];rfl
  ·have ho:∀z∈l,VM.mQ z:=fun z hz=>(gl.2 z hz).1;obtain⟨p,b,c,zs,rfl,h1,h2,h3,h4⟩:=(He ho).mp hx;have hcount:=VM.lP ho;have hdeep:=VM.lQ ho;refine⟨_,rfl,p,_,_,rfl,h1,rfl,rfl,_,rfl,mV (decide_eq_false (by decide)) ?_⟩;refine⟨_,rfl,p,_,_,rfl,h1,rfl,rfl,_,rfl,mV (decide_eq_false (by decide)) ?_⟩;refine⟨_,rfl,p,_,_,rfl,h1,rfl,rfl,_,rfl,pL (decide_eq_true rfl) ?_⟩;refine⟨[91],by rw[Uw];rfl,by decide,fun A1 H1 s1 hA1 g1=>?_⟩;refine⟨_,rfl,p,_,_,rfl,s1.sqT h1,rfl,c,rfl,⟨_,s1.sqT h3⟩,fun D hD=>?_⟩;have hD0:=dX.fresh s1 hD;refine Jq (xs:=zs) (fun j H'=>bA H1 H'/\∃rs,H' D=some (.lst rs)/\WY H' D rs ((l.take j).map Vatwva.valueText)) ⟨bA.upd hD,[],aH,.nil⟩ (fun j H' _ h=>(s1.trans h.1).sqT h3) (fun j y H' hy h=>?_) (fun H' h=>?_)
   ·obtain⟨sm,rs,hD',hts⟩:=h;obtain⟨v1,ev,hv⟩:=h4.get hy;have mv:=bB ev;have hcm:=VM.NK mv;have hdm:Vatwva.deep v1<=d:=by rw[hdeep]at hd;exact VM.pY.mp (tY hd) _ (aX.mpr ⟨v1,mv,rfl⟩)
    refine⟨rfl,tJ (B:=bA H1 H'/\∃rs,H' D=some (.lst rs)/\WY H' D rs ((l.take (j+1)).map Vatwva.valueText)) ?_⟩;refine⟨_,rfl,y,v1,rfl,hv.tups (s1.trans sm).tups,gl.2 v1 mv,hdm,by lia,fun B H4 s4 hB0 hB=>?_⟩;have hD4:=s4 _ _ hD';have hBD:B≠D:=fun z=>by rw[z,hD']at hB0;cases hB0
    have hrl:=hts.length;refine⟨rs,hD4,MY ?_,dC (sm.trans s4) hD,rs++[.ref B],aH,?_⟩
    ·rw[hrl,aJ,bK];have:=gl.1;lia
    ·rw[jC ev,aW];exact Paired.snoc (WY.upd (hts.same s4)) ⟨B,rfl,hBD,by rw[bL hBD];exact hB⟩
   ·obtain⟨sm,rs,hD',hts⟩:=h;rw[h4.length,cN]at hts;have htot:kH [44,32] (l.map Vatwva.valueText)<=120 * (l.map Vatwva.count).sum:=xG fun x hx'=>by
     have h2:=wO (gl.2 x hx');have h3:=VM.FJ (ho x hx');show(Vatwva.valueText x).length+2<=_
     lia
    have hjl:=pM [44,32] (l.map Vatwva.valueText) l.length;rw[<-aJ (as:=l) (f:=Vatwva.valueText),cN]at hjl;have sA:=s1.trans sm;refine⟨D,rs,_,[44,32],by rw[RA];rfl,hD',hts.ts,by lia,by decide,fun A2 H2 s2 hA2 g2=>?_⟩;refine⟨A1,A2,_,_,rfl,rfl,s2 _ _ (sm _ _ g1),g2,big (by rw[bV,bV];show 1+_<=_;lia),fun A3 hA3=>?_⟩;have s3:=(sA.trans s2).trans (bA.upd (o:=.lst (cV [91]++cV (mM [44,32] (l.map Vatwva.valueText)))) hA3);refine⟨[93],by rw[Ux];rfl,by decide,fun A4 H4 s4 hA4 g4=>?_⟩;refine⟨A3,A4,_,_,rfl,rfl,s4 _ _ aH,g4,big (by rw[aC,bV,bV,bV];show 1+_+1<=_;lia),fun A5 hA5=>?_⟩;refine k A5 _ ((s3.trans s4).trans (bA.upd hA5)) (dX.fresh (s3.trans s4) hA5) ?_;rw[aH,<-eP,<-eP,VM.qF ho,TJ];rfl
inductive VN (a:mF) (vs:List V) (H:Hp) (Q:VK) (E:XK):Prop
 | mk (t:bW):vs=[.str (bT t)]->t.all cG=true->t.length<=6000->(∀s,Vatwva.stepOf t=some s->Q (VU s) H)->(Vatwva.stepOf t=none->E (.ref a.xUnreadable) none H)->VN a vs H Q E
theorem UP (T:iM K mg a):gY P w K mg base 2 "as_step" ["word"] (VN a):=by
 refine kL T.f_as_step ["word"] fun vs H Q E h=>?_;obtain⟨t,rfl,ht,hl,k1,k2⟩:=h;refine⟨rfl,fun nd _ _ _ _ _ hr=>?_⟩;intro X;refine⟨_,aI (fE (mY (VA sW yO yP JA (pv 0))) (aN (bH (bC (OP T) hr ⟨rfl,rfl,rfl⟩ (aA (pv 0) aD)))) cZ) (aN (bH (bC (UO T) hr ⟨rfl,rfl,rfl⟩ (aA (pv 0) aD)))),?_⟩;refine⟨_,rfl,rfl,_,rfl,rfl,trivial,_,rfl,?_⟩;rw[BG ht];refine nI (fun c=>?_) (fun c=>?_)
 ·rw[aE]at c;have hnm:¬Vatwva.isName t=true:=by
   cases t with
   | nil=>simp at c
   | cons b t=>intro z;have:=(Fi ht).mp z;rw[cR,aE]at c;rw[c.2.1]at this;cases this.1
  have e:Vatwva.stepOf t=(Vatwva.naturalOf t).map .item:=by unfold Vatwva.stepOf;rw[if_neg hnm]
  refine⟨_,rfl,t,rfl,ht,hl,fun n hn=>k1 (.item n) (by rw[e,hn];rfl),fun hn=>k2 (by rw[e,hn];rfl)⟩
 ·refine⟨_,rfl,t,rfl,ht,hl,fun hn=>k1 (.field t) (by unfold Vatwva.stepOf;rw[if_pos hn]),fun hn=>k2 ?_⟩;unfold Vatwva.stepOf;rw[if_neg hn];have:Vatwva.naturalOf t=none:=by unfold Vatwva.naturalOf;rw[if_neg fun z=>c ?_];simp only[aE]at z ⊢;exact⟨z.1,z.2.2.1⟩
  rw[this];rfl
noncomputable def Uf (K:aB):Hp->V->Vatwvc.Path->Prop:=fun H y p=>∃q,y=.ref q/\fK K H q (qL p)
inductive MD (a:mF) (K:aB) (vs:List V) (H:Hp) (Q:VK) (E:XK):Prop
 | mk (p:_) (m:_) (r:_):vs=[.ref p]->RR a H p m r->oF a p m H (qN r) (Uf K) Q E->MD a K vs H Q E
theorem Bq:("/":Str)=bT [47]:=by decide
theorem Ot:((" ":Str).cps.getD 0 0:Nat)=(32:UInt8).toNat:=by decide
theorem Lm {r:bW} {c:UInt8} {i:Int} (h:i=(c.toNat:Nat)):decide (vV r=.int i)=true↔r.head?=some c:=by subst h;rw[decide_eq_true_iff,KD]
theorem SR {c:UInt8} {r r':bW}:jJ [c] r=some r'↔r.head?=some c/\r'=r.tail:=by
 rw[VM.iJ];constructor
 ·rintro rfl;exact⟨rfl,rfl⟩
 ·rintro⟨h,rfl⟩;exact VM.mU h
theorem By (T:iM K mg a):gY P w K mg base 4 "read_path" ["reader"] (MD a K):=by
 refine kL T.f_read_path ["reader","steps"] fun vs H Q E h=>?_
 obtain⟨p,m,r,rfl,hp,k⟩:=h
 refine⟨rfl,fun nd _ _ _ _ _ hr=>?_⟩
 intro X
 refine⟨_,aI (dO (sI (wM T) T.q_Reader hr ⟨rfl,rfl,rfl⟩ (pv 0) (aA eB aD)))
  (aI (fE (dB qK (mK (xC T) T.q_Reader hr.m ⟨rfl,rfl,rfl⟩ (pv 0)) (cY mR rfl T.n_ord rH (aA eB aD)) (dL _)) (aN (bH (iT aD))) cZ)
  (aI (cM (i:=1) nd rfl (bP rfl) (eL (aA (bC (UP T) hr.m ⟨rfl,rfl,rfl⟩ (aA (mK (tL T) T.q_Reader hr.m ⟨rfl,rfl,rfl⟩ (pv 0)) aD)) aD)))
  (aI (AD (gK ⟨rfl,rfl,rfl⟩) (mY (sI (qY T) T.q_Reader hr.m ⟨rfl,rfl,rfl⟩ (pv 0) (aA eB aD)))
   (aN (dO (nM bG bR bS gI (pv 1) (aA (bC (UP T) hr.m ⟨rfl,rfl,rfl⟩ (aA (mK (tL T) T.q_Reader hr.m ⟨rfl,rfl,rfl⟩ (pv 0)) aD)) aD)))))
  (aN (bH (lO EX rfl T.n_tuple boot_tuple (aA (pv 1) aD))))))),?_⟩
 obtain⟨dx,fl,h1,h2⟩:=hp.at
 refine⟨_,rfl,p,dx,fl,rfl,h1,h2 _ (by decide) (by decide),p,m,r,[47],by rw[Bq];rfl,hp,fun r1 he H1 b1 hr1=>?_,fun he=>k.no ?_⟩
 rotate_left
 ·unfold qN
  rw[if_neg fun z=>?_]
  rw[SR.mpr ⟨z,rfl⟩]at he
  cases he
 obtain⟨hh,rfl⟩:=SR.mp he
 obtain⟨dx1,fl1,f1,f2⟩:=hr1.at
 have e0:qN r=if r.tail.head?=some 32 then some ([],r.tail)else (uP r.tail).bind fun s=>(pR s.2).map fun y=>(s.1::y.1,y.2):=by
  unfold qN;rw[if_pos hh]
 have o32:((((" ":Str).cps.getD 0 0:Nat)):Int)=((32:UInt8).toNat:Nat):=by rw[Ot]
 refine⟨_,rfl,p,dx1,fl1,rfl,f1,f2 _ (by decide) (by decide),p,m,r.tail,rfl,hr1,_,rfl,rfl,JF _ _,_,rfl,nI (fun c=>?_) (fun c=>?_)⟩
 ·have c:=(Lm o32).mp c
  rw[if_pos c]at e0
  refine⟨aY _,fun t ht=>?_⟩
  exact k.yes e0 _ _ (b1.trans (bA.but (bA.upd ht))) (hr1.same (bA.upd ht)) ⟨t,rfl,.of' aH⟩
 ·have c:¬r.tail.head?=some 32:=fun z=>c ((Lm o32).mpr z)
  rw[if_neg c]at e0
  refine⟨_,rfl,p,dx1,fl1,rfl,f1,f2 _ (by decide) (by decide),p,m,r.tail,rfl,hr1,fun H2 b2 hr2=>⟨_,rfl,BS _,bI (BU _) hr1.len,fun s1 hs1=>?_,fun hs1=>?_⟩⟩
  rotate_left
  ·exact k.no (by rw[e0];unfold uP;rw[hs1];rfl) H2 (b1.trans b2)
  have est:uP r.tail=some (s1,kG r.tail):=by unfold uP;rw[hs1];rfl
  rw[est]at e0
  have e0:qN r=(pR (kG r.tail)).map fun y=>(s1::y.1,y.2):=e0
  refine⟨(by show 1<=aU;decide),fun l hl=>?_⟩
  have b12:=b1.trans b2
  have hlH:H l=none:=by
   cases q:H l with
   | none=>rfl
   | some o=>
    by_cases z:l=p
    ·subst z
     obtain⟨_,_,y,_⟩:=hr2
     rw[y]at hl;cases hl
    ·rw[b12 l o z q]at hl;cases hl
  have lp:=hp.ne hlH
  have sl:bA H2 (upd H2 l (.lst [VU s1])):=bA.upd hl
  have hrl:(kG r.tail).length<=6000:=hr2.len
  refine⟨fun n σ H'=>∃ss r',σ=[some (.ref p),some (.ref l)]/\H' l=some (.lst (qL ss))/\RR a H' p m r'/\sN p H H'/\qN r=(pR r').map (fun x=>(ss++x.1,x.2))/\ss.length+r'.length<=7000/\n=r'.length,
   ⟨_,[s1],kG r.tail,rfl,aH,hr2.same sl,b12.trans (bA.but sl),e0,by show 1+_<=_;lia,rfl⟩,?_⟩
  rintro n σ H' ⟨ss,r',rfl,hl',hr',hb,e,hn,rfl⟩
  obtain⟨dx3,fl3,g1,g2⟩:=hr'.at
  have elen:(qL ss).length=ss.length:=aJ _
  refine⟨_,rfl,p,dx3,fl3,rfl,g1,g2 _ (by decide) (by decide),p,m,r',47,rfl,hr',fun hh H3 b3 r3=>⟨_,rfl,tJ ?_⟩,fun hh=>⟨_,rfl,xR ?_⟩⟩
  ·have hl3:H3 l=some (.lst (qL ss)):=b3 l _ lp hl'
   obtain⟨dx4,fl4,i1,i2⟩:=r3.at
   rw[pR,if_pos hh]at e
   refine⟨fun σ' H''=>∃ss r2,σ'=[some (.ref p),some (.ref l)]/\H'' l=some (.lst (qL ss))/\RR a H'' p m r2/\sN p H H''/\qN r=(pR r2).map (fun x=>(ss++x.1,x.2))/\ss.length+r2.length<=7000/\r2.length < r'.length,
    fun σ' H'' ⟨ss,r2,q1,q2,q3,q4,q5,q6,q7⟩=>⟨_,q7,ss,r2,q1,q2,q3,q4,q5,q6,rfl⟩,?_⟩
   refine⟨_,rfl,.inl ⟨rfl,_,hJ.of hl3⟩,_,rfl,p,dx4,fl4,rfl,i1,i2 _ (by decide) (by decide),p,m,r'.tail,rfl,r3,fun H4 b4 r4=>⟨_,rfl,BS _,bI (BU _) r3.len,fun s2 hs2=>?_,fun hs2=>?_⟩⟩
   rotate_left
   ·exact k.no (by rw[e];unfold uP;rw[hs2];rfl) H4 ((hb.trans b3).trans b4)
   have est:uP r'.tail=some (s2,kG r'.tail):=by unfold uP;rw[hs2];rfl
   rw[est]at e
   have hrest:(kG r'.tail).length < r'.length:=by
    have h1:=congrArg sQ (VM.uT r'.tail)
    rw[aC]at h1
    have h2:=VM.mU hh
    have h3:=congrArg sQ h2
    rw[aK]at h3
    lia
   have e:qN r=((if h:(kG r'.tail).length < r'.length then (pR (kG r'.tail)).map fun y=>(s2::y.1,y.2)else none):Option (List Vatwva.Step×bW)).map (fun x=>(ss++x.1,x.2)):=e
   rw[dif_pos hrest]at e
   have hl4:H4 l=some (.lst (qL ss)):=b4 l _ lp hl3
   refine⟨l,_,_,rfl,rfl,hl4,small (by rw[elen];lia),ss++[s2],kG r'.tail,rfl,?_,r4.upd hp hlH,tF ((hb.trans b3).trans b4) hlH,?_,by rw[aC,cS];lia,hrest⟩
   ·rw[aH];unfold qL;rw[aW];rfl
   ·rw[e,nE]
    congr 1
    funext z
    show(ss++s2::z.1,z.2)=_
    simp
  ·rw[pR,if_neg hh]at e
   have e:qN r=some (ss++[],r'):=e
   rw[cI]at e
   refine⟨_,rfl,l,_,rfl,.inl (hJ.of hl'),fun t H5 s5 ht=>?_⟩
   exact k.yes e H5 _ (hb.trans (bA.but s5)) (hr'.same s5) ⟨t,rfl,ht⟩
noncomputable def Rs:QI->Str
 | .place=>"place"
 | .name=>"name"
 | .value=>"value"
noncomputable def yA (f:QI):V:=.str (Rs f)
noncomputable def WX (K:aB) (H:Hp) (y:V):rN->Prop
 | .place n=>y=.int (n:Nat)
 | .name n=>y=.str (bT n)
 | .value v=>oG K H y v
theorem WX.tups (s:zP H H') (h:WX K H y d):WX K H' y d:=by
 cases d with
 | place n=>exact h
 | name n=>exact h
 | value v=>exact oG.tups s h
inductive ER (a:mF) (K:aB) (vs:List V) (H:Hp) (Q:VK) (E:XK):Prop
 | mk (p:_) (m:_) (r:_) (f:_):vs=[.ref p,yA f]->RR a H p m r->oF a p m H (OX f r) (WX K) Q E->ER a K vs H Q E
theorem UV (T:iM K mg a):gY P w K mg base 20 "read_detail" ["reader","form"] (ER a K):=by
 refine kL T.f_read_detail ["reader","form"] fun vs H Q E h=>?_;obtain⟨p,m,r,f,rfl,hp,k⟩:=h;refine⟨rfl,fun nd _ _ _ _ _ hr=>?_⟩;intro X;obtain⟨u1,hm1,ru1⟩:=T.c_PLACE;obtain⟨u2,hm2,ru2⟩:=T.c_NAME;refine⟨_,aI (fE (dB qK (pv 1) (dN rfl hm1 ru1) (dL _)) (aN (bH (bC (yZ T) hr.m ⟨rfl,rfl,rfl⟩ (aA (pv 0) aD)))) cZ) (aI (fE (dB qK (pv 1) (dN rfl hm2 ru2) (dL _)) (aN (bH (bC (LK T) hr.m ⟨rfl,rfl,rfl⟩ (aA (pv 0) aD)))) cZ) (aN (bH (bC (HB T) hr ⟨rfl,rfl,rfl⟩ (aA (pv 0) aD))))),?_⟩;cases f with
 | place=>
  refine⟨_,rfl,rfl,_,rfl,pL (decide_eq_true rfl) ⟨_,rfl,p,m,r,rfl,hp,?_⟩⟩;cases q:kR r with
  | none=>exact k.no (show(kR r).map _=none by rw[q];rfl)
  | some x=>exact fun H' y b hr' hy=>k.yes (x:=rN.place x.1) (r:=x.2) (show(kR r).map (fun x=>(rN.place x.1,x.2))=some (rN.place x.1,x.2)by rw[q];rfl) H' y b hr' hy
 | name=>
  refine⟨_,rfl,rfl,_,rfl,mV (decide_eq_false (by decide)) ⟨_,rfl,rfl,_,rfl,pL (decide_eq_true rfl) ⟨_,rfl,p,m,r,rfl,hp,?_⟩⟩⟩;cases q:uO r with
  | none=>exact k.no (show(uO r).map _=none by rw[q];rfl)
  | some x=>exact fun H' y b hr' hy=>k.yes (x:=rN.name x.1) (r:=x.2) (show(uO r).map (fun x=>(rN.name x.1,x.2))=some (rN.name x.1,x.2)by rw[q];rfl) H' y b hr' hy
 | value=>
  refine⟨_,rfl,rfl,_,rfl,mV (decide_eq_false (by decide)) ⟨_,rfl,rfl,_,rfl,mV (decide_eq_false (by decide)) ⟨_,rfl,p,m,r,rfl,hp,?_⟩⟩⟩;cases q:rG r with
  | none=>exact k.no (show(rG r).map _=none by rw[q];rfl)
  | some x=>exact fun H' y b hr' hy=>k.yes (x:=rN.value x.1) (r:=x.2) (show(rG r).map (fun x=>(rN.value x.1,x.2))=some (rN.value x.1,x.2)by rw[q];rfl) H' y b hr' hy
theorem Ly:("set":Str)=bT (Vatwva.ascii "set"):=by decide
theorem Lx:("put":Str)=bT (Vatwva.ascii "put"):=by decide
theorem Fd:("take":Str)=bT (Vatwva.ascii "take"):=by decide
theorem Fb:("move":Str)=bT (Vatwva.ascii "move"):=by decide
theorem Lv:("add":Str)=bT (Vatwva.ascii "add"):=by decide
theorem Ez:("drop":Str)=bT (Vatwva.ascii "drop"):=by decide
theorem TZ:("rename":Str)=bT (Vatwva.ascii "rename"):=by decide
theorem MQ (e:gH):IA e=bT (VM.iL e):=by
 cases e
 ·exact Ly
 ·exact Lx
 ·exact Fd
 ·exact Fb
 ·exact Lv
 ·exact Ez
 ·exact TZ
theorem xH {l:Str} {t u:bW} {v:V} {r:List (CS×V)} (hl:l=bT t):qP ((JS l,v)::r) (.inr (bT u))=if u=t then some v else qP r (.inr (bT u)):=by
 by_cases h:u=t
 ·rw[if_pos h];exact oM (by rw[hl,h])
 ·rw[if_neg h];exact oK fun z=>h (uR (by rw[<-hl];exact(Sum.inr.inj z).symm))
theorem NG (B:sO P w K mg a):∃kvs,xW P w K a.dFORMS kvs/\∀t:bW,(∀fs,wF t=some fs->∃q,qP kvs (.inr (bT t))=some (.ref q)/\∀H:Hp,fK K H q (fs.map yA))/\(wF t=none->qP kvs (.inr (bT t))=none):=by
 obtain⟨t1,t2,t3,t4,t5,t6,t7,h,kd⟩:=B.forms
 refine⟨_,kd,fun t=>?_⟩
 rw[xH Ly,xH Lx,xH Fd,xH Fb,xH Lv,xH Ez,xH TZ,Ts]
 unfold wF
 split
 ·exact⟨fun fs e=>by cases e;exact⟨t1,rfl,fun H=>(h H).1⟩,fun e=>by cases e⟩
 split
 ·exact⟨fun fs e=>by cases e;exact⟨t2,rfl,fun H=>(h H).2.1⟩,fun e=>by cases e⟩
 split
 ·exact⟨fun fs e=>by cases e;exact⟨t3,rfl,fun H=>(h H).2.2.1⟩,fun e=>by cases e⟩
 split
 ·exact⟨fun fs e=>by cases e;exact⟨t4,rfl,fun H=>(h H).2.2.2.1⟩,fun e=>by cases e⟩
 split
 ·exact⟨fun fs e=>by cases e;exact⟨t5,rfl,fun H=>(h H).2.2.2.2.1⟩,fun e=>by cases e⟩
 split
 ·exact⟨fun fs e=>by cases e;exact⟨t6,rfl,fun H=>(h H).2.2.2.2.2.1⟩,fun e=>by cases e⟩
 split
 ·exact⟨fun fs e=>by cases e;exact⟨t7,rfl,fun H=>(h H).2.2.2.2.2.2⟩,fun e=>by cases e⟩
 ·exact⟨fun fs e=>(by cases e),fun _=>rfl⟩
inductive BX (a:mF) (vs:List V) (H:Hp) (Q:VK) (E:XK):Prop
 | mk (x:_) (dx:_) (y1:_) (y2:_) (y3:_):vs=[.ref x,y1,y2,y3]->H x=some (.ins a.cEdit dx [])->Q .non (upd (upd (upd H x (.ins a.cEdit dx [("word",y1)])) x (.ins a.cEdit dx [("word",y1),("path",y2)])) x (.ins a.cEdit dx [("word",y1),("path",y2),("details",y3)]))->BX a vs H Q E
theorem rE (T:iM K mg a):Wk P w K mg base 1 a.cEdit ["self","word","path","details"] (BX a):=by refine E8 T.mk_Edit ["self","word","path","details"] fun vs H Q E h=>?_;obtain⟨x,dx,y1,y2,y3,rfl,hx,k⟩:=h;refine⟨rfl,fun nd _ _ _ _ _ hr=>?_⟩;intro X;refine⟨_,aI (nY (pv 0) (pv 1) rfl) (aI (nY (pv 0) (pv 2) rfl) (aN (nY (pv 0) (pv 3) rfl))),?_⟩;exact⟨_,rfl,_,rfl,x,_,dx,_,rfl,hx,T.q_Edit,T.na_Edit_word,(by show 0 < 1000;decide),_,rfl,_,rfl,x,_,dx,_,rfl,aH,T.q_Edit,T.na_Edit_path,(by show 1 < 1000;decide),_,rfl,_,rfl,x,_,dx,_,rfl,aH,T.q_Edit,T.na_Edit_details,(by show 2 < 1000;decide),k⟩
theorem vI (hx:H x=none) (hdx:H dx=none):bA H (upd (upd (upd (upd (upd H dx (.own x)) x (.ins a.cEdit dx [])) x (.ins a.cEdit dx [("word",y1)])) x (.ins a.cEdit dx [("word",y1),("path",y2)])) x (.ins a.cEdit dx [("word",y1),("path",y2),("details",y3)])):=dC (dC (dC (dC (bA.upd hdx) hx) hx) hx) hx
theorem Xj (h:fK K H d ys) (hd:hU (WX K H) ys (VM.fA e)):Tx K H d e:=by
 cases e with
 | set p v=>
  cases hd with
  | cons h1 h2=>cases h2;exact⟨_,h,h1⟩
 | put p i v=>
  cases hd with
  | cons h1 h2=>
   cases h2 with
   | cons h2 h3=>cases h3;cases(show _=_ from h1);exact⟨_,h,h2⟩
 | take p i=>
  cases hd with
  | cons h1 h2=>cases h2;cases(show _=_ from h1);exact h
 | move p i j=>
  cases hd with
  | cons h1 h2=>
   cases h2 with
   | cons h2 h3=>cases h3;cases(show _=_ from h1);cases(show _=_ from h2);exact h
 | add p i n v=>
  cases hd with
  | cons h1 h2=>
   cases h2 with
   | cons h2 h3=>
    cases h3 with
    | cons h3 h4=>cases h4;cases(show _=_ from h1);cases(show _=_ from h2);exact⟨_,h,h3⟩
 | drop p n=>
  cases hd with
  | cons h1 h2=>cases h2;cases(show _=_ from h1);exact h
 | rename p n m=>
  cases hd with
  | cons h1 h2=>
   cases h2 with
   | cons h2 h3=>cases h3;cases(show _=_ from h1);cases(show _=_ from h2);exact h
def RU (a:mF) (K:aB) (H:Hp) (o:Option gH) (Q:VK) (E:XK):Prop:=match o with
 | some e=>∀H' ep,bA H H'->Dm a K H' ep e->Q (.ref ep) H'
 | none=>∀H',bA H H'->E (.ref a.xUnreadable) none H'
theorem RU.no (h:RU a K H o Q E) (e:∀x,o≠some x):∀H',bA H H'->E (.ref a.xUnreadable) none H':=by
 cases o with
 | none=>exact h
 | some x=>exact absurd rfl (e x)
theorem RU.yes (h:RU a K H o Q E) (e:o=some x):∀H' ep,bA H H'->Dm a K H' ep x->Q (.ref ep) H':=by rw[e]at h;exact h
inductive LW (a:mF) (K:aB) (vs:List V) (H:Hp) (Q:VK) (E:XK):Prop
 | mk (l:_) (t:_):vs=[.ref l]->H l=some (.lst (cV t))->t.length<=6000->RU a K H (Vatwvc.editOf t) Q E->LW a K vs H Q E
theorem NJ:(" ":Str)=bT [32]:=by decide
theorem sN.none (b:sN p H H') (h:H' l=none) (n:l≠p):H l=none:=by
 cases q:H l with
 | none=>rfl
 | some o=>rw[b l o n q]at h;cases h
theorem Paired.appendP (h:hU R xs ys) (h':hU R xs' ys'):hU R (xs++xs') (ys++ys'):=by
 induction h with
 | nil=>exact h'
 | cons r _ ih=>exact .cons r ih
theorem nV (T:iM K mg a) (B:sO P w K mg a):gY P w K mg base 21 "edit_from" ["text"] (LW a K):=by
 refine kL T.f_edit_from ["text","reader","word","path","details","form"] fun vs H Q E h=>?_
 obtain⟨l,t,rfl,hl,hn,k⟩:=h
 refine⟨rfl,fun nd _ _ _ _ _ hr=>?_⟩
 intro X
 refine⟨_,aI (cM (i:=1) nd rfl (bP rfl) (nX (ZC T) T.k_Reader hr.m ⟨rfl,rfl,rfl⟩ (aA (pv 0) aD)))
  (aI (cM (i:=2) nd rfl (bP rfl) (mK (tL T) T.q_Reader hr.m ⟨rfl,rfl,rfl⟩ (pv 1)))
  (aI (fE (Xy (Ow (pv 2) (dN (v:=.ref a.dFORMS) (by rfl) T.d_FORMS rfl))) (aN (iZ ⟨rfl,rfl,rfl⟩ rfl rfl T.x_Unreadable.1 T.x_Unreadable.2)) cZ)
  (aI (dO (sI (wM T) T.q_Reader hr.m ⟨rfl,rfl,rfl⟩ (pv 1) (aA eB aD)))
  (aI (cM (i:=3) nd rfl (bP rfl) (bC (By T) hr.m ⟨rfl,rfl,rfl⟩ (aA (pv 1) aD)))
  (aI (cM (i:=4) nd rfl (bP rfl) (eL aD))
  (aI (pP (gK ⟨rfl,rfl,rfl⟩) rfl (BQ (BO (dN (v:=.ref a.dFORMS) (by rfl) T.d_FORMS rfl) (pv 2) (fun _ _=>rfl))) (fC (i:=5) nd rfl (bP rfl))
   (aI (dO (sI (wM T) T.q_Reader hr.m ⟨rfl,rfl,rfl⟩ (pv 1) (aA eB aD)))
   (aN (dO (nM bG bR bS gI (pv 4) (aA (bC (UV T) hr ⟨rfl,rfl,rfl⟩ (aA (pv 1) (aA (pv 5) aD))) aD))))))
  (aI (fE (xF (mY (mK (Fm T) T.q_Reader hr.m ⟨rfl,rfl,rfl⟩ (pv 1)))) (aN (iZ ⟨rfl,rfl,rfl⟩ rfl rfl T.x_Unreadable.1 T.x_Unreadable.2)) cZ)
  (aN (bH (nX (rE T) T.k_Edit hr.m ⟨rfl,rfl,rfl⟩ (aA (pv 2) (aA (pv 3) (aA (lO EX rfl T.n_tuple boot_tuple (aA (pv 4) aD)) aD))))))))))))),?_⟩
 refine⟨_,rfl,fun x dx hx hdx ne=>⟨x,l,dx,rfl,aH,rfl,?_⟩⟩
 obtain⟨s1,r1⟩:=UA (a:=a) hl hn hx hdx ne
 revert s1 r1
 generalize upd (upd (upd (upd H dx (.own x)) x (.ins a.cReader dx [])) x (.ins a.cReader dx [("text",.ref l)])) x (.ins a.cReader dx [("text",.ref l),("place",.int 0)])=H1
 intro s1 r1
 have no:∀{H'},sN x H1 H'->(∀e,Vatwvc.editOf t≠some e)->E (.ref a.xUnreadable) none H':=fun b he=>k.no he _ (sN.same s1 b hx)
 obtain⟨dx1,fl1,f1,f2⟩:=r1.at
 refine⟨_,rfl,x,dx1,fl1,rfl,f1,f2 _ (by decide) (by decide),x,(l,t),t,rfl,r1,fun H2 b2 r2=>?_⟩
 obtain⟨kvs,kd,tab⟩:=NG B
 refine⟨_,rfl,_,kvs,.inr (bT (jY t)),rfl,kd,rfl,_,rfl,?_⟩
 cases hf:wF (jY t)with
 | none=>
  rw[(tab (jY t)).2 hf]
  refine tJ (no b2 fun e he=>?_)
  obtain⟨_,_,q1,_⟩:=VM.GC he
  rw[q1,VM.KS]at hf
  cases hf
 | some fs=>
  obtain⟨q,hval,hq⟩:=(tab (jY t)).1 fs hf
  rw[hval]
  refine xR ?_
  obtain⟨dx2,fl2,g1,g2⟩:=r2.at
  refine⟨_,rfl,x,dx2,fl2,rfl,g1,g2 _ (by decide) (by decide),x,(l,t),kG t,[32],by rw[NJ];rfl,r2,fun r3 he3 H3 b3 hr3=>?_,fun he3 H3 b3=>no (b2.trans b3) fun e he=>?_⟩
  rotate_left
  ·obtain⟨_,_,_,q2,_⟩:=VM.GC he
   rw[he3]at q2;cases q2
  refine⟨_,rfl,x,(l,t),r3,rfl,hr3,?_⟩
  cases hpa:qN r3 with
  | none=>
   intro H4 b4
   refine no ((b2.trans b3).trans b4) fun e he=>?_
   obtain⟨_,_,_,q2,q3,_⟩:=VM.GC he
   rw[he3]at q2;cases q2
   rw[hpa]at q3;cases q3
  | some pr=>
   intro H4 y b4 hr4 hy
   obtain⟨pp,rfl,hpp⟩:=hy
   have b14:=(b2.trans b3).trans b4
   refine⟨aY _,fun D hD=>?_⟩
   have Dx:=hr4.ne hD
   have hD1:H1 D=none:=b14.none hD Dx
   have sD:bA H4 (upd H4 D (.lst [])):=bA.upd hD
   have parts:∀e,Vatwvc.editOf t=some e->VM.iL e=jY t/\Vatwvc.pathIn e=pr.1/\oX fs pr.2=some (VM.fA e,[]):=fun e he=>by
    obtain⟨r1',r2',q1,q2,q3,q4⟩:=VM.GC he
    rw[he3]at q2;cases q2
    rw[hpa]at q3
    have q3:=cP q3
    subst q3
    rw[q1,VM.KS]at hf
    cases hf
    exact⟨q1.symm,rfl,q4⟩
   refine⟨_,rfl,_,kvs,.inr (bT (jY t)),.ref q,rfl,kd,rfl,hval,q,rfl,⟨_,hq _⟩,QY (xs:=fs.map yA) (fun i σ H'=>sN x H1 H'/\∃ys ds r' st,σ=[some (.ref l),some (.ref x),some (.str (bT (jY t))),some (.ref pp),some (.ref D),st]/\fK K H' pp (qL pr.1)/\H' D=some (.lst ys)/\hU (WX K H') ys ds/\ds.length=i/\RR a H' x (l,t) r'/\
    oX fs pr.2=(oX (fs.drop i) r').map (fun z=>(ds++z.1,z.2))) ⟨b14.trans (bA.but sD),[],[],pr.2,none,rfl,sD.sqT hpp,aH,.nil,rfl,hr4.same sD,?_⟩ (fun i σ H' _ _=>hq H') ?_ ?_⟩
   ·rw[xS]
    cases oX fs pr.2<;>rfl
   ·rintro i z σ H' hz ⟨hb,ys,ds,r',st,rfl,hpp',hD',hds,hdl,hr',e⟩
    rw[bX]at hz
    obtain⟨fm,efm,rfl⟩:=aO.mp hz
    have hil:=(aT.mp efm).1
    have hdr:fs.drop i=fm::fs.drop (i+1):=by
     obtain⟨hi,rfl⟩:=aT.mp efm
     exact bM hi
    have hfl:fs.length<=3:=by
     unfold wF at hf
     repeat(first | (split at hf;· cases hf;decide) | cases hf)
    rw[hdr,oX]at e
    obtain⟨dx5,fl5,i1,i2⟩:=hr'.at
    refine⟨_,rfl,x,dx5,fl5,rfl,i1,i2 _ (by decide) (by decide),x,(l,t),r',[32],by rw[NJ];rfl,hr',fun r6 he6 H6 b6 hr6=>?_,fun he6 H6 b6=>no (hb.trans b6) fun ed hed=>?_⟩
    rotate_left
    ·rw[he6]at e
     rw[(parts ed hed).2.2]at e;cases e
    rw[he6]at e
    have hD6:=b6 D _ Dx hD'
    refine⟨_,rfl,.inl ⟨rfl,_,hJ.of hD6⟩,_,rfl,_,rfl,x,(l,t),r6,fm,rfl,hr6,?_⟩
    cases hq7:OX fm r6 with
    | none=>
     intro H7 b7
     refine no ((hb.trans b6).trans b7) fun ed hed=>?_
     have e:oX fs pr.2=((OX fm r6).bind fun z=>(oX (fs.drop (i+1)) z.2).map fun y=>(z.1::y.1,y.2)).map (fun z=>(ds++z.1,z.2)):=e
     rw[hq7]at e
     rw[(parts ed hed).2.2]at e;cases e
    | some dt=>
     intro H7 y b7 hr7 hy
     have e:oX fs pr.2=((OX fm r6).bind fun z=>(oX (fs.drop (i+1)) z.2).map fun y=>(z.1::y.1,y.2)).map (fun z=>(ds++z.1,z.2)):=e
     rw[hq7]at e
     have t67:=(sN.tups b6 hr').trans (sN.tups b7 hr6)
     have hD7:=b7 D _ Dx hD6
     have tD:=oU (ys:=ys++[y]) hD7
     have hyl:=hds.length
     refine⟨D,_,_,rfl,rfl,hD7,small (by lia),tF ((hb.trans b6).trans b7) hD1,ys++[y],ds++[dt.1],dt.2,_,rfl,(t67.trans tD).sqT hpp',aH,?_,by rw[aC,cS,hdl],hr7.upd r1 hD1,?_⟩
     ·exact Paired.snoc (Paired.mapP hds fun _ _ z=>z.tups (t67.trans tD)) (WX.tups tD hy)
     ·rw[e]
      show((oX (fs.drop (i+1)) dt.2).map _).map _=_
      rw[nE]
      congr 1
      funext z
      show(ds++dt.1::z.1,z.2)=_
      simp
   ·rintro σ H' ⟨hb,ys,ds,r',st,rfl,hpp',hD',hds,hdl,hr',e⟩
    have e0:(fs.map yA).length=fs.length:=aJ _
    rw[e0,jT]at e
    have e:oX fs pr.2=some (ds++[],r'):=e
    rw[cI]at e
    obtain⟨dx5,fl5,i1,i2⟩:=hr'.at
    refine⟨_,rfl,x,dx5,fl5,rfl,i1,i2 _ (by decide) (by decide),x,(l,t),r',rfl,hr',_,rfl,?_⟩
    cases hr0:r' with
    | cons b0 rr=>
     refine tJ (no hb fun ed hed=>?_)
     rw[(parts ed hed).2.2,hr0]at e;cases e
    | nil=>
     rw[hr0]at e
     refine xR ?_
     obtain⟨d1,d2,d3⟩:=VM.BR e
     obtain⟨ed,hed⟩:=VM.Zr (w:=jY t) (p:=pr.1) (ds:=ds) (by rw[hf];exact congrArg some d1.symm)
     have heo:Vatwvc.editOf t=some ed:=VM.Co rfl hf he3 hpa e hed
     obtain⟨w1,w2,w3⟩:=hed
     refine⟨_,rfl,_,rfl,_,rfl,D,_,rfl,.inl (hJ.of hD'),fun td H6 s6 htd=>fun x2 dx2 hx2 hdx2 ne2=>⟨x2,dx2,_,_,_,rfl,aH,rfl,?_⟩⟩
     have s7:=vI (a:=a) (y1:=.str (bT (jY t))) (y2:=.ref pp) (y3:=.ref td) hx2 hdx2
     have sF:=(sN.same s1 hb hx).trans (s6.trans s7)
     refine k.yes heo _ x2 sF ⟨dx2,pp,td,?_,?_,?_⟩
     ·rw[aH,MQ,w1]
     ·rw[w2];exact s7.sqT (s6.sqT hpp')
     ·refine Xj (s7.sqT htd) ?_
      rw[w3]
      exact Paired.mapP hds fun _ _ z=>z.tups (s6.trans s7).tups
theorem AV:∀(x y:List (Option A)),Vatwva.allOf (x++y)=(Vatwva.allOf x).bind fun l=>(Vatwva.allOf y).map fun m=>l++m
 | [],y=>by show Vatwva.allOf y=(Vatwva.allOf y).map fun m=>[]++m;cases Vatwva.allOf y<;>rfl
 | a::x,y=>by
  show(a.bind fun b=>(Vatwva.allOf (x++y)).map fun l=>b::l)=(a.bind fun b=>(Vatwva.allOf x).map fun l=>b::l).bind _;cases a with
  | none=>rfl
  | some b=>
   rw[AV x y];show((Vatwva.allOf x).bind fun l=>(Vatwva.allOf y).map fun m=>l++m).map _=((Vatwva.allOf x).map fun l=>b::l).bind _;cases Vatwva.allOf x with
   | none=>rfl
   | some l=>show((Vatwva.allOf y).map _).map _=(Vatwva.allOf y).map _;rw[nE];rfl
theorem Dm.updl (hD:H D=some (.lst xs)) (h:Dm a K H p e):Dm a K (upd H D (.lst ys)) p e:=by obtain⟨dx,pp,d,h1,h2,h3⟩:=h;exact⟨dx,pp,d,by rw[bL (kK h1 hD (by intro z;cases z))];exact h1,(oU hD).sqT h2,h3.tups (oU hD)⟩
theorem xP.updl (hD:H D=some (.lst xs)) (h:xP a K H rs es):xP a K (upd H D (.lst ys)) rs es:=Paired.mapP h fun _ _ ⟨ep,e,q⟩=>⟨ep,e,q.updl hD⟩
def KC (a:mF) (K:aB) (H:Hp) (o:Option (List gH)) (Q:VK) (E:XK):Prop:=match o with
 | some es=>∀H' q rs,bA H H'->H q=none->H' q=some (.lst rs)->xP a K H' rs es->Q (.ref q) H'
 | none=>∀H',bA H H'->E (.ref a.xUnreadable) none H'
theorem KC.no (h:KC a K H o Q E) (e:o=none):∀H',bA H H'->E (.ref a.xUnreadable) none H':=by rw[e]at h;exact h
theorem KC.yes (h:KC a K H o Q E) (e:o=some es):∀H' q rs,bA H H'->H q=none->H' q=some (.lst rs)->xP a K H' rs es->Q (.ref q) H':=by rw[e]at h;exact h
inductive HL (a:mF) (K:aB) (vs:List V) (H:Hp) (Q:VK) (E:XK):Prop
 | mk (l:_) (t:_):vs=[.ref l]->H l=some (.lst (cV t))->t.length<=6000->KC a K H (Vatwvc.editsOf t) Q E->HL a K vs H Q E
theorem XF (T:iM K mg a) (B:sO P w K mg a):gY P w K mg base 22 "edits_from" ["text"] (HL a K):=by
 refine kL T.f_edits_from ["text","edits","line","byte"] fun vs H Q E h=>?_;obtain⟨l,t,rfl,hl,hn,k⟩:=h;refine⟨rfl,fun nd _ _ _ _ _ hr=>?_⟩;intro X;obtain⟨u1,hm1,ru1⟩:=T.c_LINE_END;refine⟨_,aI (cM (i:=1) nd rfl (bP rfl) (eL aD)) (aI (cM (i:=2) nd rfl (bP rfl) (eL aD)) (aI (pP (gK ⟨rfl,rfl,rfl⟩) rfl (RF (pv 0)) (fC (i:=3) nd rfl (bP rfl)) (aN (fE (dB qK (pv 3) (dN rfl hm1 ru1) (dL _)) (aI (dO (nM bG bR bS gI (pv 1) (aA (bC (nV T B) hr ⟨rfl,rfl,rfl⟩ (aA (pv 2) aD)) aD))) (aN (cM (i:=2) nd rfl (bP rfl) (eL aD)))) (aN (dO (nM bG bR bS gI (pv 2) (aA (pv 3) aD))))))) (aI (fE (dB CN (cY cW rfl T.n_len cE (aA (pv 2) aD)) cB (dL _)) (aN (iZ ⟨rfl,rfl,rfl⟩ rfl rfl T.x_Unreadable.1 T.x_Unreadable.2)) cZ) (aN (bH (pv 1)))))),?_⟩;refine⟨aY _,fun De hDe=>⟨aY _,fun Dl hDl0=>?_⟩⟩;have hne:Dl≠De:=fun z=>by rw[z,aH]at hDl0;cases hDl0
 have hDl:H Dl=none:=by rw[bL hne]at hDl0;exact hDl0
 have s1:bA H (upd (upd H De (.lst [])) Dl (.lst [])):=(bA.upd hDe).trans (bA.upd hDl0);refine⟨_,rfl,l,rfl,⟨_,hJ.of (s1 _ _ hl)⟩,SW (xs:=cV t) (fun i σ H'=>bA H H'/\∃Dl rs es done cur st,σ=[some (.ref l),some (.ref De),some (.ref Dl),st]/\Dl≠De/\H Dl=none/\H' De=some (.lst rs)/\xP a K H' rs es/\H' Dl=some (.lst (cV cur))/\Vatwva.allOf (done.map Vatwvc.editOf)=some es/\VM.tX [] t=(done++(VM.tX cur (t.drop i)).1,(VM.tX cur (t.drop i)).2)/\cur.length<=i/\es.length<=i) ⟨s1,Dl,[],[],[],[],none,rfl,hne,hDl,by rw[bL hne.symm];exact aH,.nil,aH,rfl,rfl,aR _,aR _⟩ (fun i σ H' _ h=>hJ.of (h.1 _ _ hl)) ?_ ?_⟩
 ·rintro i z σ H' hz ⟨sm,Dl,rs,es,done,cur,st,rfl,hne,hDl,hDe',hes,hDl',hall,hlines,hcl,hel⟩;unfold cV at hz;rw[bX]at hz;obtain⟨b,eb,rfl⟩:=aO.mp hz;have hil:=(aT.mp eb).1;have hdr:t.drop i=b::t.drop (i+1):=by obtain⟨hi,rfl⟩:=aT.mp eb;exact bM hi
  have hrl:=hes.length;rw[hdr]at hlines;refine⟨_,rfl,rfl,_,rfl,nI (fun c=>?_) (fun c=>?_)⟩
  ·have c:b=10:=by have c:((b.toNat:Nat):Int)=10:=V.int.inj (of_decide_eq_true c);exact lZ.mp (by show b.toNat=10;lia)
   have hl2:VM.tX cur (b::t.drop (i+1))=(cur::(VM.tX [] (t.drop (i+1))).1,(VM.tX [] (t.drop (i+1))).2):=by rw[VM.tX,if_pos c]
   rw[hl2]at hlines;refine⟨_,rfl,.inl ⟨rfl,_,hJ.of hDe'⟩,_,rfl,Dl,cur,rfl,hDl',by lia,?_⟩;cases q:Vatwvc.editOf cur with
   | none=>
    intro H2 s2;refine k.no ?_ H2 (sm.trans s2);rw[VM.IT,hlines];split
    ·show Vatwva.allOf ((done++cur::_).map Vatwvc.editOf)=none;rw[aW,AV,hall,aP,q];rfl
    ·rfl
   | some ed=>
    intro H2 ep s2 hep;have hDe2:=s2 _ _ hDe';refine⟨De,_,_,rfl,rfl,hDe2,small (by lia),aY _,fun Dn hDn=>?_⟩;have hneN:Dn≠De:=fun z=>by rw[z,aH]at hDn;cases hDn
    have hDn2:H2 Dn=none:=by rw[bL hneN]at hDn;exact hDn
    have hDnH:=dX.fresh (sm.trans s2) hDn2;refine⟨dC (dC (sm.trans s2) hDe) hDnH,Dn,rs++[.ref ep],es++[ed],done++[cur],[],_,rfl,hneN,hDnH,by rw[bL hneN.symm];exact aH,?_,aH,?_,?_,aY _,by rw[aC,cS];lia⟩
    ·refine xP.same (bA.upd hDn) ?_;exact Paired.snoc (xP.updl hDe2 (hes.same s2)) ⟨ep,rfl,hep.updl hDe2⟩
    ·rw[aW,AV,hall];show((Vatwva.allOf [Vatwvc.editOf cur]).map fun m=>es++m)=_;rw[q];rfl
    ·rw[hlines];simp
  ·have c:¬b=10:=fun z=>c (decide_eq_true (by rw[z];rfl));have hl2:VM.tX cur (b::t.drop (i+1))=VM.tX (cur++[b]) (t.drop (i+1)):=by rw[VM.tX,if_neg c]
   rw[hl2]at hlines;refine⟨_,rfl,.inl ⟨rfl,_,hJ.of hDl'⟩,_,rfl,Dl,_,_,rfl,rfl,hDl',small (by rw[bV];lia),dC sm hDl,Dl,rs,es,done,cur++[b],_,rfl,hne,hDl,by rw[bL hne.symm];exact hDe',hes.updl hDl',by rw[aH,eP];rfl,hall,hlines,by rw[aC,cS];lia,by lia⟩
 ·rintro σ H' ⟨sm,Dl,rs,es,done,cur,st,rfl,hne,hDl,hDe',hes,hDl',hall,hlines,hcl,hel⟩;rw[bV,jT]at hlines;have hlines:VM.tX [] t=(done++[],cur):=hlines;rw[cI]at hlines;refine⟨_,rfl,Dl,_,rfl,.inl (hJ.of hDl'),_,_,rfl,rfl,_,rfl,nI (fun c=>?_) (fun c=>?_)⟩
  ·have c:(0:Int) < ((cV cur).length:Nat):=of_decide_eq_true c;rw[bV]at c;refine k.no ?_ H' sm;rw[VM.IT,hlines,if_neg fun z=>?_];have z:cur=[]:=z;rw[z]at c;exact absurd c (by decide)
  ·have c:¬(0:Int) < ((cV cur).length:Nat):=fun z=>c (decide_eq_true z);rw[bV]at c;have hc:cur=[]:=eE (by lia);refine⟨_,rfl,k.yes (es:=es) ?_ H' De rs sm hDe hDe' hes⟩;rw[VM.IT,hlines,if_pos hc];exact hall
theorem VW (h:Vatwvc.isStep s=true):(Vatwva.stepText s).length<=10:=by
 cases s with
 | field n=>exact rR h
 | item i=>exact VM.mT 9 i (gS (of_decide_eq_true h) (by decide))
theorem NO (p:Vatwvc.Path):Vatwva.pathText p=[47]++mM [47] (p.map Vatwva.stepText):=by
 cases p with
 | nil=>rfl
 | cons s p=>
  rw[VM.rA];have key:∀(p:Vatwvc.Path) (s:Vatwva.Step),VM.dA (s::p)=[47]++mM [47] ((s::p).map Vatwva.stepText):=by
   intro p;induction p with
   | nil=>intro s;show(47::Vatwva.stepText s)++[]=_;rw[cI];rfl
   | cons s2 p ih=>
    intro s;have e:VM.dA (s::s2::p)=(47::Vatwva.stepText s)++VM.dA (s2::p):=by unfold VM.dA;rw[dY]
    rw[e,ih s2];show _=[47]++(Vatwva.stepText s++([47]++mM [47] ((s2::p).map Vatwva.stepText)));simp
  exact key p s
inductive MG (vs:List V) (H:Hp) (Q:VK) (E:XK):Prop
 | mk (s:Vatwva.Step):vs=[VU s]->Vatwvc.isStep s=true->dX H (Vatwva.stepText s) Q->MG vs H Q E
theorem Cb (T:iM K mg a):gY P w K mg base 2 "step_text" ["step"] MG:=by
 refine kL T.f_step_text ["step"] fun vs H Q E h=>?_;obtain⟨s,rfl,hs,k⟩:=h;refine⟨rfl,fun nd _ _ _ _ _ hr=>?_⟩;intro X;refine⟨_,aI (fE (mY (Ga (pv 0) rfl T.n_isinstance rfl T.n_str)) (aN (bH (bC (fM T) hr ⟨rfl,rfl,rfl⟩ (aA (pv 0) aD)))) cZ) (aN (bH (bC (fM T) hr ⟨rfl,rfl,rfl⟩ (aA (lO tH rfl T.n_str WJ (aA (pv 0) aD)) aD)))),?_⟩;have hl:=VW hs;cases s with
 | field n=>exact⟨_,rfl,.inl ⟨_,rfl,_,rfl,tJ ⟨_,rfl,n,rfl,(by have:n.length<=10:=hl;lia),k⟩⟩⟩
 | item i=>
  refine⟨_,rfl,.inr ⟨_,rfl,_,rfl,xR ⟨_,rfl,_,rfl,FU (of_decide_eq_true hs),Vatwva.decimal i,by rw[yK];rfl,?_,k⟩⟩⟩;have:(Vatwva.decimal i).length<=10:=hl
  lia
inductive MA (K:aB) (vs:List V) (H:Hp) (Q:VK) (E:XK):Prop
 | mk (pp:aQ) (p:Vatwvc.Path):vs=[.ref pp]->fK K H pp (qL p)->p.all Vatwvc.isStep=true->p.length<=6000->dX H (Vatwva.pathText p) Q->MA K vs H Q E
theorem Bw (T:iM K mg a):gY P w K mg base 3 "path_text" ["path"] (MA K):=by
 refine kL T.f_path_text ["path","step"] fun vs H Q E h=>?_;obtain⟨pp,p,rfl,hp,hs,hn,k⟩:=h;refine⟨rfl,fun nd _ _ _ _ _ hr=>?_⟩;intro X;refine⟨_,aN (bH (kE uM (bC (fM T) hr.m ⟨rfl,rfl,rfl⟩ (aA eB aD)) (bC (FW T) hr ⟨rfl,rfl,rfl⟩ (aA (ZI rfl nd (BQ (pv 0)) (vB (own:=[("step",1)]) (by rfl)) (fun _ _ _ _ _=>fC (i:=1) nd rfl (bP rfl)) (fun _ _ _ _ _=>yH) (fun _ _ _ _ _=>NP (Cb T) hr (aA (pv 1) aD))) (aA eB aD))))),?_⟩;refine⟨[47],by rw[Bq];rfl,by decide,fun A1 H1 s1 hA1 g1=>?_⟩;refine⟨_,rfl,pp,rfl,⟨_,s1.sqT hp⟩,fun D hD=>?_⟩;rw[cA]at hs;refine Jq (xs:=qL p) (fun j H'=>bA H1 H'/\∃rs,H' D=some (.lst rs)/\WY H' D rs ((p.take j).map Vatwva.stepText)) ⟨bA.upd hD,[],aH,.nil⟩ (fun j H' _ h=>(s1.trans h.1).sqT hp) (fun j y H' hy h=>?_) (fun H' h=>?_)
 ·obtain⟨sm,rs,hD',hts⟩:=h;unfold qL at hy;rw[bX]at hy;obtain⟨st,est,rfl⟩:=aO.mp hy;refine⟨rfl,tJ (B:=bA H1 H'/\∃rs,H' D=some (.lst rs)/\WY H' D rs ((p.take (j+1)).map Vatwva.stepText)) ?_⟩;refine⟨_,rfl,st,rfl,hs st (bB est),fun B H4 s4 hB0 hB=>?_⟩;have hBD:B≠D:=fun z=>by rw[z,hD']at hB0;cases hB0
  refine⟨rs,s4 _ _ hD',MY ?_,dC (sm.trans s4) hD,rs++[.ref B],aH,?_⟩
  ·rw[hts.length,aJ,bK];lia
  ·rw[jC est,aW];exact Paired.snoc (WY.upd (hts.same s4)) ⟨B,rfl,hBD,by rw[bL hBD];exact hB⟩
 ·obtain⟨sm,rs,hD',hts⟩:=h;have e0:(qL p).length=p.length:=aJ _;rw[e0,cN]at hts;have htot:kH [47] (p.map Vatwva.stepText)<=11 * (p.map fun _=>1).sum:=xG fun x hx'=>by have:=VW (hs x hx');show _+1<=_;lia
  have hone:(p.map fun _=>1).sum=p.length:=by
   clear hs htot hts hn hp e0 k;induction p with
   | nil=>rfl
   | cons x p ih=>rw[aP,dW,ih,aK];lia
  have hjl:=pM [47] (p.map Vatwva.stepText) p.length;rw[<-aJ (as:=p) (f:=Vatwva.stepText),cN]at hjl;refine⟨D,rs,_,[47],by rw[Bq];rfl,hD',hts.ts,by lia,by decide,fun A2 H2 s2 hA2 g2=>?_⟩;refine⟨A1,A2,_,_,rfl,rfl,s2 _ _ (sm _ _ g1),g2,big (by rw[bV,bV];show 1+_<=_;lia),fun A3 hA3=>?_⟩;have sF:=(s1.trans sm).trans s2;refine k A3 _ (sF.trans (bA.upd hA3)) (dX.fresh sF hA3) ?_;rw[aH,<-eP,NO]
inductive EO (K:aB) (vs:List V) (H:Hp) (Q:VK) (E:XK):Prop
 | mk (d:rN) (y:V):vs=[yA d.form,y]->WX K H y d->d.ok=true->dX H d.text Q->EO K vs H Q E
theorem B4:¬V.str "name"=V.str "place":=by decide
theorem B6:¬V.str "value"=V.str "place":=by decide
theorem B5:¬V.str "value"=V.str "name":=by decide
theorem Be {d:rN} (h:d.ok=true):d.text.length<=6000:=by
 cases d with
 | place n=>exact bI (VM.mT 9 n (gS (of_decide_eq_true h) (by decide))) (by decide)
 | name n=>exact bI (rR h) (by decide)
 | value v=>
  obtain⟨g,c,_⟩:=VM.dS.mp h;have:=wO g;have c:Vatwva.count v<=60:=c;show(Vatwva.valueText v).length<=_
  lia
theorem UU (T:iM K mg a):gY P w K mg base 16 "detail_text" ["form","detail"] (EO K):=by
 refine kL T.f_detail_text ["form","detail"] fun vs H Q E h=>?_;obtain⟨d,y,rfl,hy,hd,k⟩:=h;refine⟨rfl,fun nd _ _ _ _ _ hr=>?_⟩;intro X;obtain⟨u1,hm1,ru1⟩:=T.c_PLACE;obtain⟨u2,hm2,ru2⟩:=T.c_NAME;refine⟨_,aI (fE (dB qK (pv 0) (dN rfl hm1 ru1) (dL _)) (aN (bH (bC (fM T) hr.m ⟨rfl,rfl,rfl⟩ (aA (lO tH rfl T.n_str WJ (aA (pv 1) aD)) aD)))) cZ) (aI (fE (dB qK (pv 0) (dN rfl hm2 ru2) (dL _)) (aN (bH (bC (fM T) hr.m ⟨rfl,rfl,rfl⟩ (aA (pv 1) aD)))) cZ) (aN (bH (bC (uY T 6) hr ⟨rfl,rfl,rfl⟩ (aA (pv 1) aD))))),?_⟩;have hlen:=Be hd;cases d with
 | place n=>
  cases(show y=.int (n:Nat)from hy);refine⟨_,rfl,rfl,_,rfl,pL (decide_eq_true rfl) ⟨_,rfl,_,rfl,FU (of_decide_eq_true hd),Vatwva.decimal n,by rw[yK];rfl,?_,k⟩⟩;have:(Vatwva.decimal n).length<=6000:=hlen
  lia
 | name n=>
  cases(show y=.str (bT n)from hy);refine⟨_,rfl,rfl,_,rfl,mV (decide_eq_false B4) ⟨_,rfl,rfl,_,rfl,pL (decide_eq_true rfl) ⟨_,rfl,n,rfl,?_,k⟩⟩⟩;have:n.length<=6000:=hlen
  lia
 | value v=>obtain⟨g,c,d⟩:=VM.dS.mp hd;have c:Vatwva.count v<=60:=c;exact⟨_,rfl,rfl,_,rfl,mV (decide_eq_false B6) ⟨_,rfl,rfl,_,rfl,mV (decide_eq_false B5) ⟨_,rfl,y,v,rfl,hy,g.mono (by decide),d,by lia,k⟩⟩⟩
theorem Li (h:Tx K H d e):∃ys,fK K H d ys/\hU (WX K H) ys (VM.fA e):=by
 cases e with
 | set p v=>obtain⟨x,h1,h2⟩:=h;exact⟨_,h1,.cons h2 .nil⟩
 | put p i v=>obtain⟨x,h1,h2⟩:=h;exact⟨_,h1,.cons rfl (.cons h2 .nil)⟩
 | take p i=>exact⟨_,h,.cons rfl .nil⟩
 | move p i j=>exact⟨_,h,.cons rfl (.cons rfl .nil)⟩
 | add p i n v=>obtain⟨x,h1,h2⟩:=h;exact⟨_,h1,.cons rfl (.cons rfl (.cons h2 .nil))⟩
 | drop p n=>exact⟨_,h,.cons rfl .nil⟩
 | rename p n m=>exact⟨_,h,.cons rfl (.cons rfl .nil)⟩
theorem JM (e:gH):Vatwvc.wordsOfEdit e=mM [32] (VM.iL e::Vatwva.pathText (Vatwvc.pathIn e)::(VM.fA e).map rN.text):=by rw[VM.JL];cases e<;>simp[VM.fA,VM.jX,mM,rN.text]
theorem Hi (e:gH):(VM.iL e).length<=10:=by
 cases e
 ·show(Vatwva.ascii "set").length<=10;decide
 ·show(Vatwva.ascii "put").length<=10;decide
 ·show(Vatwva.ascii "take").length<=10;decide
 ·show(Vatwva.ascii "move").length<=10;decide
 ·show(Vatwva.ascii "add").length<=10;decide
 ·show(Vatwva.ascii "drop").length<=10;decide
 ·show(Vatwva.ascii "rename").length<=10;decide
inductive LX (a:mF) (K:aB) (vs:List V) (H:Hp) (Q:VK) (E:XK):Prop
 | mk (ep:aQ) (e:gH):vs=[.ref ep]->Dm a K H ep e->Vatwvc.isEdit e=true->(Vatwvc.pathIn e).length<=6000->dX H (Vatwvc.wordsOfEdit e) Q->LX a K vs H Q E
theorem Rg (e:gH):(VM.fA e).length<=3:=by cases e<;>simp[VM.fA]
theorem YK (e:gH):((VM.fA e).map fun _=>1).sum<=3:=by cases e<;>simp[VM.fA]
theorem Fx (h:p.all Vatwvc.isStep=true) (hn:p.length<=6000):(Vatwva.pathText p).length<=70000:=by
 rw[NO];rw[cA]at h;have htot:kH [47] (p.map Vatwva.stepText)<=11 * (p.map fun _=>1).sum:=xG fun x hx'=>by have:=VW (h x hx');show _+1<=_;lia
 have hone:(p.map fun _=>1).sum=p.length:=by
  clear h htot hn;induction p with
  | nil=>rfl
  | cons x p ih=>rw[aP,dW,ih,aK];lia
 have hjl:=pM [47] (p.map Vatwva.stepText) p.length;rw[<-aJ (as:=p) (f:=Vatwva.stepText),cN]at hjl;rw[aC];show 1+_<=_;lia
theorem Paired.get2 {α β:Type} {R:α->β->Prop} {xs:List α} {ys:List β} (h:hU R xs ys):∀{j:Nat} {x:α} {y:β},xs[j]?=some x->ys[j]?=some y->R x y:=by intro j x y h1 h2;obtain⟨y',e,r⟩:=Paired.at h h1;rw[h2]at e;cases e;exact r
theorem LI (T:iM K mg a) (B:sO P w K mg a):gY P w K mg base 17 "edit_text" ["edit"] (LX a K):=by
 refine kL T.f_edit_text ["edit","words","form","detail"] fun vs H Q E h=>?_;obtain⟨ep,e,rfl,he,hok,hn,k⟩:=h;refine⟨rfl,fun nd _ _ _ _ _ hr=>?_⟩;intro X;refine⟨_,aI (cM (i:=1) nd rfl (bP rfl) (eL (aA (bC (fM T) hr.m ⟨rfl,rfl,rfl⟩ (aA (cK (pv 0) rfl) aD)) (aA (bC (Bw T) hr.m ⟨rfl,rfl,rfl⟩ (aA (cK (pv 0) rfl) aD)) aD)))) (aI (pP (gK ⟨rfl,rfl,rfl⟩) rfl (Cm (by rfl) T.n_zip (aA (BO (dN (v:=.ref a.dFORMS) (by rfl) T.d_FORMS rfl) (cK (pv 0) rfl) (fun _ _=>rfl)) (aA (cK (pv 0) rfl) aD))) (JD (n:=2) (by rfl) (lG (fC (i:=2) nd rfl (bP rfl)) (lG (fC (i:=3) nd rfl (bP rfl)) BP))) (aN (dO (nM bG bR bS gI (pv 1) (aA (bC (UU T) hr ⟨rfl,rfl,rfl⟩ (aA (pv 2) (aA (pv 3) aD))) aD))))) (aN (bH (bC (FW T) hr.m ⟨rfl,rfl,rfl⟩ (aA (pv 1) (aA eB aD)))))),?_⟩;rw[VM.zU,aE]at hok;obtain⟨dx,pp,d,e1,e2,e3⟩:=he;obtain⟨ys,e4,e5⟩:=Li e3;obtain⟨kvs,kd,tab⟩:=NG B;obtain⟨q,hval,hq⟩:=(tab (VM.iL e)).1 _ (VM.KS e);have hwl:=Hi e;have hpl:=Fx hok.1 hn;have hdl:=Rg e;refine⟨_,rfl,ep,_,dx,_,_,rfl,e1,T.q_Edit,T.na_Edit_word,rfl,VM.iL e,by rw[MQ];rfl,by lia,fun A1 H1 s1 hA1 g1=>?_⟩;refine⟨_,rfl,ep,_,dx,_,_,rfl,s1 _ _ e1,T.q_Edit,T.na_Edit_path,rfl,pp,_,rfl,s1.sqT e2,hok.1,hn,fun A2 H2 s2 hA2 g2=>?_⟩;refine⟨(by show 2<=aU;decide),fun D hD=>?_⟩;have s12:=s1.trans s2;have sD:bA H2 (upd H2 D (.lst [.ref A1,.ref A2])):=bA.upd hD;have hDH:=dX.fresh s12 hD;have n1:A1≠D:=fun z=>by rw[z]at g1;rw[s2 _ _ g1]at hD;cases hD
 have n2:A2≠D:=fun z=>by rw[z]at g2;rw[g2]at hD;cases hD
 have sF:=s12.trans sD;have hyl:=e5.length;refine⟨_,rfl,ep,_,dx,_,_,rfl,sF _ _ e1,T.q_Edit,T.na_Edit_word,rfl,_,kvs,.inr (bT (VM.iL e)),.ref q,rfl,kd,by rw[MQ];rfl,hval,_,rfl,ep,_,dx,_,_,rfl,sF _ _ e1,T.q_Edit,T.na_Edit_details,rfl,q,d,_,_,rfl,hq _,sF.sqT e4,Ep (xs:=((VM.fA e).map rN.form).map yA) (ys:=ys) (by rw[aJ,aJ];exact hyl.symm) (fun i σ H'=>bA H H'/\∃rs s2 s3,σ=[some (.ref ep),some (.ref D),s2,s3]/\H' D=some (.lst rs)/\rs.length=i+2/\WY H' D rs (VM.iL e::Vatwva.pathText (Vatwvc.pathIn e)::((VM.fA e).take i).map rN.text)) ⟨sF,[.ref A1,.ref A2],none,none,rfl,aH,rfl,.cons ⟨A1,rfl,n1,by rw[bL n1];exact s2 _ _ g1⟩ (.cons ⟨A2,rfl,n2,by rw[bL n2];exact g2⟩ .nil)⟩ (fun i σ H' _ h=>⟨hq _,h.1.sqT e4⟩) ?_ ?_⟩
 ·rintro i z y t' σ H' hz hy ht' ⟨sm,rs,s2',s3',rfl,hD',hrl,hts⟩;rw[bX,bX]at hz;obtain⟨fm,efm,rfl⟩:=aO.mp hz;obtain⟨dt,edt,rfl⟩:=aO.mp efm;have hil:=(aT.mp edt).1;have hdt:=Paired.get2 e5 hy edt;have sT:bA H' (upd H' t' (.tup [yA dt.form,y])):=bA.upd ht';refine⟨t',_,rfl,.of' aH,rfl,_,_,rfl,_,_,rfl,rfl,?_⟩;refine⟨_,rfl,.inl ⟨rfl,_,hJ.of (sT _ _ hD')⟩,_,rfl,_,rfl,dt,y,rfl,WX.tups (sm.trans sT).tups hdt,cA.mp hok.2 dt (bB edt),fun B H4 s4 hB0 hB=>?_⟩;have hBD:B≠D:=fun z=>by rw[z,sT _ _ hD']at hB0;cases hB0
  refine⟨D,_,_,rfl,rfl,s4 _ _ (sT _ _ hD'),small (by lia),dC (sm.trans (sT.trans s4)) hDH,rs++[.ref B],_,_,rfl,aH,by rw[aC,hrl];rfl,?_⟩;rw[jC edt,aW];exact Paired.snoc (WY.upd (hts.same (sT.trans s4))) ⟨B,rfl,hBD,by rw[bL hBD];exact hB⟩
 ·rintro σ H' ⟨sm,rs,s2',s3',rfl,hD',hrl,hts⟩;have e0:(((VM.fA e).map rN.form).map yA).length=(VM.fA e).length:=by rw[aJ,aJ]
  rw[e0,cN]at hts;refine⟨_,rfl,D,rs,_,[32],by rw[NJ];rfl,hD',hts.ts,?_,by decide,?_⟩
  ·have hd3:kH [32] ((VM.fA e).map rN.text)<=6001 * ((VM.fA e).map fun _=>1).sum:=xG fun x hx'=>by have:=Be (cA.mp hok.2 x hx');show _+1<=_;lia
   have hone:=YK e;have e6:kH [32] (VM.iL e::Vatwva.pathText (Vatwvc.pathIn e)::(VM.fA e).map rN.text)=(VM.iL e).length+1+((Vatwva.pathText (Vatwvc.pathIn e)).length+1+kH [32] ((VM.fA e).map rN.text)):=by unfold kH;rw[aP,dW,aP,dW];rfl
   rw[e6];lia
  ·rw[<-JM];exact dX.on k sm
def Au (a:mF) (K:aB) (H:Hp) (b:gH) (Q:VK):Prop:=∀H' ep,bA H H'->Dm a K H' ep b->Q (.ref ep) H'
inductive wH (is:gH->Bool) (a:mF) (K:aB) (vs:List V) (H:Hp) (Q:VK) (E:XK):Prop
 | mk (ep:aQ) (y:V) (e b:gH) (u:fT):vs=[.ref ep,y]->is e=true->Dm a K H ep e->oG K H y u->Vatwva.count u<=5000->(∃z,Vatwvc.doneAt e u=some z)->VM.Ay e u=some b->Au a K H b Q->wH is a K vs H Q E
theorem BI (k:Au a K H b Q) (s:bA H H1) (hx:H1 x=none) (hdx:H1 dx=none) (hw:wd=IA b) (hp:fK K H1 pp (qL (Vatwvc.pathIn b))) (hd:Tx K H1 td b):
  Q (.ref x) (upd (upd (upd (upd (upd H1 dx (.own x)) x (.ins a.cEdit dx [])) x (.ins a.cEdit dx [("word",.str wd)])) x (.ins a.cEdit dx [("word",.str wd),("path",.ref pp)])) x (.ins a.cEdit dx [("word",.str wd),("path",.ref pp),("details",.ref td)])):=by
 have s7:=vI (a:=a) (y1:=.str wd) (y2:=.ref pp) (y3:=.ref td) hx hdx;exact k _ x (s.trans s7) ⟨dx,pp,td,by rw[aH,hw],s7.sqT hp,hd.tups s7.tups⟩
theorem US (T:iM K mg a):gY P w K mg base 3 "back_of_set" ["edit","here"] (wH Sa a K):=by
 refine kL T.f_back_of_set ["edit","here"] fun vs H Q E h=>?_;obtain⟨ep,y,e,b,u,rfl,hw,he,hy,hc,⟨zd,hz⟩,hb,k⟩:=h;refine⟨rfl,fun nd _ _ _ _ _ hr=>?_⟩;intro X;obtain⟨dx,pp,d,e1,e2,e3⟩:=he;refine⟨_,aN (bH (nX (rE T) T.k_Edit hr.m ⟨rfl,rfl,rfl⟩ (aA eB (aA (cK (pv 0) rfl) (aA (iT (aA (pv 1) aD)) aD))))),?_⟩;cases e with
 | set p v=>cases hb;refine⟨_,rfl,ep,_,dx,_,_,rfl,e1,T.q_Edit,T.na_Edit_path,rfl,_,rfl,(by show 1<=aU;decide),fun td htd=>fun x2 dx2 hx2 hdx2 ne2=>⟨x2,dx2,_,_,_,rfl,aH,rfl,?_⟩⟩;have s1:=bA.upd (o:=.tup [y]) htd;exact BI k s1 hx2 hdx2 rfl (s1.sqT e2) ⟨y,.of' aH,hy.tups s1.tups⟩
 | _=>cases hw
theorem UR (T:iM K mg a):gY P w K mg base 3 "back_of_put" ["edit","here"] (wH Rz a K):=by
 refine kL T.f_back_of_put ["edit","here"] fun vs H Q E h=>?_;obtain⟨ep,y,e,b,u,rfl,hw,he,hy,hc,⟨zd,hz⟩,hb,k⟩:=h;refine⟨rfl,fun nd _ _ _ _ _ hr=>?_⟩;intro X;obtain⟨dx,pp,d,e1,e2,e3⟩:=he;refine⟨_,aN (bH (nX (rE T) T.k_Edit hr.m ⟨rfl,rfl,rfl⟩ (aA eB (aA (cK (pv 0) rfl) (aA (iT (aA (fN fV (cK (pv 0) rfl) cB (fun _ _=>rfl)) aD)) aD))))),?_⟩;cases e with
 | put p i v=>cases hb;obtain⟨z,g1,g2⟩:=e3;refine⟨_,rfl,ep,_,dx,_,_,rfl,e1,T.q_Edit,T.na_Edit_path,rfl,_,rfl,ep,_,dx,_,_,rfl,e1,T.q_Edit,T.na_Edit_details,rfl,d,_,_,_,rfl,rfl,g1,rfl,(by show 1<=aU;decide),fun td htd=>fun x2 dx2 hx2 hdx2 ne2=>⟨x2,dx2,_,_,_,rfl,aH,rfl,?_⟩⟩;have s1:=bA.upd (o:=.tup [.int (i:Nat)]) htd;exact BI k s1 hx2 hdx2 rfl (s1.sqT e2) (show fK K _ td [.int (i:Nat)]from .of' aH)
 | _=>cases hw
theorem QP (T:iM K mg a):gY P w K mg base 3 "back_of_move" ["edit","here"] (wH Jl a K):=by
 refine kL T.f_back_of_move ["edit","here"] fun vs H Q E h=>?_;obtain⟨ep,y,e,b,u,rfl,hw,he,hy,hc,⟨zd,hz⟩,hb,k⟩:=h;refine⟨rfl,fun nd _ _ _ _ _ hr=>?_⟩;intro X;obtain⟨dx,pp,d,e1,e2,e3⟩:=he;refine⟨_,aN (bH (nX (rE T) T.k_Edit hr.m ⟨rfl,rfl,rfl⟩ (aA eB (aA (cK (pv 0) rfl) (aA (iT (aA (fN fV (cK (pv 0) rfl) cB (fun _ _=>rfl)) (aA (fN fV (cK (pv 0) rfl) cB (fun _ _=>rfl)) aD))) aD))))),?_⟩;cases e with
 | move p i j=>cases hb;have e3:fK K H d [.int (i:Nat),.int (j:Nat)]:=e3;refine⟨_,rfl,ep,_,dx,_,_,rfl,e1,T.q_Edit,T.na_Edit_path,rfl,_,rfl,ep,_,dx,_,_,rfl,e1,T.q_Edit,T.na_Edit_details,rfl,d,_,_,_,rfl,rfl,e3,rfl,_,rfl,ep,_,dx,_,_,rfl,e1,T.q_Edit,T.na_Edit_details,rfl,d,_,_,_,rfl,rfl,e3,rfl,(by show 2<=aU;decide),fun td htd=>fun x2 dx2 hx2 hdx2 ne2=>⟨x2,dx2,_,_,_,rfl,aH,rfl,?_⟩⟩;have s1:=bA.upd (o:=.tup [.int (j:Nat),.int (i:Nat)]) htd;exact BI k s1 hx2 hdx2 rfl (s1.sqT e2) (show fK K _ td [.int (j:Nat),.int (i:Nat)]from .of' aH)
 | _=>cases hw
theorem LG (T:iM K mg a):gY P w K mg base 3 "back_of_rename" ["edit","here"] (wH TF a K):=by
 refine kL T.f_back_of_rename ["edit","here"] fun vs H Q E h=>?_;obtain⟨ep,y,e,b,u,rfl,hw,he,hy,hc,⟨zd,hz⟩,hb,k⟩:=h;refine⟨rfl,fun nd _ _ _ _ _ hr=>?_⟩;intro X;obtain⟨dx,pp,d,e1,e2,e3⟩:=he;refine⟨_,aN (bH (nX (rE T) T.k_Edit hr.m ⟨rfl,rfl,rfl⟩ (aA eB (aA (cK (pv 0) rfl) (aA (iT (aA (fN fV (cK (pv 0) rfl) cB (fun _ _=>rfl)) (aA (fN fV (cK (pv 0) rfl) cB (fun _ _=>rfl)) aD))) aD))))),?_⟩;cases e with
 | rename p n m=>cases hb;have e3:fK K H d [.str (bT n),.str (bT m)]:=e3;refine⟨_,rfl,ep,_,dx,_,_,rfl,e1,T.q_Edit,T.na_Edit_path,rfl,_,rfl,ep,_,dx,_,_,rfl,e1,T.q_Edit,T.na_Edit_details,rfl,d,_,_,_,rfl,rfl,e3,rfl,_,rfl,ep,_,dx,_,_,rfl,e1,T.q_Edit,T.na_Edit_details,rfl,d,_,_,_,rfl,rfl,e3,rfl,(by show 2<=aU;decide),fun td htd=>fun x2 dx2 hx2 hdx2 ne2=>⟨x2,dx2,_,_,_,rfl,aH,rfl,?_⟩⟩;have s1:=bA.upd (o:=.tup [.str (bT m),.str (bT n)]) htd;exact BI k s1 hx2 hdx2 rfl (s1.sqT e2) (show fK K _ td [.str (bT m),.str (bT n)]from .of' aH)
 | _=>cases hw
theorem UQ (T:iM K mg a):gY P w K mg base 3 "back_of_add" ["edit","here"] (wH Ry a K):=by
 refine kL T.f_back_of_add ["edit","here"] fun vs H Q E h=>?_;obtain⟨ep,y,e,b,u,rfl,hw,he,hy,hc,⟨zd,hz⟩,hb,k⟩:=h;refine⟨rfl,fun nd _ _ _ _ _ hr=>?_⟩;intro X;obtain⟨dx,pp,d,e1,e2,e3⟩:=he;refine⟨_,aN (bH (nX (rE T) T.k_Edit hr.m ⟨rfl,rfl,rfl⟩ (aA eB (aA (cK (pv 0) rfl) (aA (iT (aA (fN fV (cK (pv 0) rfl) cB (fun _ _=>rfl)) aD)) aD))))),?_⟩;cases e with
 | add p i n v=>cases hb;obtain⟨z,g1,g2⟩:=e3;refine⟨_,rfl,ep,_,dx,_,_,rfl,e1,T.q_Edit,T.na_Edit_path,rfl,_,rfl,ep,_,dx,_,_,rfl,e1,T.q_Edit,T.na_Edit_details,rfl,d,_,_,_,rfl,rfl,g1,rfl,(by show 1<=aU;decide),fun td htd=>fun x2 dx2 hx2 hdx2 ne2=>⟨x2,dx2,_,_,_,rfl,aH,rfl,?_⟩⟩;have s1:=bA.upd (o:=.tup [.str (bT n)]) htd;exact BI k s1 hx2 hdx2 rfl (s1.sqT e2) (show fK K _ td [.str (bT n)]from .of' aH)
 | _=>cases hw
theorem QQ (T:iM K mg a):gY P w K mg base 3 "back_of_take" ["edit","here"] (wH Jm a K):=by
 refine kL T.f_back_of_take ["edit","here","place"] fun vs H Q E h=>?_;obtain⟨ep,y,e,b,u,rfl,hw,he,hy,hc,⟨zd,hz⟩,hb,k⟩:=h;refine⟨rfl,fun nd _ _ _ _ _ hr=>?_⟩;intro X;obtain⟨dx,pp,d,e1,e2,e3⟩:=he;refine⟨_,aI (cM (i:=2) nd rfl (bP rfl) (fN fV (cK (pv 0) rfl) cB (fun _ _=>rfl))) (aN (bH (nX (rE T) T.k_Edit hr.m ⟨rfl,rfl,rfl⟩ (aA eB (aA (cK (pv 0) rfl) (aA (iT (aA (pv 2) (aA (fN fV (bC (eS T) hr.m ⟨rfl,rfl,rfl⟩ (aA (pv 1) aD)) (pv 2) (fun _ _=>rfl)) aD))) aD)))))),?_⟩;cases e with
 | take p i=>have e3:fK K H d [.int (i:Nat)]:=e3;have hb:((Vatwva.itemsOf u)[i]?).map (fun w=>Edit.put p i w)=some b:=hb;obtain⟨v1,hv1,rfl⟩:=aO.mp hb;obtain⟨p',o,c,zs,rfl,f1,f2,f3⟩:=hy.parts;obtain⟨y1,hy1,hv2⟩:=gA.getR f3 hv1;refine⟨_,rfl,ep,_,dx,_,_,rfl,e1,T.q_Edit,T.na_Edit_details,rfl,d,_,_,_,rfl,rfl,e3,rfl,_,rfl,ep,_,dx,_,_,rfl,e1,T.q_Edit,T.na_Edit_path,rfl,_,rfl,_,rfl,p',_,_,rfl,f1,rfl,_,rfl,c,zs,_,y1,rfl,rfl,f2,gC hy1,(by show 2<=aU;decide),fun td htd=>fun x2 dx2 hx2 hdx2 ne2=>⟨x2,dx2,_,_,_,rfl,aH,rfl,?_⟩⟩;have s1:=bA.upd (o:=.tup [.int (i:Nat),y1]) htd;exact BI k s1 hx2 hdx2 rfl (s1.sqT e2) ⟨y1,.of' aH,hv2.tups s1.tups⟩
 | _=>cases hw
theorem QO (T:iM K mg a):gY P w K mg base 4 "back_of_drop" ["edit","here"] (wH Jj a K):=by
 refine kL T.f_back_of_drop ["edit","here","name","place"] fun vs H Q E h=>?_;obtain⟨ep,y,e,b,u,rfl,hw,he,hy,hc,⟨zd,hz⟩,hb,k⟩:=h;refine⟨rfl,fun nd _ _ _ _ _ hr=>?_⟩;intro X;obtain⟨dx,pp,d,e1,e2,e3⟩:=he;refine⟨_,aI (cM (i:=2) nd rfl (bP rfl) (fN fV (cK (pv 0) rfl) cB (fun _ _=>rfl))) (aI (cM (i:=3) nd rfl (bP rfl) (bC (tK T) hr ⟨rfl,rfl,rfl⟩ (aA (pv 1) (aA (pv 2) aD)))) (aN (bH (nX (rE T) T.k_Edit hr.m ⟨rfl,rfl,rfl⟩ (aA eB (aA (cK (pv 0) rfl) (aA (iT (aA (pv 3) (aA (pv 2) (aA (fN fV (bC (eS T) hr.m ⟨rfl,rfl,rfl⟩ (aA (pv 1) aD)) (pv 3) (fun _ _=>rfl)) aD)))) aD))))))),?_⟩;cases e with
 | drop p n=>
  have e3:fK K H d [.str (bT n)]:=e3;have hb:(Vatwva.valueAt n (Vatwva.kidsOf u)).map (fun w=>Edit.add p (Vatwvc.placeOf (Vatwva.kidsOf u) n) n w)=some b:=hb;obtain⟨v1,hv1,rfl⟩:=aO.mp hb;have hmem:=VM.CC hv1;have hf:Vatwvc.hasField (Vatwva.kidsOf u) n=true:=VM.jR.mpr ⟨_,hmem,rfl⟩;obtain⟨A1,x1,B1,q1,q2,q3,q4,q5⟩:=KP hf;have hx1:x1.2=v1:=by have:((Vatwva.kidsOf u).find? fun x=>x.1 == n).map (fun x=>x.2)=some v1:=hv1;rw[q5]at this;exact cP this
  obtain⟨p',o,c,zs,rfl,f1,f2,f3⟩:=hy.parts;have hv3:(bE u)[Vatwvc.placeOf (Vatwva.kidsOf u) n]?=some v1:=by unfold bE;rw[bX,q3,q1,gO (aR _),mO,<-hx1];rfl
  obtain⟨y1,hy1,hv2⟩:=gA.getR f3 hv3;refine⟨_,rfl,ep,_,dx,_,_,rfl,e1,T.q_Edit,T.na_Edit_details,rfl,d,_,_,_,rfl,rfl,e3,rfl,_,rfl,_,rfl,.ref p',u,n,rfl,hy,fun _ _=>?_,fun cn=>?_⟩
  ·refine⟨_,rfl,ep,_,dx,_,_,rfl,e1,T.q_Edit,T.na_Edit_path,rfl,_,rfl,_,rfl,_,rfl,p',_,_,rfl,f1,rfl,_,rfl,c,zs,_,y1,rfl,rfl,f2,gC hy1,(by show 3<=aU;decide),fun td htd=>fun x2 dx2 hx2 hdx2 ne2=>⟨x2,dx2,_,_,_,rfl,aH,rfl,?_⟩⟩;have s1:=bA.upd (o:=.tup [.int (Vatwvc.placeOf (Vatwva.kidsOf u) n:Nat),.str (bT n),y1]) htd;exact BI k s1 hx2 hdx2 rfl (s1.sqT e2) ⟨y1,.of' aH,hv2.tups s1.tups⟩
  ·obtain⟨hl,_⟩:=VM.dU.mp (VM.FM hz);exact absurd ⟨hl,hf⟩ cn
 | _=>cases hw
theorem Np (T:iM K mg a) (B:sO P w K mg a) (e:gH):∃kvs f,xW P w K a.dBACKS kvs/\qP kvs (.inr (IA e))=some (.ref f)/\Ua P w K mg base 4 (.ref f) (wH (Jk e) a K):=by
 obtain⟨f1,f2,f3,f4,f5,f6,f7,⟨h1,h2,h3,h4,h5,h6,h7⟩,kd⟩:=B.backs;cases e with
 | set p v=>exact⟨_,f1,kd,rfl,gY.fnv ((US T).mono (by decide)) h1⟩
 | put p i v=>exact⟨_,f2,kd,rfl,gY.fnv ((UR T).mono (by decide)) h2⟩
 | take p i=>exact⟨_,f3,kd,rfl,gY.fnv ((QQ T).mono (by decide)) h3⟩
 | move p i j=>exact⟨_,f4,kd,rfl,gY.fnv ((QP T).mono (by decide)) h4⟩
 | add p i n v=>exact⟨_,f5,kd,rfl,gY.fnv ((UQ T).mono (by decide)) h5⟩
 | drop p n=>exact⟨_,f6,kd,rfl,gY.fnv ((QO T).mono (by decide)) h6⟩
 | rename p n m=>exact⟨_,f7,kd,rfl,gY.fnv ((LG T).mono (by decide)) h7⟩
theorem SH:∀(p:Vatwvc.Path) {v u:fT},VM.mQ v->Vatwva.atPath p v=some u->Vatwva.count u<=Vatwva.count v
 | [],v,u,_,h=>by cases h;exact aR _
 | s::p,v,u,o,h=>by
  rw[DQ]at h;obtain⟨j,hj,h⟩:=bF.mp h;obtain⟨x,hx,h⟩:=bF.mp h;have hm:=bB hx;have o1:VM.mQ x:=by obtain⟨y,_,rfl⟩:=aX.mp hm;exact VM.mW y (by assumption)
  have:=SH p o1 h;have:=wW o hm
  lia
inductive EU (a:mF) (K:aB) (vs:List V) (H:Hp) (Q:VK) (E:XK):Prop
 | mk (ep:aQ) (y:V) (e b:gH) (v:fT):vs=[.ref ep,y]->Dm a K H ep e->oG K H y v->Vatwva.count v<=5000->Vatwvc.turned e v=some b->Au a K H b Q->EU a K vs H Q E
theorem UZ (T:iM K mg a) (B:sO P w K mg a):gY P w K mg base 6 "turned_back" ["edit","value"] (EU a K):=by
 refine kL T.f_turned_back ["edit","value"] fun vs H Q E h=>?_;obtain⟨ep,y,e,b,v,rfl,he,hy,hc,hb,k⟩:=h;refine⟨rfl,fun nd _ _ _ _ _ hr=>?_⟩;intro X;refine⟨_,aN (bH (Fy (k:=4) ⟨rfl,rfl,rfl⟩ hr.m (BO (dN (v:=.ref a.dBACKS) (by rfl) T.d_BACKS rfl) (cK (pv 0) rfl) (fun _ _=>rfl)) (aA (pv 0) (aA (bC (Fs T) hr ⟨rfl,rfl,rfl⟩ (aA (pv 1) (aA (cK (pv 0) rfl) aD))) aD)))),?_⟩;obtain⟨kvs,fb,kd,hval,hfn⟩:=Np (base:=base) T B e;obtain⟨dx,pp,d,e1,e2,e3⟩:=id he;rw[VM.NW]at hb;obtain⟨w1,ha,hb⟩:=bF.mp hb;obtain⟨u,hu,hb⟩:=bF.mp hb;obtain⟨x0,z,hx0,hz⟩:=VM.xY _ (VM.nT.mp ha).1;rw[hu]at hx0;cases hx0;have hcu:=SH _ hy.1 hu;refine⟨_,rfl,ep,_,dx,_,_,rfl,e1,T.q_Edit,T.na_Edit_word,rfl,_,kvs,.inr (IA e),.ref fb,rfl,kd,rfl,hval,_,⟨hfn⟩,_,rfl,_,rfl,_,rfl,ep,_,dx,_,_,rfl,e1,T.q_Edit,T.na_Edit_path,rfl,y,v,pp,_,rfl,hy,e2,fun u' y' hu' hy'=>?_,fun hn=>?_⟩
 ·rw[hu]at hu';cases hu';exact⟨ep,y',e,b,u,rfl,OK e,he,hy',by lia,⟨z,hz⟩,hb,k⟩
 ·rw[hu]at hn;cases hn
def Ii (H:Hp) (ns:List Int) (Q:VK):Prop:=∀D H',bA H H'->H D=none->H' D=some (.lst (ns.map V.int))->Q (.ref D) H'
noncomputable def HA (l:List Nat):List Int:=l.map fun(n:Nat)=>(n:Int)
inductive PR (K:aB) (vs:List V) (H:Hp) (Q:VK) (E:XK):Prop
 | mk (x:V) (v:fT):vs=[x]->oG K H x v->Vatwva.deep v<=6->Vatwva.count v<=10000->Ii H (HA [Vatwva.count v,Vatwva.deep v]) Q->PR K vs H Q E
theorem EF (T:iM K mg a):gY P w K mg base 9 "measures" ["value"] (PR K):=by refine kL T.f_measures ["value"] fun vs H Q E h=>?_;obtain⟨x,v,rfl,hx,hd,hc,k⟩:=h;refine⟨rfl,fun nd _ _ _ _ _ hr=>?_⟩;intro X;refine⟨_,aN (bH (eL (aA (bC (lB T 6) hr ⟨rfl,rfl,rfl⟩ (aA (pv 0) aD)) (aA (bC (EB T 6) hr ⟨rfl,rfl,rfl⟩ (aA (pv 0) aD)) aD)))),?_⟩;refine⟨_,rfl,x,v,rfl,hx,hd,hc,fun H1 s1=>⟨_,rfl,x,v,rfl,hx.tups s1.tups,hd,hc,fun H2 s2=>⟨(by show 2<=aU;decide),fun D hD=>?_⟩⟩⟩;exact k D _ ((s1.trans s2).trans (bA.upd hD)) (dX.fresh (s1.trans s2) hD) aH
noncomputable def Gz (t:bW):List Int:=HA (eR t)
inductive VO (vs:List V) (H:Hp) (Q:VK) (E:XK):Prop
 | mk (l:aQ) (t:bW):vs=[.ref l]->H l=some (.lst (cV t))->t.length<=1000000->Ii H (Gz t) Q->VO vs H Q E
theorem BL (T:iM K mg a):gY P w K mg base 1 "counted" ["text"] VO:=by refine kL T.f_counted ["text"] fun vs H Q E h=>?_;obtain⟨l,t,rfl,hl,hn,k⟩:=h;refine⟨rfl,fun nd _ _ _ _ _ hr=>?_⟩;intro X;refine⟨_,aN (bH (kE uM (eL (aA (cY cW rfl T.n_len cE (aA (pv 0) aD)) aD)) (pv 0))),?_⟩;refine⟨_,rfl,l,_,rfl,.inl (hJ.of hl),(by show 1<=aU;decide),fun A1 hA1=>?_⟩;have s1:=bA.upd (o:=.lst [.int ((cV t).length:Nat)]) hA1;refine⟨_,rfl,A1,l,_,_,rfl,rfl,aH,s1 _ _ hl,big (by rw[bV];show 1+_<=_;lia),fun A2 hA2=>?_⟩;refine k A2 _ (s1.trans (bA.upd hA2)) (dX.fresh s1 hA2) ?_;rw[aH,bV];unfold Gz HA eR cV;rw[aP,aP,cQ,cQ];rfl
noncomputable def zY (t:bW):List yR:=t.map fun b=>PyData.int (b.toNat:Int)
noncomputable def kQ (l:List (Name×fT)):List yR:=l.map fun x=>PyData.str (bT x.1)
noncomputable def kS (l:Bool):Str:=if l then ("list":Str)else ("record":Str)
noncomputable def eV:QK->List yR
 | .nil=>[]
 | .text _ t r=>.tuple [.str "text",.tuple (zY t),.tuple []]::eV r
 | .num _ z r=>.tuple [.str "number",.int z,.tuple []]::eV r
 | .sub _ l k r=>.tuple [.str (kS l),.tuple (if l then []else kQ (Vatwva.entries k)),.tuple (eV k)]::eV r
section
variable {K:aB} {H:Hp}
theorem Lk:∀t:bW,KB K H (cV t) (zY t)
 | []=>.nil
 | b::t=>.cons (.int _) (Lk t)
theorem KM:∀l:List (Name×fT),KB K H (dR l) (kQ l)
 | []=>.nil
 | x::l=>.cons (.str _) (KM l)
theorem SN:∀{r:QK} {xs:List V},Dz K H r xs->KB K H xs (eV r)
 | .nil,xs,h=>by have h:xs=[]:=h;subst h;exact .nil
 | .text _ t r,xs,⟨a,b,c,ys,h1,h2,h3,h4,h5⟩=>by subst h1;exact .cons (.tup h2 (.cons (.str _) (.cons (.tup h3 (Lk t)) (.cons (.tup h4 .nil) .nil)))) (SN h5)
 | .num _ z r,xs,⟨a,c,ys,h1,h2,h3,h4⟩=>by subst h1;exact .cons (.tup h2 (.cons (.str _) (.cons (.int _) (.cons (.tup h3 .nil) .nil)))) (SN h4)
 | .sub _ l k r,xs,⟨a,b,c,ys,zs,h1,h2,h3,h4,h5,h6⟩=>by
  subst h1;refine .cons (.tup h2 (.cons (.str _) (.cons (.tup h3 ?_) (.cons (.tup h4 (SN h5)) .nil)))) (SN h6);cases l
  ·exact KM _
  ·exact .nil
end
theorem El:∀t u:bW,dD (zY t) (zY u)=true↔t=u
 | [],[]=>by simp[zY,dD]
 | [],b::u=>by simp[zY,dD]
 | b::t,[]=>by simp[zY,dD]
 | b::t,c::u=>by have ih:=El t u;show(kJ (.int _) (.int _) && dD (zY t) (zY u))=true↔_;rw[aE,ih,dE,kJ,beq_iff_eq];refine and_congr ⟨fun h=>lZ.mp (by lia),fun h=>by rw[h]⟩ PZ
theorem FN:∀l m:List (Name×fT),dD (kQ l) (kQ m)=true↔l.map (fun x=>x.1)=m.map (fun x=>x.1)
 | [],[]=>by simp[kQ,dD]
 | [],b::u=>by simp[kQ,dD]
 | b::t,[]=>by simp[kQ,dD]
 | b::t,c::u=>by have ih:=FN t u;show(kJ (.str _) (.str _) && dD (kQ t) (kQ u))=true↔_;rw[aE,ih,aP,aP,dE,kJ,beq_iff_eq];exact and_congr ⟨fun h=>uR h,fun h=>by rw[h]⟩ PZ
theorem Fw:∀{l m:List (Name×fT)},l.map (fun x=>x.1)=m.map (fun x=>x.1)->l.map (fun x=>x.2)=m.map (fun x=>x.2)->l=m
 | [],[],_,_=>rfl
 | [],_::_,h,_=>by cases h
 | _::_,[],h,_=>by cases h
 | x::l,y::m,h,g=>by rw[aP,aP,dE]at h g;rw[Fw h.2 g.2,show x=y from Prod.ext h.1 g.1]
theorem Ya (h:Vatwva.entries r=Vatwva.entries q):r=q:=by rw[<-VM.gL r,<-VM.gL q,h]
theorem Sk (h:VM.ok W false r=true):(Vatwva.entries r).map (fun x=>x.1)=(Vatwva.entries r).map fun _=>[]:=eQ fun x hx=>by have:=((VM.JC r false).mp h x hx).1;simpa using this
theorem Wa (hk:VM.ok W (!l) k=true) (hk':VM.ok W (!l) k'=true)
  (ih:dD (eV k) (eV k')=true↔(Vatwva.entries k).map (fun x=>x.2)=(Vatwva.entries k').map fun x=>x.2):
  (dD (if l then []else kQ (Vatwva.entries k)) (if l then []else kQ (Vatwva.entries k'))=true/\dD (eV k) (eV k')=true)↔k=k':=by
 rw[ih];constructor
 ·rintro⟨h1,h2⟩;refine Ya (Fw ?_ h2);cases l
  ·exact(FN _ _).mp h1
  ·rw[Sk hk,Sk hk'];have:=congrArg sQ h2;rw[aJ,aJ]at this;rw[List.map_const',List.map_const',this]
 ·rintro rfl;refine⟨?_,rfl⟩;cases l
  ·exact(FN _ _).mpr rfl
  ·rfl
theorem wE (s s':Str) (d d' e e':yR) (r r':List yR):(dD (.tuple [.str s,d,e]::r) (.tuple [.str s',d',e']::r')=true)↔(s=s'/\kJ d d'=true/\kJ e e'=true)/\dD r r'=true:=by simp only[dD,kJ,aE,beq_iff_eq,lE]
theorem SQ (xs ys:List yR):(kJ (.tuple xs) (.tuple ys)=true)↔dD xs ys=true:=by rw[kJ]
theorem Rn:∀(r q:QK) (n m:Bool),VM.ok W n r=true->VM.ok W m q=true->(dD (eV r) (eV q)=true↔(Vatwva.entries r).map (fun x=>x.2)=(Vatwva.entries q).map fun x=>x.2):=by
 have k1:("text":Str)≠"number":=by decide
 have k2:∀l:Bool,("text":Str)≠kS l:=by decide
 have k3:∀l:Bool,("number":Str)≠kS l:=by decide
 have k4:∀l l':Bool,kS l=kS l'↔l=l':=by decide
 intro r;induction r with
 | nil=>intro q n m _ _;cases q<;>simp[eV,dD,Vatwva.entries]
 | text nm t r ih=>
  intro q n m h1 h2;simp only[VM.ok,aE]at h1;cases q with
  | nil=>simp[eV,dD,Vatwva.entries]
  | text nm' t' r'=>simp only[VM.ok,aE]at h2;simp only[eV,Vatwva.entries,aP,dE];rw[wE,ih r' n m h1.2.2 h2.2.2,SQ,SQ,El];simp[dD,Vatwva.vText]
  | num nm' z' r'=>simp only[eV,Vatwva.entries,aP,dE];rw[wE];simp[k1,Vatwva.vText,Vatwva.vNum]
  | sub nm' l' k' r'=>simp only[eV,Vatwva.entries,aP,dE];rw[wE];have:=k2 l';simp[this,Vatwva.vText]
 | num nm z r ih=>
  intro q n m h1 h2;simp only[VM.ok,aE]at h1;cases q with
  | nil=>simp[eV,dD,Vatwva.entries]
  | text nm' t' r'=>simp only[eV,Vatwva.entries,aP,dE];rw[wE];simp[k1.symm,Vatwva.vText,Vatwva.vNum]
  | num nm' z' r'=>simp only[VM.ok,aE]at h2;simp only[eV,Vatwva.entries,aP,dE];rw[wE,ih r' n m h1.2.2 h2.2.2,SQ];simp[dD,kJ,Vatwva.vNum]
  | sub nm' l' k' r'=>simp only[eV,Vatwva.entries,aP,dE];rw[wE];have:=k3 l';simp[this,Vatwva.vNum]
 | sub nm l k r ihk ih=>
  intro q n m h1 h2;simp only[VM.ok,aE]at h1;cases q with
  | nil=>simp[eV,dD,Vatwva.entries]
  | text nm' t' r'=>simp only[eV,Vatwva.entries,aP,dE];rw[wE];have:=(k2 l).symm;simp[this,Vatwva.vText]
  | num nm' z' r'=>simp only[eV,Vatwva.entries,aP,dE];rw[wE];have:=(k3 l).symm;simp[this,Vatwva.vNum]
  | sub nm' l' k' r'=>
   simp only[VM.ok,aE]at h2;simp only[eV,Vatwva.entries,aP,dE];rw[wE,ih r' n m h1.2.2.2.2 h2.2.2.2.2,SQ,SQ,k4];refine and_congr ?_ PZ;by_cases e:l=l'
   ·subst e;have:=Wa h1.2.2.2.1 h2.2.2.2.1 (ihk k' _ _ h1.2.2.2.1 h2.2.2.2.1);simp only[true_and,this,Vatwva.Row.sub.injEq,and_true]
   ·simp[e]
theorem Ex:∀t:bW,fJ (zY t)=true
 | []=>rfl
 | b::t=>by show(tR (.int _) && fJ (zY t))=true;rw[Ex t];rfl
theorem Tl (n:bW):PyData.strOk (bT n)=true:=by
 unfold PyData.strOk bT;rw[Array.all_eq_true];intro i hi;have hi':i < n.length:=by simpa using hi
 have:n[i].toNat < 256:=n[i].toNat_lt;simp
 lia
theorem FT:∀l:List (Name×fT),fJ (kQ l)=true
 | []=>rfl
 | x::l=>by show(tR (.str _) && fJ (kQ l))=true;rw[FT l];exact(lE _).trans (Tl _)
theorem yB:∀r:QK,fJ (eV r)=true
 | .nil=>rfl
 | .text _ t r=>by simp only[eV,fJ,tR,Ex,yB r];decide+kernel
 | .num _ z r=>by simp only[eV,fJ,tR,yB r];decide+kernel
 | .sub _ l k r=>by
  cases l
  ·simp only[eV,fJ,tR,yB r,yB k,fR,if_false,FT];decide+kernel
  ·simp only[eV,fJ,tR,yB r,yB k,if_true];decide+kernel
theorem YJ:∀t:bW,gM (zY t)=0
 | []=>rfl
 | b::t=>by show max (CH (.int _)) (gM (zY t))=0;rw[YJ t];rfl
theorem BC:∀l:List (Name×fT),gM (kQ l)=0
 | []=>rfl
 | b::t=>by show max (CH (.str _)) (gM (kQ t))=0;rw[BC t];rfl
theorem zT:∀r:QK,gM (eV r)<=2 * Vatwva.deep r
 | .nil=>aR _
 | .text _ t r=>by have:=zT r;simp only[eV,gM,CH,YJ,Vatwva.deep];lia
 | .num _ z r=>by have:=zT r;simp only[eV,gM,CH,Vatwva.deep];lia
 | .sub _ l k r=>by
  have:=zT r;have:=zT k;have e:gM (if l then []else kQ (Vatwva.entries k))=0:=by cases l;exact BC _;rfl
  simp only[eV,gM,CH,e,Vatwva.deep];lia
theorem Ft (h:oG K H x v):∃d,eV v=[d]/\Dp K H x d:=by
 have:=SN h.2;cases q:eV v with
 | nil=>rw[q]at this;cases this
 | cons d r=>
  rw[q]at this;cases this with
  | cons a b=>cases b;exact⟨d,rfl,a⟩
theorem Fu (h:VM.mQ v):(Vatwva.entries v).map (fun x=>x.2)=[v]:=by rw[show Vatwva.entries v=[([],v)]from h];rfl
theorem Bj {W:Nat} {K:aB} {H:Hp} {x y:V} {v w:fT} {Q:VK} (hx:oG K H x v) (hy:oG K H y w) (gv:VM.eI W v) (gw:VM.eI W w) (dv:Vatwva.deep v<=30) (dw:Vatwva.deep w<=30) (q:Q (.bl (decide (v=w))) H):Xz K x y H Q:=by
 obtain⟨d,e1,h1⟩:=Ft hx;obtain⟨e,e2,h2⟩:=Ft hy;have l1:=yB v;have l2:=yB w;have d1:=zT v;have d2:=zT w;have hq:=Rn v w false false gv.2 gw.2;rw[Fu gv.1,Fu gw.1]at hq;rw[e1]at l1 d1 hq;rw[e2]at l2 d2 hq;simp only[fJ,lE]at l1 l2;simp only[gM]at d1 d2;simp only[dD,lE,dE,and_true]at hq;refine⟨d,e,h1,h2,?_,?_,?_⟩
 ·show(d.canLay0 && decide (d.depth<=64))=true;rw[l1,decide_eq_true (by lia)];rfl
 ·show(e.canLay0 && decide (e.depth<=64))=true;rw[l2,decide_eq_true (by lia)];rfl
 ·have:kJ d e=decide (v=w):=by
   by_cases c:v=w
   ·rw[decide_eq_true c];exact hq.mpr c
   ·rw[decide_eq_false c];exact iD.mpr fun z=>c (hq.mp z)
  rw[this];exact q
theorem Xn {K:aB} {H:Hp} {a b:aQ} {l m:List (Name×fT)} {Q:VK} (ha:fK K H a (dR l)) (hb:fK K H b (dR m)) (q:Q (.bl (decide (l.map (fun x=>x.1)=m.map (fun x=>x.1)))) H):Xz K (.ref a) (.ref b) H Q:=by
 have hq:=FN l m;refine⟨.tuple (kQ l),.tuple (kQ m),.tup ha (KM l),.tup hb (KM m),?_,?_,?_⟩
 ·show(fJ (kQ l) && decide (gM (kQ l)+1<=64))=true;rw[FT,BC];rfl
 ·show(fJ (kQ m) && decide (gM (kQ m)+1<=64))=true;rw[FT,BC];rfl
 ·have:kJ (.tuple (kQ l)) (.tuple (kQ m))=decide (l.map (fun x=>x.1)=m.map (fun x=>x.1)):=by
   rw[kJ];by_cases c:l.map (fun x=>x.1)=m.map (fun x=>x.1)
   ·rw[decide_eq_true c];exact hq.mpr c
   ·rw[decide_eq_false c];exact iD.mpr fun z=>c (hq.mp z)
  rw[this];exact q
inductive XY (a:mF) (K:aB) (H:Hp) (p:aQ) (r:iR):Prop
 | mk (dx:_) (l:_) (rs:_):H p=some (.ins a.cRow dx [("edits",.ref l),("cost",.int (r.cost:Nat))])->H l=some (.lst rs)->xP a K H rs r.edits->XY a K H p r
inductive vA (a:mF) (K:aB) (H0 H:Hp) (p:aQ) (r:iR):Prop
 | mk (dx:_) (l:_) (rs:_):H p=some (.ins a.cRow dx [("edits",.ref l),("cost",.int (r.cost:Nat))])->H l=some (.lst rs)->xP a K H rs r.edits->H0 l=none->vA a K H0 H p r
theorem vA.at (h:vA a K H0 H p r):XY a K H p r:=let ⟨dx,l,rs,h1,h2,h3,_⟩:=h;⟨dx,l,rs,h1,h2,h3⟩
def IM (a:mF) (K:aB) (H:Hp) (r:iR) (Q:VK):Prop:=∀H' p,bA H H'->vA a K H H' p r->Q (.ref p) H'
inductive PF (a:mF) (vs:List V) (H:Hp) (Q:VK) (E:XK):Prop
 | mk (x:_) (dx:_) (y1:_) (y2:_):vs=[.ref x,y1,y2]->H x=some (.ins a.cRow dx [])->Q .non (upd (upd H x (.ins a.cRow dx [("edits",y1)])) x (.ins a.cRow dx [("edits",y1),("cost",y2)]))->PF a vs H Q E
theorem NM (T:iM K mg a):Wk P w K mg base 1 a.cRow ["self","edits","cost"] (PF a):=by refine E8 T.mk_Row ["self","edits","cost"] fun vs H Q E h=>?_;obtain⟨x,dx,y1,y2,rfl,hx,k⟩:=h;refine⟨rfl,fun nd _ _ _ _ _ hr=>?_⟩;intro X;refine⟨_,aI (nY (pv 0) (pv 1) rfl) (aN (nY (pv 0) (pv 2) rfl)),?_⟩;exact⟨_,rfl,_,rfl,x,_,dx,_,rfl,hx,T.q_Row,T.na_Row_edits,(by show 0 < 1000;decide),_,rfl,_,rfl,x,_,dx,_,rfl,aH,T.q_Row,T.na_Row_cost,(by show 1 < 1000;decide),k⟩
theorem Jt {H H1:Hp} {r:iR} {Q:VK} {x dx l:aQ} {rs:List V} {c:Int} (k:IM a K H r Q) (s:bA H H1) (hx:H1 x=none) (hdx:H1 dx=none) (hl:H1 l=some (.lst rs)) (hes:xP a K H1 rs r.edits) (hc:c=(r.cost:Nat)) (h0:H l=none):
  Q (.ref x) (upd (upd (upd (upd H1 dx (.own x)) x (.ins a.cRow dx [])) x (.ins a.cRow dx [("edits",.ref l)])) x (.ins a.cRow dx [("edits",.ref l),("cost",.int c)])):=by
 have s7:bA H1 (upd (upd (upd (upd H1 dx (.own x)) x (.ins a.cRow dx [])) x (.ins a.cRow dx [("edits",.ref l)])) x (.ins a.cRow dx [("edits",.ref l),("cost",.int c)])):=dC (dC (dC (bA.upd hdx) hx) hx) hx;subst hc;exact k _ x (s.trans s7) ⟨dx,l,rs,aH,s7 _ _ hl,hes.same s7,h0⟩
noncomputable def FL:rN->Nat
 | .value v=>Vatwva.count v
 | _=>0
theorem Nw (e:gH):FH e=1+((VM.fA e).map FL).sum:=by cases e<;>simp[FH,VM.fA,FL]
inductive LV (a:mF) (K:aB) (vs:List V) (H:Hp) (Q:VK) (E:XK):Prop
 | mk (ep:aQ) (e:gH):vs=[.ref ep]->Dm a K H ep e->Vatwvc.isEdit e=true->Qu H (FH e:Nat) Q->LV a K vs H Q E
theorem LH (T:iM K mg a) (B:sO P w K mg a):gY P w K mg base 9 "edit_cost" ["edit"] (LV a K):=by
 refine kL T.f_edit_cost ["edit","cost","form","detail"] fun vs H Q E h=>?_;obtain⟨ep,e,rfl,he,hok,k⟩:=h;refine⟨rfl,fun nd _ _ _ _ _ hr=>?_⟩;intro X;obtain⟨u1,hm1,ru1⟩:=T.c_VALUE;refine⟨_,aI (cM (i:=1) nd rfl (bP rfl) cB) (aI (pP (gK ⟨rfl,rfl,rfl⟩) rfl (Cm (by rfl) T.n_zip (aA (BO (dN (v:=.ref a.dFORMS) (by rfl) T.d_FORMS rfl) (cK (pv 0) rfl) (fun _ _=>rfl)) (aA (cK (pv 0) rfl) aD))) (JD (n:=2) (by rfl) (lG (fC (i:=2) nd rfl (bP rfl)) (lG (fC (i:=3) nd rfl (bP rfl)) BP))) (aN (fE (dB qK (pv 2) (dN rfl hm1 ru1) (dL _)) (aN (Sz (i:=1) nd rfl (bP rfl) (bC (lB T 6) hr.m ⟨rfl,rfl,rfl⟩ (aA (pv 3) aD)) Rx)) cZ))) (aN (bH (pv 1)))),?_⟩;rw[VM.zU,aE]at hok;obtain⟨dx,pp,d,e1,e2,e3⟩:=he;obtain⟨ys,e4,e5⟩:=Li e3;obtain⟨kvs,kd,tab⟩:=NG B;obtain⟨q,hval,hq⟩:=(tab (VM.iL e)).1 _ (VM.KS e);have hyl:=e5.length;have hfp:¬Rs QI.place=("value":Str):=by decide
 have hfn:¬Rs QI.name=("value":Str):=by decide
 refine⟨_,rfl,ep,_,dx,_,_,rfl,e1,T.q_Edit,T.na_Edit_word,rfl,_,kvs,.inr (bT (VM.iL e)),.ref q,rfl,kd,by rw[MQ];rfl,hval,_,rfl,ep,_,dx,_,_,rfl,e1,T.q_Edit,T.na_Edit_details,rfl,q,d,_,_,rfl,hq _,e4,Ep (xs:=((VM.fA e).map rN.form).map yA) (ys:=ys) (by rw[aJ,aJ];exact hyl.symm) (fun i σ H'=>bA H H'/\∃s2 s3,σ=[some (.ref ep),some (.int ((1+(((VM.fA e).take i).map FL).sum:Nat):Int)),s2,s3]) ⟨bA.refl H,none,none,rfl⟩ (fun i σ H' _ h=>⟨hq _,h.1.sqT e4⟩) ?_ ?_⟩
 ·rintro i z y t' σ H' hz hy ht' ⟨sm,s2',s3',rfl⟩;rw[bX,bX]at hz;obtain⟨fm,efm,rfl⟩:=aO.mp hz;obtain⟨dt,edt,rfl⟩:=aO.mp efm;have hdt:=Paired.get2 e5 hy edt;have sT:bA H' (upd H' t' (.tup [yA dt.form,y])):=bA.upd ht';have esum:(1+(((VM.fA e).take (i+1)).map FL).sum)=(1+(((VM.fA e).take i).map FL).sum)+FL dt:=by rw[jC edt,aW,List.sum_append];simp;lia
  refine⟨t',_,rfl,.of' aH,rfl,_,_,rfl,_,_,rfl,rfl,?_⟩;cases dt with
  | place n=>refine⟨_,rfl,rfl,_,rfl,mV (decide_eq_false (by intro c;exact absurd (V.str.inj c) hfp)) ⟨sm.trans sT,some (yA (rN.place n).form),some y,by rw[esum];rfl⟩⟩
  | name n=>refine⟨_,rfl,rfl,_,rfl,mV (decide_eq_false (by intro c;exact absurd (V.str.inj c) hfn)) ⟨sm.trans sT,some (yA (rN.name n).form),some y,by rw[esum];rfl⟩⟩
  | value v=>have hv:Vatwva.isValue v=true:=cA.mp hok.2 (.value v) (bB edt);obtain⟨g,c,d⟩:=VM.dS.mp hv;have c:Vatwva.count v<=60:=c;have d:Vatwva.deep v<=6:=d;refine⟨_,rfl,rfl,_,rfl,pL (decide_eq_true rfl) ⟨_,rfl,_,rfl,y,v,rfl,oG.tups (sm.trans sT).tups hdt,d,by lia,fun H2 s2=>⟨_,_,rfl,rfl,(sm.trans sT).trans s2,some (yA (rN.value v).form),some y,by rw[esum,WI];rfl⟩⟩⟩
 ·rintro σ H' ⟨sm,s2',s3',rfl⟩;have e0:(((VM.fA e).map rN.form).map yA).length=(VM.fA e).length:=by rw[aJ,aJ]
  rw[e0,cN,<-Nw];exact⟨_,rfl,k H' sm⟩
inductive JG (a:mF) (K:aB) (vs:List V) (H:Hp) (Q:VK) (E:XK):Prop
 | mk (p:aQ) (r:iR):vs=[.ref p]->XY a K H p r->Q (.int (r.cost:Nat)) H->JG a K vs H Q E
theorem UT (T:iM K mg a):gY P w K mg base 1 "cost_of" ["row"] (JG a K):=by refine kL T.f_cost_of ["row"] fun vs H Q E h=>?_;obtain⟨p,r,rfl,⟨dx,l,rs,h1,h2,h3⟩,k⟩:=h;refine⟨rfl,fun nd _ _ _ _ _ hr=>?_⟩;intro X;exact⟨_,aN (bH (cK (pv 0) rfl)),_,rfl,p,_,dx,_,_,rfl,h1,T.q_Row,T.na_Row_cost,rfl,k⟩
noncomputable def Th (e:gH):iR:=⟨FH e,[e]⟩
inductive ZT (a:mF) (K:aB) (vs:List V) (H:Hp) (Q:VK) (E:XK):Prop
 | mk (ep:aQ) (e:gH):vs=[.ref ep]->Dm a K H ep e->Vatwvc.isEdit e=true->IM a K H (Th e) Q->ZT a K vs H Q E
theorem NN (T:iM K mg a) (B:sO P w K mg a):gY P w K mg base 10 "row_of" ["edit"] (ZT a K):=by refine kL T.f_row_of ["edit"] fun vs H Q E h=>?_;obtain⟨ep,e,rfl,he,hok,k⟩:=h;refine⟨rfl,fun nd _ _ _ _ _ hr=>?_⟩;intro X;refine⟨_,aN (bH (nX (NM T) T.k_Row hr.m ⟨rfl,rfl,rfl⟩ (aA (eL (aA (pv 0) aD)) (aA (bC (LH T B) hr ⟨rfl,rfl,rfl⟩ (aA (pv 0) aD)) aD)))),?_⟩;refine⟨_,rfl,(by show 1<=aU;decide),fun l hl=>?_⟩;have s1:=bA.upd (o:=.lst [.ref ep]) hl;refine⟨_,rfl,ep,e,rfl,he.same s1,hok,fun H2 s2=>fun x dx hx hdx ne=>⟨x,dx,_,_,rfl,aH,rfl,?_⟩⟩;exact Jt k (s1.trans s2) hx hdx (s2 _ _ aH) (.cons ⟨ep,rfl,(he.same s1).same s2⟩ .nil) rfl hl
inductive PV (a:mF) (K:aB) (vs:List V) (H:Hp) (Q:VK) (E:XK):Prop
 | mk (p q:aQ) (r t:iR):vs=[.ref p,.ref q]->XY a K H p r->XY a K H q t->r.edits.length+t.edits.length<=100000->IM a K H (Vatwvc.andThen r t) Q->PV a K vs H Q E
theorem yF (T:iM K mg a):gY P w K mg base 3 "row_then" ["row","later"] (PV a K):=by refine kL T.f_row_then ["row","later"] fun vs H Q E h=>?_;obtain⟨p,q,r,t,rfl,⟨dx,l,rs,h1,h2,h3⟩,⟨dx',l',rs',g1,g2,g3⟩,hn,k⟩:=h;refine⟨rfl,fun nd _ _ _ _ _ hr=>?_⟩;intro X;refine⟨_,aN (bH (nX (NM T) T.k_Row hr.m ⟨rfl,rfl,rfl⟩ (aA (kE uM (cK (pv 0) rfl) (cK (pv 1) rfl)) (aA (kE uL (cK (pv 0) rfl) (cK (pv 1) rfl)) aD)))),?_⟩;refine⟨_,rfl,p,_,dx,_,_,rfl,h1,T.q_Row,T.na_Row_edits,rfl,_,rfl,q,_,dx',_,_,rfl,g1,T.q_Row,T.na_Row_edits,rfl,l,l',rs,rs',rfl,rfl,h2,g2,big (by rw[h3.length,g3.length];lia),fun L hL=>?_⟩;have s1:=bA.upd (o:=.lst (rs++rs')) hL;refine⟨_,rfl,p,_,dx,_,_,rfl,s1 _ _ h1,T.q_Row,T.na_Row_cost,rfl,_,rfl,q,_,dx',_,_,rfl,s1 _ _ g1,T.q_Row,T.na_Row_cost,rfl,_,_,rfl,rfl,fun x dx hx hdx ne=>⟨x,dx,_,_,rfl,aH,rfl,?_⟩⟩;exact Jt k s1 hx hdx aH (Paired.appendP (h3.same s1) (g3.same s1)) (WI r.cost t.cost).symm hL
theorem Hh (s:Vatwva.Step) (e:gH):IA (gX s e)=IA e:=by cases e<;>rfl
theorem Ob (h:Tx K H d e):Tx K H d (gX s e):=by cases e<;>exact h
theorem Ch (p:Vatwvc.Path):(qL p).length=p.length:=aJ _
inductive ZS (a:mF) (K:aB) (vs:List V) (H:Hp) (Q:VK) (E:XK):Prop
 | mk (st:Vatwva.Step) (p:aQ) (r:iR):vs=[VU st,.ref p]->XY a K H p r->r.edits.length<=100000->(∀e∈r.edits,(Vatwvc.pathIn e).length<=10000)->IM a K H (VM.CL st r) Q->ZS a K vs H Q E
theorem ZD (T:iM K mg a):gY P w K mg base 4 "led_by" ["step","row"] (ZS a K):=by
 refine kL T.f_led_by ["step","row","edits","edit"] fun vs H Q E h=>?_;obtain⟨st,p,r,rfl,⟨dx,l,rs,h1,h2,h3⟩,hn,hp,k⟩:=h;refine⟨rfl,fun nd _ _ _ _ _ hr=>?_⟩;intro X;refine⟨_,aI (Gf (i:=2) rfl nd rfl rfl (Mm rfl rfl rfl (by rfl)) (RF (cK (pv 1) rfl)) (vB (own:=[("edit",3)]) (by rfl)) (fun _ _ _ _ _=>fC (i:=3) nd rfl (bP rfl)) (fun _ _ _ _ _=>yH) (te:=Ab a.cEdit (BX a) [] E0 (Aa (Wb K (Gw 3) "word") (Aa (D5 (Wt K) (D8 (Aa (Gw 0) Gv)) (Wb K (Gw 3) "path")) (Aa (Wb K (Gw 3) "details") Gv)))) (fun _ _ _ _ _=>Vn (rE T) T.k_Edit hr.m (aA (cK (pv 3) (by rfl)) (aA (kE FX (iT (aA (pv 0) aD)) (cK (pv 3) (by rfl))) (aA (cK (pv 3) (by rfl)) aD))))) (aN (bH (nX (NM T) T.k_Row hr.m ⟨rfl,rfl,rfl⟩ (aA (pv 2) (aA (cK (pv 1) rfl) aD))))),?_⟩;refine⟨_,rfl,p,_,dx,_,_,rfl,h1,T.q_Row,T.na_Row_edits,rfl,l,rfl,⟨_,hJ.of h2⟩,fun D hD=>?_⟩;refine Uu (xs:=rs) (fun j H'=>bA H H'/\∃qs,H' D=some (.lst qs)/\xP a K H' qs ((r.edits.take j).map (gX st))) ⟨bA.upd hD,[],aH,.nil⟩ (fun j H' _ h=>hJ.of (h.1 _ _ h2)) (fun j y H' hy h=>?_) (fun H' h=>?_)
 ·obtain⟨sm,qs,hD',hes⟩:=h;obtain⟨e,ee,ep,rfl,he⟩:=Paired.at h3 hy;have hm:=bB ee;obtain⟨dx',pp,d,e1,e2,e3⟩:=he.same sm;have hpl:=hp e hm;refine⟨rfl,tJ (B:=bA H H'/\∃qs,H' D=some (.lst qs)/\xP a K H' qs ((r.edits.take (j+1)).map (gX st))) ?_⟩;refine⟨_,rfl,ep,_,dx',_,_,rfl,e1,T.q_Edit,T.na_Edit_word,rfl,_,rfl,(by show 1<=aU;decide),fun t ht=>?_⟩;have sT:bA H' (upd H' t (.tup [VU st])):=bA.upd ht;refine⟨_,rfl,ep,_,dx',_,_,rfl,sT _ _ e1,T.q_Edit,T.na_Edit_path,rfl,t,pp,_,_,rfl,rfl,.of' aH,sT.sqT e2,big (by rw[Ch];show 1+_<=_;lia),fun q H2 s2 hq=>?_⟩;have sU:=sT.trans s2;refine⟨_,rfl,ep,_,dx',_,_,rfl,sU _ _ e1,T.q_Edit,T.na_Edit_details,rfl,fun x dx2 hx hdx2 ne=>⟨x,dx2,_,_,_,rfl,aH,rfl,?_⟩⟩;have s7:=vI (a:=a) (y1:=.str (IA e)) (y2:=.ref q) (y3:=.ref d) hx hdx2;have sV:=sU.trans s7;refine⟨qs,sV _ _ hD',MY (by rw[hes.length,aJ,bK];lia),dC (sm.trans sV) hD,qs++[.ref x],aH,?_⟩;rw[jC ee,aW];refine xP.updl (xs:=qs) (sV _ _ hD') (Paired.snoc (hes.same sV) ⟨x,rfl,dx2,q,d,?_,?_,?_⟩)
  ·rw[aH,Hh]
  ·rw[VM.tM];exact s7.sqT hq
  ·exact Ob ((e3.tups sU.tups).tups s7.tups)
 ·obtain⟨sm,qs,hD',hes⟩:=h;have e0:rs.length=r.edits.length:=h3.length;rw[e0,cN]at hes;refine⟨_,rfl,_,rfl,p,_,dx,_,_,rfl,sm _ _ h1,T.q_Row,T.na_Row_cost,rfl,fun x dx2 hx hdx2 ne=>⟨x,dx2,_,_,rfl,aH,rfl,?_⟩⟩;exact Jt k sm hx hdx2 hD' hes rfl hD
noncomputable def IN:List iR->iR
 | []=>⟨0,[]⟩
 | f::fs=>fs.foldl cheaper f
noncomputable def AZ (fs:List iR):List Int:=fs.map fun r=>((r.cost:Nat):Int)
theorem Nq (h:l≠[]) (x:iR):IN (l++[x])=cheaper (IN l) x:=by
 cases l with
 | nil=>exact absurd rfl h
 | cons f l=>show(l++[x]).foldl cheaper f=cheaper (l.foldl cheaper f) x;rw[NY];rfl
theorem NB (h:fs[i]?=some r):(AZ fs).getD i 0=(r.cost:Nat):=by unfold AZ;rw[List.getD_eq_getElem?_getD,bX,h];rfl
theorem Lc (fs:List iR):∀j,j < fs.length->fs[gV (AZ fs) j]?=some (IN (fs.take (j+1)))
 | 0,h=>by
  cases fs with
  | nil=>cases h
  | cons f fs=>rfl
 | j+1,h=>by
  have ih:=Lc fs j (by lia);have hx:fs[j+1]?=some fs[j+1]:=bD h;have e:fs.take (j+1+1)=fs.take (j+1)++[fs[j+1]]:=by rw[XT,hx];rfl
  have hne:fs.take (j+1)≠[]:=fun z=>by
   have:=congrArg sQ z;rw[bK,fY]at this
   lia
  rw[e,Nq hne,gV,NB hx,NB ih];unfold cheaper;by_cases c:(fs[j+1]).cost < (IN (fs.take (j+1))).cost
  ·rw[if_pos (by lia),if_pos c];exact hx
  ·rw[if_neg (by lia),if_neg c];exact ih
theorem Ra (h:0 < fs.length):fs[gV (AZ fs) (fs.length - 1)]?=some (IN fs):=by
 have:=Lc fs (fs.length - 1) (by lia)
 rwa [show fs.length - 1+1=fs.length by lia,cN]at this
noncomputable def RW (a:mF) (K:aB) (H0 H:Hp):List V->List iR->Prop:=hU fun v r=>∃p,v=.ref p/\vA a K H0 H p r
theorem vA.same (s:bA H H') (h:vA a K H0 H p r):vA a K H0 H' p r:=let ⟨dx,l,rs,h1,h2,h3,h4⟩:=h;⟨dx,l,rs,s _ _ h1,s _ _ h2,h3.same s,h4⟩
theorem vA.less (s:bA H0 H1) (h:vA a K H1 H p r):vA a K H0 H p r:=let ⟨dx,l,rs,h1,h2,h3,h4⟩:=h;⟨dx,l,rs,h1,h2,h3,dX.fresh s h4⟩
theorem RW.same (s:bA H H') (h:RW a K H0 H vs fs):RW a K H0 H' vs fs:=Paired.mapP h fun _ _ ⟨p,e,q⟩=>⟨p,e,q.same s⟩
theorem vA.updl (hD:H D=some (.lst xs)) (h0:H0 D≠none) (h:vA a K H0 H p r):vA a K H0 (upd H D (.lst ys)) p r:=by obtain⟨dx,l,rs,h1,h2,h3,h4⟩:=h;exact⟨dx,l,rs,by rw[bL (kK h1 hD (by intro z;cases z))];exact h1,by rw[bL (fun z=>h0 (by rw[<-z];exact h4))];exact h2,h3.updl hD,h4⟩
theorem RW.updl (hD:H D=some (.lst xs)) (h0:H0 D≠none) (h:RW a K H0 H vs fs):RW a K H0 (upd H D (.lst ys)) vs fs:=Paired.mapP h fun _ _ ⟨p,e,q⟩=>⟨p,e,q.updl hD h0⟩
theorem TQ (hb:sY X.K fd ps []) (F:vU X.prog X.w X.K X.mg X.base (WV X.prog X.w) k fc fd ps (JG a K)) (h:RW a K H0 H vs fs):OE X k fc H vs (AZ fs):=⟨fd,ps,_,hb,F,fun i v hv Q E q=>by obtain⟨r,hr,p,rfl,hp⟩:=Paired.at h hv;rw[NB hr]at q;exact⟨p,r,rfl,hp.at,q⟩⟩
theorem NU (h:RW a K H0 H vs fs) (hv:vs[gV (AZ fs) (vs.length - 1)]?=some v):∃p,v=.ref p/\vA a K H0 H p (IN fs):=by
 have hl:vs.length=fs.length:=h.length;have hn:0 < fs.length:=by
  rw[<-hl];rcases Nat.eq_zero_or_pos vs.length with z | z
  ·rw[eE z]at hv;cases hv
  ·exact z
 obtain⟨r,hr,p,e,hp⟩:=Paired.at h hv;rw[hl,Ra hn]at hr;cases hr;exact⟨p,e,hp⟩
theorem Bs (hx:H1 x=none) (hdx:H1 dx=none) (hl:H1 l=some (.lst rs)) (hes:xP a K H1 rs r.edits) (hc:c=(r.cost:Nat)) (h0:H l=none):
  bA H1 (upd (upd (upd (upd H1 dx (.own x)) x (.ins a.cRow dx [])) x (.ins a.cRow dx [("edits",.ref l)])) x (.ins a.cRow dx [("edits",.ref l),("cost",.int c)]))/\
   vA a K H (upd (upd (upd (upd H1 dx (.own x)) x (.ins a.cRow dx [])) x (.ins a.cRow dx [("edits",.ref l)])) x (.ins a.cRow dx [("edits",.ref l),("cost",.int c)])) x r:=by
 have s7:bA H1 (upd (upd (upd (upd H1 dx (.own x)) x (.ins a.cRow dx [])) x (.ins a.cRow dx [("edits",.ref l)])) x (.ins a.cRow dx [("edits",.ref l),("cost",.int c)])):=dC (dC (dC (bA.upd hdx) hx) hx) hx;subst hc;exact⟨s7,dx,l,rs,aH,s7 _ _ hl,hes.same s7,h0⟩
inductive tP (a:mF) (K:aB) (d:Nat) (vs:List V) (H:Hp) (Q:VK) (E:XK):Prop
 | mk (x y:V) (v w:fT):vs=[x,y]->oG K H x v->oG K H y w->Vatwva.isValue v=true->Vatwva.isValue w=true->Vatwva.deep v<=d->IM a K H (cD v w) Q->tP a K d vs H Q E
inductive HS (a:mF) (K:aB) (d:Nat) (vs:List V) (H:Hp) (Q:VK) (E:XK):Prop
 | mk (x y:V) (v w:fT):vs=[x,y]->oG K H x v->oG K H y w->Vatwva.isValue v=true->Vatwva.isValue w=true->Vatwva.deep v<=d+1->Vatwva.isRecord v=true->Vatwva.isRecord w=true->(Vatwva.kidsOf v).map (fun x=>x.1)=(Vatwva.kidsOf w).map (fun x=>x.1)->IM a K H (VM.NT cD (Vatwva.kidsOf v) (Vatwva.kidsOf w)) Q->HS a K d vs H Q E
theorem Gk {G:fT->fT->iR} {l:List ((Name×fT)×(Name×fT))} {i:Nat} {z:(Name×fT)×(Name×fT)} (h:l[i]?=some z):
  (l.take (i+1)).foldl (fun d z=>andThen d (VM.CL (.field z.1.1) (G z.1.2 z.2.2))) ⟨0,[]⟩=andThen ((l.take i).foldl (fun d z=>andThen d (VM.CL (.field z.1.1) (G z.1.2 z.2.2))) ⟨0,[]⟩) (VM.CL (.field z.1.1) (G z.1.2 z.2.2)):=by
 rw[jC h,NY];rfl
theorem XH (T:iM K mg a) {d L:Nat} (hL:10<=L) (hd:d<=100) (R:gY P w K mg base L "least_row" ["first","second"] (tP a K d)):gY P w K mg base (L+1) "record_row" ["first","second"] (HS a K d):=by
 refine kL T.f_record_row ["first","second","row","name","source","goal"] fun vs H Q E h=>?_
 obtain⟨x,y,v,w1,rfl,hx,hy,vv,vw,hdp,rv,rw1,hnm,k⟩:=h
 refine⟨rfl,fun nd f cdv A outer s hr=>?_⟩
 intro X
 have hr:jI L (A.deeper (tZ "record_row" (fU (top 104)) s.heap.objs.size f cdv)):=hr
 refine⟨_,aI (cM (i:=2) nd rfl (bP rfl) (nX (NM T) T.k_Row (hr.mono (by lia)) ⟨rfl,rfl,rfl⟩ (aA (eL aD) (aA cB aD))))
  (aI (pP (gK ⟨rfl,rfl,rfl⟩) rfl (Vo (by rfl) T.n_zip (aA (bC (sG T) (hr.mono (by lia)) ⟨rfl,rfl,rfl⟩ (aA (pv 0) aD)) (aA (bC (eS T) (hr.mono (by lia)) ⟨rfl,rfl,rfl⟩ (aA (pv 0) aD)) (aA (bC (eS T) (hr.mono (by lia)) ⟨rfl,rfl,rfl⟩ (aA (pv 1) aD)) aD))))
    (JD (n:=3) (by rfl) (lG (fC (i:=3) nd rfl (bP rfl)) (lG (fC (i:=4) nd rfl (bP rfl)) (lG (fC (i:=5) nd rfl (bP rfl)) BP))))
   (aN (cM (i:=2) nd rfl (bP rfl) (bC (yF T) (hr.mono (by lia)) ⟨rfl,rfl,rfl⟩ (aA (pv 2) (aA (bC (ZD T) (hr.mono (by lia)) ⟨rfl,rfl,rfl⟩ (aA (pv 3) (aA (bC R hr ⟨rfl,rfl,rfl⟩ (aA (pv 4) (aA (pv 5) aD))) aD))) aD))))))
  (aN (bH (pv 2)))),?_⟩
 obtain⟨gv,cv,dv⟩:=VM.dS.mp vv
 obtain⟨gw,cw,dw⟩:=VM.dS.mp vw
 obtain⟨p,b,c,zs,rfl,h1,h2,h3,h4⟩:=hx.rec rv
 obtain⟨p',b',c',zs',rfl,g1,g2,g3,g4⟩:=hy.rec rw1
 have h4:gA K H zs ((Vatwva.kidsOf v).map fun x=>x.2):=h4
 have g4:gA K H zs' ((Vatwva.kidsOf w1).map fun x=>x.2):=g4
 have hlen:(Vatwva.kidsOf v).length=(Vatwva.kidsOf w1).length:=by
  have:=congrArg sQ hnm
  rwa [aJ,aJ]at this
 have hkl:=(gv.kids rv).1
 have hkl:(Vatwva.kidsOf v).length<=12:=hkl
 have hz1:zs.length=(Vatwva.kidsOf v).length:=by rw[h4.length,aJ]
 have hz2:zs'.length=(Vatwva.kidsOf w1).length:=by rw[g4.length,aJ]
 have hzl:((Vatwva.kidsOf v).zip (Vatwva.kidsOf w1)).length=(Vatwva.kidsOf v).length:=by rw[List.length_zip,<-hlen,Hv]
 refine⟨aY _,fun l hl=>fun x0 dx0 hx0 hdx0 ne0=>⟨x0,dx0,_,_,rfl,aH,rfl,?_⟩⟩
 have sl:=bA.upd (o:=.lst []) hl
 obtain⟨s7,r7⟩:=Bs (a:=a) (K:=K) (H:=H) (r:=⟨0,[]⟩) (c:=0) hx0 hdx0 aH (.nil) rfl hl
 have s0:=sl.trans s7
 refine⟨_,rfl,p,_,_,rfl,s0.sqT h1,rfl,_,rfl,p,_,_,rfl,s0.sqT h1,rfl,_,rfl,p',_,_,rfl,s0.sqT g1,rfl,b,c,c',_,_,_,rfl,s0.sqT h2,s0.sqT h3,s0.sqT g3,
  Rq (xs:=dR (Vatwva.kidsOf v)) (ys:=zs) (ws:=zs') (by rw[gW];exact hz1.symm) (by rw[gW,hlen];exact hz2.symm) (fun i σ H'=>bA H H'/\∃q s3 s4 s5,σ=[some (.ref p),some (.ref p'),some (.ref q),s3,s4,s5]/\
   vA a K H H' q ((((Vatwva.kidsOf v).zip (Vatwva.kidsOf w1)).take i).foldl (fun d z=>andThen d (VM.CL (.field z.1.1) (cD z.1.2 z.2.2))) ⟨0,[]⟩))
   ⟨s0,x0,none,none,none,rfl,r7⟩ (fun i σ H' _ h=>⟨h.1.sqT h2,h.1.sqT h3,h.1.sqT g3⟩) ?_ ?_⟩
 ·rintro i n y1 y2 t' σ H' hn hy1 hy2 ht' ⟨sm,q,s3,s4,s5,rfl,hq⟩
  unfold dR at hn
  rw[bX]at hn
  obtain⟨kid,ek,rfl⟩:=aO.mp hn
  obtain⟨v1,ev1,hv1⟩:=h4.get hy1
  rw[bX,ek]at ev1
  cases ev1
  obtain⟨v2,ev2,hv2⟩:=g4.get hy2
  rw[bX]at ev2
  obtain⟨kid2,ek2,rfl⟩:=aO.mp ev2
  have hzi:((Vatwva.kidsOf v).zip (Vatwva.kidsOf w1))[i]?=some (kid,kid2):=by rw[List.getElem?_zip_eq_some];exact⟨ek,ek2⟩
  have m1:=bB ek
  have m2:=bB ek2
  have vk1:=VM.oW vv m1
  have vk2:=VM.oW vw m2
  have dk:=VM.xA gv.1 m1
  have nice:=VM.uJ d (v:=kid.2) (w:=kid2.2) (by lia) vk1 vk2
  have sT:bA H' (upd H' t' (.tup [.str (bT kid.1),y1,y2])):=bA.upd ht'
  have smT:=sm.trans sT
  refine⟨t',_,rfl,.of' aH,rfl,_,_,rfl,_,_,rfl,_,_,rfl,rfl,?_⟩
  refine⟨_,rfl,_,rfl,_,rfl,_,rfl,y1,y2,kid.2,kid2.2,rfl,hv1.tups smT.tups,hv2.tups smT.tups,vk1,vk2,by lia,fun H2 p2 s2 r2=>?_⟩
  refine⟨.field kid.1,p2,_,rfl,r2.at,?_,fun e he=>bI (nice.ok e he).2 (by lia),fun H3 p3 s3 r3=>?_⟩
  ·have:=nice.len;have:=nice.le;lia
  have nl:=nice.led (s:=.field kid.1) ((gv.kids rv).2.2 kid m1).1
  have nr:=VM.NL (G:=cD) (d:=d) (((Vatwva.kidsOf v).zip (Vatwva.kidsOf w1)).take i) ⟨0,[]⟩ 0 (VM.oE.zero _ _) (fun z hz=>by
   have hz:=oY (gP hz)
   exact⟨((gv.kids rv).2.2 _ hz.1).1,VM.uJ d (by have:=VM.xA gv.1 hz.1;lia) (VM.oW vv hz.1) (VM.oW vw hz.2)⟩)
  have hti:(((Vatwva.kidsOf v).zip (Vatwva.kidsOf w1)).take i).length<=12:=by rw[bK];lia
  have s23:=(sT.trans s2).trans s3
  refine⟨q,p3,_,_,rfl,(hq.same s23).at,r3.at,?_,fun H4 p4 s4' r4=>⟨sm.trans (s23.trans s4'),p4,_,_,_,rfl,?_⟩⟩
  ·have:=nl.len;have:=nl.le;have:=nr.len;have:=nr.le;lia
  ·rw[Gk hzi]
   exact r4.less (sm.trans s23)
 ·rintro σ H' ⟨sm,q,s3,s4,s5,rfl,hq⟩
  rw[gW,<-hzl,cN]at hq
  exact⟨_,rfl,k H' q sm hq⟩
noncomputable def Mr (G:fT->fT->iR) (j:Nat):List fT->List fT->List iR
 | x::a,w::b=>[andThen (CL (.item j) (G x w)) (gT G a b (j+1)),andThen (MM j) (gT G a (w::b) j),andThen (VC j w) (gT G (x::a) b (j+1))]
 | x::a,[]=>[andThen (MM j) (gT G a [] j)]
 | [],w::b=>[andThen (VC j w) (gT G [] b (j+1))]
 | [],[]=>[]
theorem YB (G:fT->fT->iR) (j:Nat) (a b:List fT):IN (Mr G j a b)=gT G a b j:=by
 cases a with
 | nil=>
  cases b with
  | nil=>rfl
  | cons w b=>rw[VM.SG];rfl
 | cons x a=>
  cases b with
  | nil=>rw[VM.SF];rfl
  | cons w b=>rw[VM.SE];rfl
def xV (a:mF) (K:aB) (H0 H:Hp) (kvs:List (List CS×V)) (as bs:List fT) (ok:Nat->Nat->Prop):Prop:=∀i j,i<=as.length->j<=bs.length->ok i j->∃p,qP kvs [.inl (i:Int),.inl (j:Int)]=some (.ref p)/\vA a K H0 H p (gT cD (as.drop i) (bs.drop j) j)
theorem xV.same (s:bA H H') (h:xV a K H0 H kvs as bs ok):xV a K H0 H' kvs as bs ok:=fun i j hi hj hk=>let ⟨p,e,q⟩:=h i j hi hj hk;⟨p,e,q.same s⟩
def A8 (i j i' j':Nat):Prop:=i < i'\/(i'=i/\j < j')
theorem zR (hR:H R=some (.dT kvs)) (ht:H t=some (.tup [.int (i:Int),.int (j:Int)])) (hv:qP kvs [.inl (i:Int),.inl (j:Int)]=some (.ref p)):Ie H R (.ref t) (some (.ref p)):=by
 have:=Ie.t (k:=[.inl (i:Int),.inl (j:Int)]) hR ht
 rwa [hv]at this
structure Zh (a:mF) (K:aB) (H:Hp) (D:aQ) (H':Hp) (xs:List V) (fs:List iR):Prop where
 same:bA H H'
 at_:H' D=some (.lst xs)
 rows:RW a K (upd H D (.lst [])) H' xs fs
theorem Zh.add (hD:H D=none) (h:Zh a K H D H' xs fs) (s2:bA H' H2) (s3:bA H2 H3) (hr:vA a K H2 H3 p r):
  H3 D=some (.lst xs)/\Zh a K H D (upd H3 D (.lst (xs++[.ref p]))) (xs++[.ref p]) (fs++[r]):=by
 have s23:=s2.trans s3;have hD2:=s2 _ _ h.at_;have hD3:=s23 _ _ h.at_;have n0:upd H D (.lst []) D≠none:=by rw[aH];intro z;cases z
 refine⟨hD3,dC (h.same.trans s23) hD,aH,Paired.snoc ((h.rows.same s23).updl hD3 n0) ⟨p,rfl,?_⟩⟩;refine vA.updl hD3 n0 ?_;obtain⟨dx,l,rs,h1,h2,h3,h4⟩:=hr;refine⟨dx,l,rs,h1,h2,h3,?_⟩;have hne:l≠D:=fun z=>by rw[z,hD2]at h4;cases h4
 rw[bL hne];exact dX.fresh (h.same.trans s2) h4
def Wz (a:mF) (K:aB) (H:Hp) (fs:List iR) (Q:VK):Prop:=∀H' D xs,H D=none->Zh a K H D H' xs fs->Q (.ref D) H'
structure Xd (a:mF) (K:aB) (d:Nat) (H:Hp) (cs cg R:aQ) (i j:Nat) (zs ws:List V) (kvs:List (List CS×V)) (as bs:List fT):Prop where
 s1:fK K H cs zs
 s2:gA K H zs as
 g1:fK K H cg ws
 g2:gA K H ws bs
 hR:H R=some (.dT kvs)
 av:∀x∈as,Vatwva.isValue x=true/\Vatwva.deep x<=d
 bv:∀y∈bs,Vatwva.isValue y=true
 al:as.length<=12
 bl:bs.length<=12
 hi:i<=as.length
 hj:j<=bs.length
 cells:xV a K (fun _=>none) H kvs as bs (A8 i j)
theorem Ju {d:Nat} {as bs:List fT} (av:∀x∈as,Vatwva.isValue x=true/\Vatwva.deep x<=d) (bv:∀y∈bs,Vatwva.isValue y=true) (al:as.length<=12) (bl:bs.length<=12) (i j k:Nat) (hk:k<=12):(gT cD (as.drop i) (bs.drop j) k).edits.length<=1464:=by
 have n:=VM.uI (G:=cD) (d:=d) (as.drop i) (bs.drop j) k (by rw[cX];lia) (fun y hy=>bv y (fQ hy)) (fun x hx y hy=>by have hx:=av x (fQ hx);exact VM.uJ d hx.2 hx.1 (bv y (fQ hy)));have:=n.len;have:=n.le;rw[cX,cX]at this
 lia
inductive VS (a:mF) (K:aB) (d:Nat) (vs:List V) (H:Hp) (Q:VK) (E:XK):Prop
 | mk (cs cg R:aQ) (i j:Nat) (zs ws:List V) (kvs:List (List CS×V)) (as bs:List fT):vs=[.ref cs,.ref cg,.ref R,.int (i:Nat),.int (j:Nat)]->Xd a K d H cs cg R i j zs ws kvs as bs->Wz a K H (Mr cD j (as.drop i) (bs.drop j)) Q->VS a K d vs H Q E
theorem Bf {α:Type} {l:List α} {i:Nat} {x:α} {r:List α} (h:l.drop i=x::r):l[i]?=some x/\l.drop (i+1)=r/\i < l.length:=by
 have hlt:i < l.length:=by
  rcases Nat.lt_or_ge i l.length with z | z
  ·exact z
  ·rw[oN z]at h;cases h
 rw[bM hlt]at h;cases h;exact⟨bD hlt,rfl,hlt⟩
theorem Jw (T:iM K mg a) (B:sO P w K mg a) {d L:Nat} (hL:12<=L) (hd:d<=100) (Rr:gY P w K mg base L "least_row" ["first","second"] (tP a K d)):gY P w K mg base (L+1) "ways_on" ["sources","goals","rest","gone","come"] (VS a K d):=by
 refine kL T.f_ways_on ["sources","goals","rest","gone","come","ways","kept"] fun vs H Q E h=>?_
 obtain⟨cs,cg,R,i,j,zs,ws,kvs,as,bs,rfl,W,k⟩:=h
 refine⟨rfl,fun nd f cdv A outer s hr=>?_⟩
 intro X
 have hr:jI L (A.deeper (tZ "ways_on" (fU (top 105)) s.heap.objs.size f cdv)):=hr
 have hu:=Wn hr
 refine⟨_,aI (cM (i:=5) nd rfl (bP rfl) (eL aD))
  (aI (fE (PW.pt (VD (dB OT (pv 3) (cY cW rfl T.n_len cE (aA (pv 0) aD)) (dL _)) (LQ (dB OT (pv 4) (cY cW rfl T.n_len cE (aA (pv 1) aD)) (dL _)))))
    (aI (cM (i:=6) nd rfl (bP rfl) (bC (ZD T) (hr.mono (by lia)) ⟨rfl,rfl,rfl⟩ (aA (pv 4) (aA (bC Rr hr ⟨rfl,rfl,rfl⟩ (aA (fN fV (pv 0) (pv 3) (fun _ _=>rfl)) (aA (fN fV (pv 1) (pv 4) (fun _ _=>rfl)) aD))) aD))))
    (aN (dO (nM bG bR bS gI (pv 5) (aA (bC (yF T) (hr.mono (by lia)) ⟨rfl,rfl,rfl⟩ (aA (pv 6) (aA (RE hu (pv 2) (iT (aA (kE uL (pv 3) cB) (aA (kE uL (pv 4) cB) aD))) (fun _ _=>rfl)) aD))) aD))))) cZ)
  (aI (fE (dB OT (pv 3) (cY cW rfl T.n_len cE (aA (pv 0) aD)) (dL _))
    (aN (dO (nM bG bR bS gI (pv 5) (aA (bC (yF T) (hr.mono (by lia)) ⟨rfl,rfl,rfl⟩ (aA
     (bC (NN T B) (hr.mono (by lia)) ⟨rfl,rfl,rfl⟩ (aA (nX (rE T) T.k_Edit (hr.mono (by lia)) ⟨rfl,rfl,rfl⟩ (aA eB (aA (iT aD) (aA (iT (aA (pv 4) aD)) aD)))) aD))
     (aA (RE hu (pv 2) (iT (aA (kE uL (pv 3) cB) (aA (pv 4) aD))) (fun _ _=>rfl)) aD))) aD)))) cZ)
  (aI (fE (dB OT (pv 4) (cY cW rfl T.n_len cE (aA (pv 1) aD)) (dL _))
    (aN (dO (nM bG bR bS gI (pv 5) (aA (bC (yF T) (hr.mono (by lia)) ⟨rfl,rfl,rfl⟩ (aA
     (bC (NN T B) (hr.mono (by lia)) ⟨rfl,rfl,rfl⟩ (aA (nX (rE T) T.k_Edit (hr.mono (by lia)) ⟨rfl,rfl,rfl⟩ (aA eB (aA (iT aD) (aA (iT (aA (pv 4) (aA (fN fV (pv 1) (pv 4) (fun _ _=>rfl)) aD))) aD)))) aD))
     (aA (RE hu (pv 2) (iT (aA (pv 3) (aA (kE uL (pv 4) cB) aD))) (fun _ _=>rfl)) aD))) aD)))) cZ)
  (aN (bH (pv 5)))))),?_⟩
 refine⟨aY _,fun D hD=>?_⟩
 have w0:Zh a K H D (upd H D (.lst [])) [] []:=⟨bA.upd hD,aH,.nil⟩
 have zl:zs.length=as.length:=W.s2.length
 have wl:ws.length=bs.length:=W.g2.length
 have nc:=Ju W.av W.bv W.al W.bl
 have Tq:∀{e:gH} {i' j' k':Nat},Vatwvc.isEdit e=true->k'<=12->(Th e).edits.length+(gT cD (as.drop i') (bs.drop j') k').edits.length<=100000:=fun {e i' j' k'} _ hk=>by
  have:=nc i' j' k' hk
  show 1+_<=_;lia
 have al:=W.al
 have bl:=W.bl
 have hjj:=W.hj
 have hii:=W.hi
 have tS:i < as.length->decide ((i:Int) < ((zs.length:Nat):Int))=true:=fun h=>decide_eq_true (by lia)
 have fS:¬i < as.length->decide ((i:Int) < ((zs.length:Nat):Int))=false:=fun h=>decide_eq_false (by lia)
 have tG:j < bs.length->decide ((j:Int) < ((ws.length:Nat):Int))=true:=fun h=>decide_eq_true (by lia)
 have fG:¬j < bs.length->decide ((j:Int) < ((ws.length:Nat):Int))=false:=fun h=>decide_eq_false (by lia)
 cases qa:as.drop i with
 | nil=>
  have hia:¬i < as.length:=fun z=>by rw[bM z]at qa;cases qa
  refine⟨_,rfl,_,rfl,cs,zs,rfl,.inr (w0.same.sqT W.s1),_,_,rfl,rfl,_,rfl,mV (fS hia) (xR ?_)⟩
  refine⟨_,rfl,_,rfl,cs,zs,rfl,.inr (w0.same.sqT W.s1),_,_,rfl,rfl,_,rfl,mV (fS hia) ?_⟩
  cases qb:bs.drop j with
  | nil=>
   have hjb:¬j < bs.length:=fun z=>by rw[bM z]at qb;cases qb
   refine⟨_,rfl,_,rfl,cg,ws,rfl,.inr (w0.same.sqT W.g1),_,_,rfl,rfl,_,rfl,mV (fG hjb) ?_⟩
   rw[qa,qb]at k
   exact⟨_,rfl,k _ D _ hD w0⟩
  | cons w1 br=>
   obtain⟨hb1,hb2,hjb⟩:=Bf qb
   obtain⟨y1,hy1,hw1⟩:=gA.getR W.g2 hb1
   have vy:=W.bv w1 (bB hb1)
   refine⟨_,rfl,_,rfl,cg,ws,rfl,.inr (w0.same.sqT W.g1),_,_,rfl,rfl,_,rfl,pL (tG hjb) ?_⟩
   obtain⟨pc1,hc1,rc1⟩:=W.cells i (j+1) W.hi (by lia) (.inr ⟨rfl,by lia⟩)
   refine⟨_,rfl,.inl ⟨rfl,_,hJ.of w0.at_⟩,aY _,fun t0 ht0=>⟨_,rfl,_,rfl,_,rfl,cg,ws,_,y1,rfl,rfl,((w0.same.trans (bA.upd ht0)).sqT W.g1),gC hy1,(by show 2<=aU;decide),fun t1 ht1=>fun x dx hx hdx ne=>⟨x,dx,_,_,_,rfl,aH,rfl,?_⟩⟩⟩
   have sa1:=(bA.upd (o:=.tup []) ht0).trans (bA.upd (o:=.tup [.int (j:Nat),y1]) ht1)
   have sb1:=vI (a:=a) (y1:=.str "put") (y2:=.ref t0) (y3:=.ref t1) hx hdx
   have sc1:=sa1.trans sb1
   have iy:Vatwvc.isEdit (.put [] j w1)=true:=by show(true && (decide (j<=Vatwva.GREATEST) && Vatwva.isValue w1))=true;rw[VM.pN (by lia),vy];rfl
   refine⟨x,.put [] j w1,rfl,⟨dx,t0,t1,aH,sb1.sqT ((bA.upd ht1).sqT (.of' aH)),y1,sb1.sqT (.of' aH),hw1.tups (w0.same.trans sc1).tups⟩,iy,fun H2 p2 s2 r2=>?_⟩
   have sd1:=sc1.trans s2
   refine⟨_,rfl,_,rfl,_,rfl,_,_,rfl,rfl,(by show 2<=aU;decide),fun t2 ht2=>?_⟩
   have se1:=bA.upd (o:=.tup [.int (i:Nat),.int ((j:Int)+1)]) ht2
   have sf1:=sd1.trans se1
   refine⟨R,.ref pc1,rfl,zR (i:=i) (j:=j+1) ((w0.same.trans sf1) _ _ W.hR) aH hc1,p2,pc1,_,_,rfl,(r2.same se1).at,(rc1.same (w0.same.trans sf1)).at,Tq (e:=.put [] j w1) iy (by lia),fun H3 p3 s3 r3=>?_⟩
   obtain⟨hD1,w1⟩:=w0.add hD sf1 s3 r3
   refine⟨D,_,_,rfl,rfl,hD1,small (by simp),?_⟩
   rw[qa,qb]at k
   rw[qa,hb2]at w1
   exact⟨_,rfl,k _ D _ hD w1⟩
 | cons v1 ar=>
  obtain⟨ha1,ha2,hia⟩:=Bf qa
  obtain⟨x1,hx1,hv1⟩:=gA.getR W.s2 ha1
  have vx:=W.av v1 (bB ha1)
  cases qb:bs.drop j with
  | nil=>
   have hjb:¬j < bs.length:=fun z=>by rw[bM z]at qb;cases qb
   refine⟨_,rfl,_,rfl,cs,zs,rfl,.inr (w0.same.sqT W.s1),_,_,rfl,rfl,_,rfl,pL (tS hia) ⟨_,rfl,_,rfl,cg,ws,rfl,.inr (w0.same.sqT W.g1),_,_,rfl,rfl,_,rfl,mV (fG hjb) ?_⟩⟩
   refine⟨_,rfl,_,rfl,cs,zs,rfl,.inr (w0.same.sqT W.s1),_,_,rfl,rfl,_,rfl,pL (tS hia) ?_⟩
   obtain⟨pc1,hc1,rc1⟩:=W.cells (i+1) j (by lia) W.hj (.inl (by lia))
   refine⟨_,rfl,.inl ⟨rfl,_,hJ.of w0.at_⟩,aY _,fun t0 ht0=>⟨_,rfl,(by show 1<=aU;decide),fun t1 ht1=>fun x dx hx hdx ne=>⟨x,dx,_,_,_,rfl,aH,rfl,?_⟩⟩⟩
   have sa1:=(bA.upd (o:=.tup []) ht0).trans (bA.upd (o:=.tup [.int (j:Nat)]) ht1)
   have sb1:=vI (a:=a) (y1:=.str "take") (y2:=.ref t0) (y3:=.ref t1) hx hdx
   have sc1:=sa1.trans sb1
   refine⟨x,.take [] j,rfl,⟨dx,t0,t1,aH,sb1.sqT ((bA.upd ht1).sqT (.of' aH)),sb1.sqT (.of' aH)⟩,VM.pN (by lia),fun H2 p2 s2 r2=>?_⟩
   have sd1:=sc1.trans s2
   refine⟨_,rfl,_,rfl,_,_,rfl,rfl,_,rfl,(by show 2<=aU;decide),fun t2 ht2=>?_⟩
   have se1:=bA.upd (o:=.tup [.int ((i:Int)+1),.int (j:Nat)]) ht2
   have sf1:=sd1.trans se1
   refine⟨R,.ref pc1,rfl,zR (i:=i+1) (j:=j) ((w0.same.trans sf1) _ _ W.hR) aH hc1,p2,pc1,_,_,rfl,(r2.same se1).at,(rc1.same (w0.same.trans sf1)).at,Tq (e:=.take [] j) (VM.pN (by lia)) (by lia),fun H3 p3 s3 r3=>?_⟩
   obtain⟨hD1,w1⟩:=w0.add hD sf1 s3 r3
   refine⟨D,_,_,rfl,rfl,hD1,small (by simp),?_⟩
   refine⟨_,rfl,_,rfl,cg,ws,rfl,.inr (w1.same.sqT W.g1),_,_,rfl,rfl,_,rfl,mV (fG hjb) ?_⟩
   rw[qa,qb]at k
   rw[qb,ha2]at w1
   exact⟨_,rfl,k _ D _ hD w1⟩
  | cons w1 br=>
   obtain⟨hb1,hb2,hjb⟩:=Bf qb
   obtain⟨y1,hy1,hw1⟩:=gA.getR W.g2 hb1
   have vy:=W.bv w1 (bB hb1)
   have nice:=VM.uJ d (v:=v1) (w:=w1) vx.2 vx.1 vy
   have nl:=nice.led (s:=.item j) (VM.pN (by lia))
   refine⟨_,rfl,_,rfl,cs,zs,rfl,.inr (w0.same.sqT W.s1),_,_,rfl,rfl,_,rfl,pL (tS hia) ⟨_,rfl,_,rfl,cg,ws,rfl,.inr (w0.same.sqT W.g1),_,_,rfl,rfl,_,rfl,pL (tG hjb) ?_⟩⟩
   obtain⟨pc0,hc0,rc0⟩:=W.cells (i+1) (j+1) (by lia) (by lia) (.inl (by lia))
   refine⟨_,rfl,_,rfl,_,rfl,cs,zs,_,x1,rfl,rfl,w0.same.sqT W.s1,gC hx1,_,rfl,_,rfl,cg,ws,_,y1,rfl,rfl,w0.same.sqT W.g1,gC hy1,x1,y1,v1,w1,rfl,hv1.tups w0.same.tups,hw1.tups w0.same.tups,vx.1,vy,vx.2,fun H2 p2 s2 r2=>?_⟩
   refine⟨.item j,p2,_,rfl,r2.at,?_,fun e he=>bI (nice.ok e he).2 (by lia),fun H3 p3 s3 r3=>?_⟩
   ·have:=nice.len;have:=nice.le;lia
   have sk:=s2.trans s3
   refine⟨_,rfl,.inl ⟨rfl,_,hJ.of (sk _ _ w0.at_)⟩,_,rfl,_,rfl,_,rfl,_,_,rfl,rfl,_,rfl,_,_,rfl,rfl,(by show 2<=aU;decide),fun t2 ht2=>?_⟩
   have st:=bA.upd (o:=.tup [.int ((i:Int)+1),.int ((j:Int)+1)]) ht2
   have su:=sk.trans st
   refine⟨R,.ref pc0,rfl,zR (i:=i+1) (j:=j+1) ((w0.same.trans su) _ _ W.hR) aH hc0,p3,pc0,_,_,rfl,(r3.same st).at,(rc0.same (w0.same.trans su)).at,?_,fun H4 p4 s4 r4=>?_⟩
   ·have:=nl.len;have:=nl.le;have:=nc (i+1) (j+1) (j+1) (by lia);lia
   obtain⟨hD1,w1'⟩:=w0.add hD su s4 r4
   refine⟨D,_,_,rfl,rfl,hD1,small (by simp),?_⟩
   refine⟨_,rfl,_,rfl,cs,zs,rfl,.inr (w1'.same.sqT W.s1),_,_,rfl,rfl,_,rfl,pL (tS hia) ?_⟩
   obtain⟨pc2',hc2',rc2'⟩:=W.cells (i+1) j (by lia) W.hj (.inl (by lia))
   refine⟨_,rfl,.inl ⟨rfl,_,hJ.of w1'.at_⟩,aY _,fun t0 ht0=>⟨_,rfl,(by show 1<=aU;decide),fun t1 ht1=>fun x dx hx hdx ne=>⟨x,dx,_,_,_,rfl,aH,rfl,?_⟩⟩⟩
   have sa2':=(bA.upd (o:=.tup []) ht0).trans (bA.upd (o:=.tup [.int (j:Nat)]) ht1)
   have sb2':=vI (a:=a) (y1:=.str "take") (y2:=.ref t0) (y3:=.ref t1) hx hdx
   have sc2':=sa2'.trans sb2'
   refine⟨x,.take [] j,rfl,⟨dx,t0,t1,aH,sb2'.sqT ((bA.upd ht1).sqT (.of' aH)),sb2'.sqT (.of' aH)⟩,VM.pN (by lia),fun H2 p2 s2 r2=>?_⟩
   have sd2':=sc2'.trans s2
   refine⟨_,rfl,_,rfl,_,_,rfl,rfl,_,rfl,(by show 2<=aU;decide),fun t2 ht2=>?_⟩
   have se2':=bA.upd (o:=.tup [.int ((i:Int)+1),.int (j:Nat)]) ht2
   have sf2':=sd2'.trans se2'
   refine⟨R,.ref pc2',rfl,zR (i:=i+1) (j:=j) ((w1'.same.trans sf2') _ _ W.hR) aH hc2',p2,pc2',_,_,rfl,(r2.same se2').at,(rc2'.same (w1'.same.trans sf2')).at,Tq (e:=.take [] j) (VM.pN (by lia)) (by lia),fun H3 p3 s3 r3=>?_⟩
   obtain⟨hD2',w2'⟩:=w1'.add hD sf2' s3 r3
   refine⟨D,_,_,rfl,rfl,hD2',small (by simp),?_⟩
   refine⟨_,rfl,_,rfl,cg,ws,rfl,.inr (w2'.same.sqT W.g1),_,_,rfl,rfl,_,rfl,pL (tG hjb) ?_⟩
   obtain⟨pc3',hc3',rc3'⟩:=W.cells i (j+1) W.hi (by lia) (.inr ⟨rfl,by lia⟩)
   refine⟨_,rfl,.inl ⟨rfl,_,hJ.of w2'.at_⟩,aY _,fun t0 ht0=>⟨_,rfl,_,rfl,_,rfl,cg,ws,_,y1,rfl,rfl,((w2'.same.trans (bA.upd ht0)).sqT W.g1),gC hy1,(by show 2<=aU;decide),fun t1 ht1=>fun x dx hx hdx ne=>⟨x,dx,_,_,_,rfl,aH,rfl,?_⟩⟩⟩
   have sa3':=(bA.upd (o:=.tup []) ht0).trans (bA.upd (o:=.tup [.int (j:Nat),y1]) ht1)
   have sb3':=vI (a:=a) (y1:=.str "put") (y2:=.ref t0) (y3:=.ref t1) hx hdx
   have sc3':=sa3'.trans sb3'
   have iy:Vatwvc.isEdit (.put [] j w1)=true:=by show(true && (decide (j<=Vatwva.GREATEST) && Vatwva.isValue w1))=true;rw[VM.pN (by lia),vy];rfl
   refine⟨x,.put [] j w1,rfl,⟨dx,t0,t1,aH,sb3'.sqT ((bA.upd ht1).sqT (.of' aH)),y1,sb3'.sqT (.of' aH),hw1.tups (w2'.same.trans sc3').tups⟩,iy,fun H2 p2 s2 r2=>?_⟩
   have sd3':=sc3'.trans s2
   refine⟨_,rfl,_,rfl,_,rfl,_,_,rfl,rfl,(by show 2<=aU;decide),fun t2 ht2=>?_⟩
   have se3':=bA.upd (o:=.tup [.int (i:Nat),.int ((j:Int)+1)]) ht2
   have sf3':=sd3'.trans se3'
   refine⟨R,.ref pc3',rfl,zR (i:=i) (j:=j+1) ((w2'.same.trans sf3') _ _ W.hR) aH hc3',p2,pc3',_,_,rfl,(r2.same se3').at,(rc3'.same (w2'.same.trans sf3')).at,Tq (e:=.put [] j w1) iy (by lia),fun H3 p3 s3 r3=>?_⟩
   obtain⟨hD3',w3'⟩:=w2'.add hD sf3' s3 r3
   refine⟨D,_,_,rfl,rfl,hD3',small (by simp),?_⟩
   rw[qa,qb]at k
   rw[qa,qb,ha2,hb2]at w3'
   exact⟨_,rfl,k _ D _ hD w3'⟩
theorem xP.updd (hR:H R=some (.dT kvs)) (h:xP a K H rs es):xP a K (upd H R (.dT kvs')) rs es:=by have tu:zP H (upd H R (.dT kvs')):=⟨fun b zs e=>by rw[bL (kK e hR (by intro z;cases z))];exact e,fun b o u e=>by rw[bL (kK e hR (by intro z;cases z))];exact e⟩;exact Paired.mapP h fun _ _ ⟨ep,e,dx,pp,d,h1,h2,h3⟩=>⟨ep,e,dx,pp,d,by rw[bL (kK h1 hR (by intro z;cases z))];exact h1,tu.sqT h2,h3.tups tu⟩
theorem vA.updd (hR:H R=some (.dT kvs)) (h:vA a K H0 H p r):vA a K H0 (upd H R (.dT kvs')) p r:=by obtain⟨dx,l,rs,h1,h2,h3,h4⟩:=h;exact⟨dx,l,rs,by rw[bL (kK h1 hR (by intro z;cases z))];exact h1,by rw[bL (kK h2 hR (by intro z;cases z))];exact h2,h3.updd hR,h4⟩
theorem Gh [DecidableEq κ] (kvs:List (κ×V)) (k:κ) (v:V):(EI kvs k v).length<=kvs.length+1:=by
 unfold EI;split
 ·rw[aJ];lia
 ·rw[aC];exact aR _
theorem xV.weak (h:xV a K H0 H kvs as bs ok) (w:∀i j,ok' i j->j<=bs.length->ok i j):xV a K (fun _=>none) H kvs as bs ok':=fun i j hi hj hk=>by obtain⟨p,e,dx,l,rs,h1,h2,h3,_⟩:=h i j hi hj (w i j hk hj);exact⟨p,e,dx,l,rs,h1,h2,h3,rfl⟩
theorem xV.put (hR:H R=some (.dT kvs)) (h:xV a K H0 H kvs as bs ok) (hp:vA a K H0 H p (gT cD (as.drop g) (bs.drop q) q))
  (hk:∀i j,ok' i j->i<=as.length->j<=bs.length->(i=g/\j=q)\/ok i j):xV a K H0 (upd H R (.dT (EI kvs [.inl (g:Int),.inl (q:Int)] (.ref p)))) (EI kvs [.inl (g:Int),.inl (q:Int)] (.ref p)) as bs ok':=fun i j hi hj h'=>by
 rw[Tt];by_cases c:i=g/\j=q
 ·obtain⟨rfl,rfl⟩:=c;rw[if_pos rfl];exact⟨p,rfl,hp.updd hR⟩
 ·obtain⟨p',e,r'⟩:=h i j hi hj ((hk i j h' hi hj).resolve_left c);rw[if_neg (fun z=>c (by have z1:=(iU z).1;have z2:=(iU (iU z).2).1;exact⟨Py (Dv z1),Py (Dv z2)⟩))];exact⟨p',e,r'.updd hR⟩
inductive PP (a:mF) (K:aB) (d:Nat) (vs:List V) (H:Hp) (Q:VK) (E:XK):Prop
 | mk (x y:V) (v w:fT):vs=[x,y]->oG K H x v->oG K H y w->Vatwva.isValue v=true->Vatwva.isValue w=true->Vatwva.deep v<=d+1->Vatwva.isList v=true->Vatwva.isList w=true->IM a K H (gT cD (Vatwva.itemsOf v) (Vatwva.itemsOf w) 0) Q->PP a K d vs H Q E
theorem Fo (T:iM K mg a) (B:sO P w K mg a) (hL:12<=L) (hd:d<=100) (Rr:gY P w K mg base L "least_row" ["first","second"] (tP a K d)):gY P w K mg base (L+2) "list_row" ["first","second"] (PP a K d):=by
 refine kL T.f_list_row ["first","second","sources","goals","rest","gone","come","ways"] fun vs H Q E h=>?_;obtain⟨x,y,v,w1,rfl,hx,hy,vv,vw,hdp,lv,lw,k⟩:=h;refine⟨rfl,fun nd f cdv A outer s hr=>?_⟩;intro X;have hr:jI (L+1) (A.deeper (tZ "list_row" (fU (top 106)) s.heap.objs.size f cdv)):=hr;have hu:=Wn hr;obtain⟨fc,fdc,hfc,kpc,hbc,Fc⟩:=(UT (P:=P) (w:=w) (base:=base) T).ex;refine⟨_,aI (cM (i:=2) nd rfl (bP rfl) (bC (eS T) (hr.mono (by lia)) ⟨rfl,rfl,rfl⟩ (aA (pv 0) aD))) (aI (cM (i:=3) nd rfl (bP rfl) (bC (eS T) (hr.mono (by lia)) ⟨rfl,rfl,rfl⟩ (aA (pv 1) aD))) (aI (cM (i:=4) nd rfl (bP rfl) Ss) (aI (pP (gK ⟨rfl,rfl,rfl⟩) rfl (ZJ (by rfl) T.n_range (aA (cY cW rfl T.n_len cE (aA (pv 2) aD)) (aA (OU EY cB) (aA (OU EY cB) aD)))) (fC (i:=5) nd rfl (bP rfl)) (aN (pP (gK ⟨rfl,rfl,rfl⟩) rfl (ZJ (by rfl) T.n_range (aA (cY cW rfl T.n_len cE (aA (pv 3) aD)) (aA (OU EY cB) (aA (OU EY cB) aD)))) (fC (i:=6) nd rfl (bP rfl)) (aI (cM (i:=7) nd rfl (bP rfl) (bC (Jw T B hL hd Rr) hr ⟨rfl,rfl,rfl⟩ (aA (pv 2) (aA (pv 3) (aA (pv 4) (aA (pv 5) (aA (pv 6) aD))))))) (aN (Vp hu (pv 4) (iT (aA (pv 5) (aA (pv 6) aD))) (Sw (k:=1) (hr.mono (by lia)) rfl (pv 7) (dN (v:=.ref fc) (by rfl) hfc rfl) (nX (NM T) T.k_Row (hr.mono (by lia)) ⟨rfl,rfl,rfl⟩ (aA (eL aD) (aA cB aD))) T.n_min) rfl)))))) (aN (bH (RE hu (pv 4) (iT (aA cB (aA cB aD))) (fun _ _=>rfl))))))),?_⟩;obtain⟨gv,cv,dv⟩:=VM.dS.mp vv;obtain⟨gw,cw,dw⟩:=VM.dS.mp vw;obtain⟨p,o,c,zs,rfl,h1,h2,h3⟩:=hx.parts;obtain⟨p',o',c',ws,rfl,g1,g2,g3⟩:=hy.parts;have h3:gA K H zs (Vatwva.itemsOf v):=h3;have g3:gA K H ws (Vatwva.itemsOf w1):=g3;have al:(Vatwva.itemsOf v).length<=12:=(gv.items lv).1;have bl:(Vatwva.itemsOf w1).length<=12:=(gw.items lw).1;have zl:zs.length=(Vatwva.itemsOf v).length:=h3.length;have wl:ws.length=(Vatwva.itemsOf w1).length:=g3.length;have av:∀x∈Vatwva.itemsOf v,Vatwva.isValue x=true/\Vatwva.deep x<=d:=fun x hx=>by obtain⟨y,hy,rfl⟩:=aX.mp hx;exact⟨VM.oW vv hy,by have:=VM.xA gv.1 hy;lia⟩
 have bv:∀y∈Vatwva.itemsOf w1,Vatwva.isValue y=true:=fun y hy=>VM.CD vw hy;generalize Vatwva.itemsOf v=as at h3 al zl av k;generalize Vatwva.itemsOf w1=bs at g3 bl wl bv k;refine⟨_,rfl,p,_,_,rfl,h1,rfl,_,rfl,p',_,_,rfl,g1,rfl,fun R hR=>?_⟩;have s0:=bA.upd (o:=.dT []) hR;obtain⟨n,hn⟩:∃n:Nat,n=zs.length:=⟨_,rfl⟩;obtain⟨m,hm⟩:∃m:Nat,m=ws.length:=⟨_,rfl⟩;have rg:∀n:Nat,n<=12->Zf (n:Int) (-1) (-1) (n+1):=fun n hn=>by
  have:=Zf.neg (i:=(n:Int)) (j:= -1) (by lia) (by lia) (by lia) (by lia)
  rwa [show((n:Int) - -1).toNat=n+1 by lia]at this
 refine⟨_,rfl,c,zs,rfl,.inr (s0.sqT h2),_,rfl,_,rfl,_,_,_,zs.length+1,rfl,rg _ (by lia),SX (n:=zs.length+1) (fun k σ H'=>bA H H'/\∃kvs s5 s6 s7,σ=[some (.ref p),some (.ref p'),some (.ref c),some (.ref c'),some (.ref R),s5,s6,s7]/\H' R=some (.dT kvs)/\kvs.length<=13 * k/\xV a K H H' kvs as bs (fun i _=>as.length < i+k)) ⟨s0,[],none,none,none,rfl,aH,aR _,fun i j hi _ hk=>absurd hi (by lia)⟩ ?_ ?_⟩
 ·rintro i σ H' hi ⟨sm,kvs,s5,s6,s7,rfl,hR',hkl,hcl⟩;rw[<-hn]at hi ⊢;obtain⟨g,hg⟩:∃g,g=as.length - i:=⟨_,rfl⟩;have eg:(n:Int)+(i:Nat) * -1=((g:Nat):Int):=by lia
  refine⟨_,rfl,c',ws,rfl,.inr (sm.sqT g2),_,rfl,_,rfl,_,_,_,ws.length+1,rfl,rg _ (by lia),SX (n:=ws.length+1) (fun j σ H'=>bA H H'/\∃kvs s6 s7,σ=[some (.ref p),some (.ref p'),some (.ref c),some (.ref c'),some (.ref R),some (.int ((n:Int)+(i:Nat) * -1)),s6,s7]/\H' R=some (.dT kvs)/\kvs.length<=13 * i+j/\xV a K H H' kvs as bs (fun i' j'=>g < i'\/(i'=g/\bs.length < j'+j))) ⟨sm,kvs,s6,s7,rfl,hR',by lia,fun i' j' hi' hj' hk=>hcl i' j' hi' hj' (by rcases hk with z | ⟨_,z⟩<;>lia)⟩ ?_ ?_⟩
  ·rintro j σ H' hj ⟨sm,kvs,s6,s7,rfl,hR',hkl,hcl⟩;rw[<-hm]at hj ⊢;obtain⟨q,hq⟩:∃q,q=bs.length - j:=⟨_,rfl⟩;have eq:(m:Int)+(j:Nat) * -1=((q:Nat):Int):=by lia
   refine⟨_,rfl,_,rfl,_,rfl,_,rfl,_,rfl,c,c',R,g,q,zs,ws,kvs,as,bs,by rw[<-eg,<-eq];rfl,⟨sm.sqT h2,h3.tups sm.tups,sm.sqT g2,g3.tups sm.tups,hR',av,bv,al,bl,by lia,by lia,hcl.weak fun i' j' hk hj'=>?_⟩,fun H2 D xs hD W2=>?_⟩
   ·rcases hk with z | ⟨z,z2⟩
    ·exact .inl z
    ·exact .inr ⟨z,by lia⟩
   have hDH:=dX.fresh sm hD;refine⟨_,rfl,aY _,fun l hl=>fun x0 dx0 hx0 hdx0 ne0=>⟨x0,dx0,_,_,rfl,aH,rfl,?_⟩⟩;have hlH:H l=none:=dX.fresh (sm.trans W2.same) hl;obtain⟨s7,r7⟩:=Bs (a:=a) (K:=K) (H:=H) (r:=⟨0,[]⟩) (c:=0) hx0 hdx0 aH (.nil) rfl hlH;have s37:=(bA.upd (o:=.lst []) hl).trans s7;have smAll:=(sm.trans W2.same).trans s37;refine⟨D,fc,xs,AZ (Mr cD q (as.drop g) (bs.drop q)),rfl,rfl,hJ.of (s37 _ _ W2.at_),TQ hbc Fc (W2.rows.same s37),fun hz=>?_,fun v1 hv1=>?_⟩
   ·have hpb:=r7;have e:gT cD (as.drop g) (bs.drop q) q=⟨0,[]⟩:=by rw[<-YB,eE (show(Mr cD q (as.drop g) (bs.drop q)).length=0 by rw[<-W2.rows.length];exact hz)];rfl
    rw[<-e]at hpb;refine⟨_,rfl,_,rfl,_,rfl,(by show 2<=aU;decide),fun t ht=>?_⟩;have sT:=bA.upd (o:=.tup [.int ((n:Int)+(i:Nat) * -1),.int ((m:Int)+(j:Nat) * -1)]) ht;have hR4:=sT _ _ (s37 _ _ (W2.same _ _ hR'));refine⟨R,_,rfl,Nf.t (k:=[.inl ((g:Nat):Int),.inl ((q:Nat):Int)]) hR4 (by rw[aH,eg,eq];rfl) (MY (by lia)),?_⟩;refine⟨dC (smAll.trans sT) hR,_,_,_,rfl,aH,bI (Gh _ _ _) (by lia),?_⟩;exact xV.put hR4 (hcl.same ((W2.same.trans s37).trans sT)) (hpb.same sT) (fun i' j' hk hi' hj'=>by
     rcases hk with z | ⟨z,z2⟩
     ·exact .inr (.inl z)
     ·by_cases e:j'=q
      ·exact .inl ⟨z,e⟩
      ·exact .inr (.inr ⟨z,by lia⟩))
   ·obtain⟨pb,rfl,hpb⟩:=NU (W2.rows.same s37) hv1;rw[YB]at hpb;have hpb:vA a K H _ pb (gT cD (as.drop g) (bs.drop q) q):=hpb.less ((bA.refl H).trans (fun b u e=>by have e2:=sm _ _ e;rw[bL (dM e2 hD)];exact e2));refine⟨_,rfl,_,rfl,_,rfl,(by show 2<=aU;decide),fun t ht=>?_⟩;have sT:=bA.upd (o:=.tup [.int ((n:Int)+(i:Nat) * -1),.int ((m:Int)+(j:Nat) * -1)]) ht;have hR4:=sT _ _ (s37 _ _ (W2.same _ _ hR'));refine⟨R,_,rfl,Nf.t (k:=[.inl ((g:Nat):Int),.inl ((q:Nat):Int)]) hR4 (by rw[aH,eg,eq];rfl) (MY (by lia)),?_⟩;refine⟨dC (smAll.trans sT) hR,_,_,_,rfl,aH,bI (Gh _ _ _) (by lia),?_⟩;exact xV.put hR4 (hcl.same ((W2.same.trans s37).trans sT)) (hpb.same sT) (fun i' j' hk hi' hj'=>by
     rcases hk with z | ⟨z,z2⟩
     ·exact .inr (.inl z)
     ·by_cases e:j'=q
      ·exact .inl ⟨z,e⟩
      ·exact .inr (.inr ⟨z,by lia⟩))
  ·rintro σ H' ⟨sm,kvs,s6,s7,rfl,hR',hkl,hcl⟩;refine⟨sm,kvs,_,s6,s7,rfl,hR',by lia,fun i' j' hi' hj' hk=>hcl i' j' hi' hj' (by lia)⟩
 ·rintro σ H' ⟨sm,kvs,s5,s6,s7,rfl,hR',hkl,hcl⟩;obtain⟨pc,hc,rc⟩:=hcl 0 0 (aY _) (aY _) (by lia);refine⟨_,rfl,(by show 2<=aU;decide),fun t ht=>?_⟩;have sT:=bA.upd (o:=.tup [.int 0,.int 0]) ht;refine⟨R,.ref pc,rfl,zR (i:=0) (j:=0) (sT _ _ hR') aH hc,k _ pc (sm.trans sT) (rc.same sT)⟩
theorem TR:vH v=("record":Str)↔Vatwva.isRecord v=true:=by unfold vH;cases Vatwva.isRecord v<;>cases Vatwva.isList v<;>cases vZ v<;>decide
theorem YU (h:¬Vatwva.isRecord v=true):vH v=("list":Str)↔Vatwva.isList v=true:=by unfold vH;revert h;cases Vatwva.isRecord v<;>cases Vatwva.isList v<;>cases vZ v<;>decide
theorem Ey (h:Vatwva.isList v=true):¬Vatwva.isRecord v=true:=by
 cases v with
 | sub n l k r=>cases l<;>simp_all [Vatwva.isList,Vatwva.isRecord]
 | _=>simp[Vatwva.isRecord]
theorem BM (T:iM K mg a) (B:sO P w K mg a):∀d:Nat,d<=100->gY P w K mg base (12+3 * d) "least_row" ["first","second"] (tP a K d)
 | 0,_=>by refine kL T.f_least_row ["first","second","setting"] fun vs H Q E h=>?_;obtain⟨x,y,v,w1,rfl,hx,hy,vv,vw,hd,_⟩:=h;refine⟨rfl,fun nd _ _ _ _ _ hr=>?_⟩;intro X;exact absurd (VM.qU hx.1) (by lia)
 | d+1,hd=>by
  have R:=BM T B d (by lia);have e3:12+3 * (d+1)=12+3 * d+2+1:=by lia
  rw[e3];refine kL T.f_least_row ["first","second","setting"] fun vs H Q E h=>?_;obtain⟨x,y,v,w1,rfl,hx,hy,vv,vw,hdp,k⟩:=h;refine⟨rfl,fun nd f cdv A outer s hr=>?_⟩;intro X;have hr:jI (12+3 * d+2) (A.deeper (tZ "least_row" (fU (top 107)) s.heap.objs.size f cdv)):=hr;have hu:=hr.units;obtain⟨fc,fdc,hfc,kpc,hbc,Fc⟩:=(UT (P:=P) (w:=w) (base:=base) T).ex;obtain⟨u2,hm2,ru2⟩:=T.c_RECORD;obtain⟨u3,hm3,ru3⟩:=T.c_LIST;refine⟨_,aI (fE (dB (Cf hu) (pv 0) (pv 1) (dL _)) (aN (bH (nX (NM T) T.k_Row (hr.mono (by lia)) ⟨rfl,rfl,rfl⟩ (aA (eL aD) (aA cB aD))))) cZ) (aI (cM (i:=2) nd rfl (bP rfl) (bC (NN T B) (hr.mono (by lia)) ⟨rfl,rfl,rfl⟩ (aA (nX (rE T) T.k_Edit (hr.mono (by lia)) ⟨rfl,rfl,rfl⟩ (aA eB (aA (iT aD) (aA (iT (aA (pv 1) aD)) aD)))) aD))) (aI (fE (dB ZF (bC (mJ T) (hr.mono (by lia)) ⟨rfl,rfl,rfl⟩ (aA (pv 0) aD)) (bC (mJ T) (hr.mono (by lia)) ⟨rfl,rfl,rfl⟩ (aA (pv 1) aD)) (dL _)) (aN (bH (pv 2))) cZ) (aI (fE (PW.pt (VD (dB qK (bC (mJ T) (hr.mono (by lia)) ⟨rfl,rfl,rfl⟩ (aA (pv 0) aD)) (dN rfl hm2 ru2) (dL _)) (LQ (dB (Cf hu) (bC (sG T) (hr.mono (by lia)) ⟨rfl,rfl,rfl⟩ (aA (pv 0) aD)) (bC (sG T) (hr.mono (by lia)) ⟨rfl,rfl,rfl⟩ (aA (pv 1) aD)) (dL _))))) (aN (bH (Mc (k:=1) (hr.mono (by lia)) rfl (eL (aA (bC (XH T (by lia) (by lia) R) (hr.mono (by lia)) ⟨rfl,rfl,rfl⟩ (aA (pv 0) (aA (pv 1) aD))) (aA (pv 2) aD))) (dN (v:=.ref fc) (by rfl) hfc rfl) T.n_min))) cZ) (aI (fE (dB qK (bC (mJ T) (hr.mono (by lia)) ⟨rfl,rfl,rfl⟩ (aA (pv 0) aD)) (dN rfl hm3 ru3) (dL _)) (aN (bH (Mc (k:=1) (hr.mono (by lia)) rfl (eL (aA (bC (Fo T B (by lia) (by lia) R) (hr.mono (by lia)) ⟨rfl,rfl,rfl⟩ (aA (pv 0) (aA (pv 1) aD))) (aA (pv 2) aD))) (dN (v:=.ref fc) (by rfl) hfc rfl) T.n_min))) cZ) (aN (bH (pv 2))))))),?_⟩;obtain⟨gv,cv,dv⟩:=VM.dS.mp vv;obtain⟨gw,cw,dw⟩:=VM.dS.mp vw;have dv:Vatwva.deep v<=6:=dv;have dw:Vatwva.deep w1<=6:=dw;rw[VM.Lj gv.1]at k;refine⟨_,rfl,_,rfl,Bj hx hy gv gw (by lia) (by lia) ⟨_,rfl,nI (fun c=>?_) (fun c=>?_)⟩⟩
  ·have c:v=w1:=of_decide_eq_true c;have e:VM.lU cD v w1=⟨0,[]⟩:=if_pos c;rw[e]at k;refine⟨aY _,fun l hl=>fun x0 dx0 hx0 hdx0 ne0=>⟨x0,dx0,_,_,rfl,aH,rfl,?_⟩⟩;obtain⟨s7,r7⟩:=Bs (a:=a) (K:=K) (H:=H) (r:=⟨0,[]⟩) (c:=0) hx0 hdx0 aH (.nil) rfl hl;exact k _ x0 ((bA.upd hl).trans s7) r7
  ·have c:¬v=w1:=fun z=>c (decide_eq_true z);refine⟨aY _,fun t0 ht0=>⟨_,rfl,(by show 1<=aU;decide),fun t1 ht1=>fun x2 dx2 hx2 hdx2 ne=>⟨x2,dx2,_,_,_,rfl,aH,rfl,?_⟩⟩⟩;have sa:=(bA.upd (o:=.tup []) ht0).trans (bA.upd (o:=.tup [y]) ht1);have sb:=vI (a:=a) (y1:=.str "set") (y2:=.ref t0) (y3:=.ref t1) hx2 hdx2;have sc:=sa.trans sb;refine⟨x2,.set [] w1,rfl,⟨dx2,t0,t1,aH,sb.sqT ((bA.upd ht1).sqT (.of' aH)),y,sb.sqT (.of' aH),hy.tups sc.tups⟩,(by unfold Vatwvc.isEdit;exact vw),fun H2 ps s2 r2=>?_⟩;have sm:=sc.trans s2;have rS:vA a K H H2 ps (nB w1):=r2.less sc;obtain⟨p,o,c1,zs,rfl,h1,h2,h3⟩:=hx.parts;obtain⟨p',o',c1',ws,rfl,g1,g2,g3⟩:=hy.parts;refine⟨_,rfl,p,_,_,rfl,sm.sqT h1,rfl,_,rfl,p',_,_,rfl,sm.sqT g1,rfl,rfl,_,rfl,nI (fun ck=>?_) (fun ck=>?_)⟩
   ·have ck:¬vH v=vH w1:=fun z=>by rw[z]at ck;simp at ck
    have e:VM.lU cD v w1=nB w1:=by unfold VM.lU;rw[if_neg c,if_neg (fun z=>ck ((TR.mpr z.1).trans (TR.mpr z.2).symm)),if_neg (fun z=>ck (((YU (Ey z.1)).mpr z.1).trans ((YU (Ey z.2)).mpr z.2).symm))]
    rw[e]at k;exact⟨_,rfl,k H2 ps sm rS⟩
   ·have ck:vH v=vH w1:=Decidable.byContradiction fun z=>ck (by simp[z]);by_cases rv:Vatwva.isRecord v=true
    ·have rw1:Vatwva.isRecord w1=true:=TR.mp (ck▸TR.mpr rv);have hk:=TR.mpr rv;obtain⟨q,b,cc,zz,e,f1,f2,f3,f4⟩:=hx.rec rv;cases e;obtain⟨q',b',cc',zz',e,f1',f2',f3',f4'⟩:=hy.rec rw1;cases e;refine⟨_,rfl,p,_,_,rfl,sm.sqT h1,rfl,rfl,_,rfl,pL (decide_eq_true (by rw[hk])) ⟨_,rfl,p,_,_,rfl,sm.sqT f1,rfl,_,rfl,p',_,_,rfl,sm.sqT f1',rfl,Xn (sm.sqT f2) (sm.sqT f2') ⟨_,rfl,nI (fun cn=>?_) (fun cn=>?_)⟩⟩⟩
     ·have cn:(Vatwva.kidsOf v).map (fun x=>x.1)=(Vatwva.kidsOf w1).map (fun x=>x.1):=of_decide_eq_true cn;have e:VM.lU cD v w1=cheaper (VM.NT cD (Vatwva.kidsOf v) (Vatwva.kidsOf w1)) (nB w1):=by unfold VM.lU;rw[if_neg c,if_pos ⟨rv,rw1⟩,if_pos cn]
      rw[e]at k;refine⟨_,rfl,_,rfl,_,_,v,w1,rfl,hx.tups sm.tups,hy.tups sm.tups,vv,vw,hdp,rv,rw1,cn,fun H3 p3 s3 r3=>⟨_,rfl,(by show 2<=aU;decide),fun l hl=>?_⟩⟩;have s4:=bA.upd (o:=.lst [.ref p3,.ref ps]) hl;have rs:RW a K H _ [.ref p3,.ref ps] [VM.NT cD (Vatwva.kidsOf v) (Vatwva.kidsOf w1),nB w1]:=.cons ⟨p3,rfl,(r3.less sm).same s4⟩ (.cons ⟨ps,rfl,(rS.same s3).same s4⟩ .nil);refine⟨l,fc,_,_,rfl,rfl,hJ.of aH,TQ hbc Fc rs,(by show 0 < 2;decide),fun v9 hv9=>?_⟩;obtain⟨pb,rfl,hpb⟩:=NU rs hv9;exact k _ pb ((sm.trans s3).trans s4) hpb
     ·have cn:¬(Vatwva.kidsOf v).map (fun x=>x.1)=(Vatwva.kidsOf w1).map (fun x=>x.1):=fun z=>cn (decide_eq_true z);have e:VM.lU cD v w1=nB w1:=by unfold VM.lU;rw[if_neg c,if_pos ⟨rv,rw1⟩,if_neg cn]
      rw[e]at k;refine⟨_,rfl,p,_,_,rfl,sm.sqT h1,rfl,rfl,_,rfl,mV (decide_eq_false (by rw[hk];decide)) ⟨_,rfl,k H2 ps sm rS⟩⟩
    ·have hk:¬vH v=("record":Str):=fun z=>rv (TR.mp z);have rw1:¬Vatwva.isRecord w1=true:=fun z=>hk (ck.trans (TR.mpr z));refine⟨_,rfl,p,_,_,rfl,sm.sqT h1,rfl,rfl,_,rfl,mV (decide_eq_false (fun z=>hk (V.str.inj z))) (xR ?_)⟩;by_cases lv:Vatwva.isList v=true
     ·have lw:Vatwva.isList w1=true:=(YU rw1).mp (ck▸(YU rv).mpr lv);have e:VM.lU cD v w1=cheaper (gT cD (Vatwva.itemsOf v) (Vatwva.itemsOf w1) 0) (nB w1):=by unfold VM.lU;rw[if_neg c,if_neg (fun z=>rv z.1),if_pos ⟨lv,lw⟩]
      rw[e]at k;refine⟨_,rfl,p,_,_,rfl,sm.sqT h1,rfl,rfl,_,rfl,pL (decide_eq_true (by rw[(YU rv).mpr lv])) ?_⟩;refine⟨_,rfl,_,rfl,_,_,v,w1,rfl,hx.tups sm.tups,hy.tups sm.tups,vv,vw,hdp,lv,lw,fun H3 p3 s3 r3=>⟨_,rfl,(by show 2<=aU;decide),fun l hl=>?_⟩⟩;have s4:=bA.upd (o:=.lst [.ref p3,.ref ps]) hl;have rs:RW a K H _ [.ref p3,.ref ps] [gT cD (Vatwva.itemsOf v) (Vatwva.itemsOf w1) 0,nB w1]:=.cons ⟨p3,rfl,(r3.less sm).same s4⟩ (.cons ⟨ps,rfl,(rS.same s3).same s4⟩ .nil);refine⟨l,fc,_,_,rfl,rfl,hJ.of aH,TQ hbc Fc rs,(by show 0 < 2;decide),fun v9 hv9=>?_⟩;obtain⟨pb,rfl,hpb⟩:=NU rs hv9;exact k _ pb ((sm.trans s3).trans s4) hpb
     ·have e:VM.lU cD v w1=nB w1:=by unfold VM.lU;rw[if_neg c,if_neg (fun z=>rv z.1),if_neg (fun z=>lv z.1)]
      rw[e]at k;exact⟨_,rfl,p,_,_,rfl,sm.sqT h1,rfl,rfl,_,rfl,mV (decide_eq_false (fun z=>lv ((YU rv).mp (V.str.inj z)))) ⟨_,rfl,k H2 ps sm rS⟩⟩
def Mv (p lu lr:aQ) (H H':Hp):Prop:=(∀b o,b≠p->b≠lu->b≠lr->H b=some o->H' b=some o)/\∀b,H' b=none->H b=none
theorem Mv.refl (p lu lr:aQ) (H:Hp):Mv p lu lr H H:=⟨fun _ _ _ _ _ e=>e,fun _ e=>e⟩
theorem Mv.trans (x:Mv p lu lr H H1) (y:Mv p lu lr H1 H2):Mv p lu lr H H2:=⟨fun b o n1 n2 n3 e=>y.1 b o n1 n2 n3 (x.1 b o n1 n2 n3 e),fun b e=>x.2 b (y.2 b e)⟩
theorem Lz (s:bA H H'):Mv p lu lr H H':=⟨fun b o _ _ _ e=>s b o e,fun b e=>dX.fresh s e⟩
theorem Mv.upd (m:Mv p lu lr H H') (h:q=p\/q=lu\/q=lr\/H q=none):Mv p lu lr H (upd H' q o):=⟨fun b u n1 n2 n3 e=>by
 have hne:b≠q:=fun z=>by
  subst z;rcases h with h | h | h | h
  ·exact n1 h
  ·exact n2 h
  ·exact n3 h
  ·rw[h]at e;cases e
 rw[bL hne];exact m.1 b u n1 n2 n3 e,fun b e=>by
 have hne:b≠q:=fun z=>by rw[z,aH]at e;cases e
 rw[bL hne]at e;exact m.2 b e⟩
noncomputable def vF (x y:V) (lu lr:aQ):List (Str×V):=[("value",x),("other",y),("undoable",.ref lu),("redoable",.ref lr)]
theorem Paired.unsnoc:∀{xs:List α} {ys:List β} {y:β},hU R xs (ys++[y])->∃xl x,xs=xl++[x]/\hU R xl ys/\R x y
 | _,[],y,h=>by
  cases h with
  | cons r t=>cases t;exact⟨[],_,rfl,.nil,r⟩
 | _,z::ys,y,h=>by
  cases h with
  | cons r t=>obtain⟨xl,x,rfl,p,q⟩:=Paired.unsnoc t;exact⟨_::xl,x,rfl,.cons r p,q⟩
inductive Kz (a:mF) (K:aB) (H:Hp) (p lu lr:aQ) (v o:fT) (us rs:List fT):Prop
 | mk (dx:_) (x:_) (y:_) (xs:_) (ys:_):H p=some (.ins a.cDesk dx (vF x y lu lr))->H lu=some (.lst xs)->H lr=some (.lst ys)->lu≠lr->oG K H x v->oG K H y o->gA K H xs us->gA K H ys rs->Kz a K H p lu lr v o us rs
structure qM (a:mF) (K:aB) (H:Hp) (p lu lr:aQ) (v o:fT) (us rs:List fT):Prop where
 ex:Kz a K H p lu lr v o us rs
theorem qM.same (s:bA H H') (h:qM a K H p lu lr v o us rs):qM a K H' p lu lr v o us rs:=by obtain⟨dx,x,y,xs,ys,h1,h2,h3,h4,h5,h6,h7,h8⟩:=h.ex;exact⟨dx,x,y,xs,ys,s _ _ h1,s _ _ h2,s _ _ h3,h4,h5.tups s.tups,h6.tups s.tups,h7.tups s.tups,h8.tups s.tups⟩
theorem Mv.tups (h1:H p=some (.ins C dx fs)) (h2:H lu=some (.lst xs)) (h3:H lr=some (.lst ys)) (m:Mv p lu lr H H'):zP H H':=⟨fun b zs e=>m.1 b _ (kK e h1 (by intro z;cases z)) (kK e h2 (by intro z;cases z)) (kK e h3 (by intro z;cases z)) e,fun b o u e=>m.1 b _ (kK e h1 (by intro z;cases z)) (kK e h2 (by intro z;cases z)) (kK e h3 (by intro z;cases z)) e⟩
inductive LS (a:mF) (K:aB) (vs:List V) (H:Hp) (Q:VK) (E:XK):Prop
 | mk (p:_) (dx:_):vs=[.ref p]->H p=some (.ins a.cDesk dx [])->(∀H' lu lr,qM a K H' p lu lr (Vatwva.vRec .nil) (Vatwva.vRec .nil) [] []->(∀b o,b≠p->H b=some o->H' b=some o)->H lu=none->H lr=none->Q .non H')->LS a K vs H Q E
theorem Vf (T:iM K mg a) (B:sO P w K mg a):Wk P w K mg base 1 a.cDesk ["self"] (LS a K):=by
 refine E8 T.mk_Desk ["self"] fun vs H Q E h=>?_;obtain⟨p,dx,rfl,hp,k⟩:=h;refine⟨rfl,fun nd _ _ _ _ _ hr=>?_⟩;intro X;refine⟨_,aI (nY (pv 0) (dN (v:=.ref a.dEMPTY_RECORD) (by rfl) T.d_EMPTY_RECORD rfl) rfl) (aI (nY (pv 0) (dN (v:=.ref a.dEMPTY_RECORD) (by rfl) T.d_EMPTY_RECORD rfl) rfl) (aI (nY (pv 0) (eL aD) rfl) (aN (nY (pv 0) (eL aD) rfl)))),?_⟩;refine⟨_,rfl,p,_,dx,_,rfl,hp,T.q_Desk,T.na_Desk_value,(by show 0 < 1000;decide),?_⟩;refine⟨_,rfl,p,_,dx,_,rfl,aH,T.q_Desk,T.na_Desk_other,(by show 1 < 1000;decide),?_⟩;refine⟨aY _,fun lu hlu=>⟨_,rfl,p,_,dx,_,rfl,(bA.upd hlu) _ _ aH,T.q_Desk,T.na_Desk_undoable,(by show 2 < 1000;decide),?_⟩⟩;refine⟨aY _,fun lr hlr=>⟨_,rfl,p,_,dx,_,rfl,(bA.upd hlr) _ _ aH,T.q_Desk,T.na_Desk_redoable,(by show 3 < 1000;decide),?_⟩⟩;have nu:lu≠p:=fun z=>by rw[z,aH]at hlu;cases hlu
 have nr:lr≠p:=fun z=>by rw[z,aH]at hlr;cases hlr
 have nur:lr≠lu:=fun z=>by rw[z,bL nu,aH]at hlr;cases hlr
 have hu0:H lu=none:=by rw[bL nu,bL nu]at hlu;exact hlu
 have hr0:H lr=none:=by rw[bL nr,bL nur,bL nr,bL nr]at hlr;exact hlr
 refine k _ lu lr ⟨dx,_,_,[],[],by rw[aH];rfl,?_,?_,nur.symm,B.empty _,B.empty _,.nil,.nil⟩ (fun b o hb e=>?_) hu0 hr0
 ·rw[bL nu,bL nur.symm,bL nu,aH]
 ·rw[bL nr,aH]
 ·rw[bL hb,bL (dM e hr0),bL hb,bL (dM e hu0),bL hb,bL hb];exact e
inductive HK (a:mF) (K:aB) (vs:List V) (H:Hp) (Q:VK) (E:XK):Prop
 | mk (p lu lr:aQ) (v o:fT) (us rs:List fT) (x:V) (v':fT):vs=[.ref p,x]->qM a K H p lu lr v o us rs->oG K H x v'->(∀H' lu' lr',qM a K H' p lu' lr' v' o [] []->Mv p lu lr H H'->H lu'=none->H lr'=none->Q .non H')->HK a K vs H Q E
theorem XE (T:iM K mg a):La P w K mg base 1 a.cDesk "begin_with" ["self","value"] (HK a K):=by
 refine Sm T.m_Desk_begin_with ["self","value"] fun vs H Q E h=>?_;obtain⟨p,lu,lr,v,o,us,rs,x,v',rfl,hd,hx,k⟩:=h;refine⟨rfl,fun nd _ _ _ _ _ hr=>?_⟩;intro X;obtain⟨dx,x0,y0,xs,ys,h1,h2,h3,h4,h5,h6,h7,h8⟩:=hd.ex;refine⟨_,aI (nY (pv 0) (pv 1) rfl) (aI (nY (pv 0) (eL aD) rfl) (aN (nY (pv 0) (eL aD) rfl))),?_⟩;refine⟨_,rfl,_,rfl,p,_,dx,_,rfl,h1,T.q_Desk,T.na_Desk_value,(by show 4 < 1000;decide),?_⟩;refine⟨aY _,fun l1 hl1=>⟨_,rfl,p,_,dx,_,rfl,(bA.upd hl1) _ _ aH,T.q_Desk,T.na_Desk_undoable,(by show 4 < 1000;decide),?_⟩⟩;refine⟨aY _,fun l2 hl2=>⟨_,rfl,p,_,dx,_,rfl,(bA.upd hl2) _ _ aH,T.q_Desk,T.na_Desk_redoable,(by show 4 < 1000;decide),?_⟩⟩;have n1:l1≠p:=fun z=>by rw[z,aH]at hl1;cases hl1
 have n2:l2≠p:=fun z=>by rw[z,aH]at hl2;cases hl2
 have n12:l2≠l1:=fun z=>by rw[z,bL n1,aH]at hl2;cases hl2
 have e1:H l1=none:=by rw[bL n1]at hl1;exact hl1
 have e2:H l2=none:=by rw[bL n2,bL n12,bL n2]at hl2;exact hl2
 have m:Mv p lu lr H (upd (upd (upd (upd (upd H p (.ins a.cDesk dx (pQ "value" x (vF x0 y0 lu lr)))) l1 (.lst [])) p (.ins a.cDesk dx (pQ "undoable" (.ref l1) (pQ "value" x (vF x0 y0 lu lr))))) l2 (.lst [])) p (.ins a.cDesk dx (pQ "redoable" (.ref l2) (pQ "undoable" (.ref l1) (pQ "value" x (vF x0 y0 lu lr)))))):=(((((Mv.refl p lu lr H).upd (.inl rfl)).upd (.inr (.inr (.inr e1)))).upd (.inl rfl)).upd (.inr (.inr (.inr e2)))).upd (.inl rfl);have tu:=Mv.tups h1 h2 h3 m;exact k _ l1 l2 ⟨dx,x,y0,[],[],by rw[aH];rfl,by rw[bL n1,bL n12.symm,bL n1,aH],by rw[bL n2,aH],n12.symm,hx.tups tu,h6.tups tu,.nil,.nil⟩ m e1 e2
inductive VP (a:mF) (K:aB) (vs:List V) (H:Hp) (Q:VK) (E:XK):Prop
 | mk (p lu lr:aQ) (v o:fT) (us rs:List fT) (x:V) (v':fT):vs=[.ref p,x]->qM a K H p lu lr v o us rs->oG K H x v'->us.length<=100000->(∀H' lr',qM a K H' p lu lr' v' o (us++[v]) []->Mv p lu lr H H'->H lr'=none->Q .non H')->VP a K vs H Q E
theorem JB (T:iM K mg a):La P w K mg base 1 a.cDesk "do_deed" ["self","made"] (VP a K):=by
 refine Sm T.m_Desk_do_deed ["self","made"] fun vs H Q E h=>?_;obtain⟨p,lu,lr,v,o,us,rs,x,v',rfl,hd,hx,hn,k⟩:=h;refine⟨rfl,fun nd _ _ _ _ _ hr=>?_⟩;intro X;obtain⟨dx,x0,y0,xs,ys,h1,h2,h3,h4,h5,h6,h7,h8⟩:=hd.ex;refine⟨_,aI (dO (nM bG bR bS gI (cK (pv 0) rfl) (aA (cK (pv 0) rfl) aD))) (aI (nY (pv 0) (eL aD) rfl) (aN (nY (pv 0) (pv 1) rfl))),?_⟩;have nlp:p≠lu:=kK h1 h2 (by intro z;cases z);refine⟨_,rfl,p,_,dx,_,_,rfl,h1,T.q_Desk,T.na_Desk_undoable,rfl,.inl ⟨rfl,_,hJ.of h2⟩,_,rfl,p,_,dx,_,_,rfl,h1,T.q_Desk,T.na_Desk_value,rfl,lu,xs,x0,rfl,rfl,h2,MY (by rw[h7.length];lia),?_⟩;refine⟨aY _,fun l2 hl2=>⟨_,rfl,p,_,dx,_,rfl,(bA.upd hl2) _ _ (by rw[bL nlp];exact h1),T.q_Desk,T.na_Desk_redoable,(by show 4 < 1000;decide),?_⟩⟩;refine⟨_,rfl,_,rfl,p,_,dx,_,rfl,aH,T.q_Desk,T.na_Desk_value,(by show 4 < 1000;decide),?_⟩;have n2u:l2≠lu:=fun z=>by rw[z,aH]at hl2;cases hl2
 have e2:H l2=none:=by rw[bL n2u]at hl2;exact hl2
 have n2:l2≠p:=fun z=>by rw[z,h1]at e2;cases e2
 have m:Mv p lu lr H (upd (upd (upd (upd H lu (.lst (xs++[x0]))) l2 (.lst [])) p (.ins a.cDesk dx (pQ "redoable" (.ref l2) (vF x0 y0 lu lr)))) p (.ins a.cDesk dx (pQ "value" x (pQ "redoable" (.ref l2) (vF x0 y0 lu lr))))):=((((Mv.refl p lu lr H).upd (.inr (.inl rfl))).upd (.inr (.inr (.inr e2)))).upd (.inl rfl)).upd (.inl rfl);have tu:=Mv.tups h1 h2 h3 m;exact k _ l2 ⟨dx,x,y0,xs++[x0],[],by rw[aH];rfl,by rw[bL nlp.symm,bL nlp.symm,bL n2u.symm,aH],by rw[bL n2,bL n2,aH],n2u.symm,hx.tups tu,h6.tups tu,Paired.snoc (h7.tups tu) (h5.tups tu),.nil⟩ m e2
inductive MH (a:mF) (K:aB) (vs:List V) (H:Hp) (Q:VK) (E:XK):Prop
 | mk (p lu lr:aQ) (v o:fT) (us rs:List fT):vs=[.ref p]->qM a K H p lu lr v o us rs->us.length<=100000->rs.length<=100000->(us=[]->E (.ref a.xNoDeed) none H)->(∀u l,us=l++[u]->∀H',qM a K H' p lu lr u o l (rs++[v])->Mv p lu lr H H'->Q .non H')->MH a K vs H Q E
theorem Cd (T:iM K mg a):La P w K mg base 1 a.cDesk "undo_deed" ["self"] (MH a K):=by
 refine Sm T.m_Desk_undo_deed ["self"] fun vs H Q E h=>?_;obtain⟨p,lu,lr,v,o,us,rs,rfl,hd,hn1,hn2,k1,k2⟩:=h;refine⟨rfl,fun nd _ _ _ _ _ hr=>?_⟩;intro X;obtain⟨dx,x0,y0,xs,ys,h1,h2,h3,h4,h5,h6,h7,h8⟩:=hd.ex;refine⟨_,aI (fE (dB qK (cY cW rfl T.n_len cE (aA (cK (pv 0) rfl) aD)) cB (dL _)) (aN (iZ ⟨rfl,rfl,rfl⟩ rfl rfl T.x_NoDeed.1 T.x_NoDeed.2)) cZ) (aI (dO (nM bG bR bS gI (cK (pv 0) rfl) (aA (cK (pv 0) rfl) aD))) (aN (nY (pv 0) (VA bG IC Dc Si (cK (pv 0) rfl)) rfl))),?_⟩;have nlu:p≠lu:=kK h1 h2 (by intro z;cases z);have nlr:p≠lr:=kK h1 h3 (by intro z;cases z);refine⟨_,rfl,p,_,dx,_,_,rfl,h1,T.q_Desk,T.na_Desk_undoable,rfl,lu,_,rfl,.inl (hJ.of h2),rfl,_,rfl,nI (fun c=>?_) (fun c=>?_)⟩
 ·have c:((xs.length:Nat):Int)=0:=V.int.inj (of_decide_eq_true c);exact k1 (eE (by have:=h7.length;lia))
 ·have c:¬((xs.length:Nat):Int)=0:=fun z=>c (decide_eq_true (by rw[z]));have hne:us≠[]:=fun z=>c (by have:=h7.length;rw[z]at this;rw[this];rfl);obtain⟨l,u,e⟩:∃l u,us=l++[u]:=⟨_,_,(wK hne).symm⟩;obtain⟨xl,xu,ex,px,pu⟩:∃xl xu,xs=xl++[xu]/\gA K H xl l/\oG K H xu u:=Paired.unsnoc (by rw[<-e];exact h7);refine⟨_,rfl,p,_,dx,_,_,rfl,h1,T.q_Desk,T.na_Desk_redoable,rfl,.inl ⟨rfl,_,hJ.of h3⟩,_,rfl,p,_,dx,_,_,rfl,h1,T.q_Desk,T.na_Desk_value,rfl,lr,_,x0,rfl,rfl,h3,MY (by rw[h8.length];lia),?_⟩;have h1':upd H lr (.lst (ys++[x0])) p=some (.ins a.cDesk dx (vF x0 y0 lu lr)):=by rw[bL nlr];exact h1
  have hF':upd H lr (.lst (ys++[x0])) lu=some (.lst xs):=by rw[bL h4];exact h2
  refine⟨_,rfl,p,_,dx,_,_,rfl,h1',T.q_Desk,T.na_Desk_undoable,rfl,.inl ⟨rfl,_,hJ.of hF'⟩,lu,_,xu,rfl,rfl,hF',by rw[ex];simp,?_⟩;refine⟨_,rfl,p,_,dx,_,rfl,by rw[bL nlu];exact h1',T.q_Desk,T.na_Desk_value,(by show 4 < 1000;decide),?_⟩;have m:Mv p lu lr H (upd (upd (upd H lr (.lst (ys++[x0]))) lu (.lst xs.dropLast)) p (.ins a.cDesk dx (pQ "value" xu (vF x0 y0 lu lr)))):=(((Mv.refl p lu lr H).upd (.inr (.inr (.inl rfl)))).upd (.inr (.inl rfl))).upd (.inl rfl);have tu:=Mv.tups h1 h2 h3 m;have eF:upd (upd (upd H lr (.lst (ys++[x0]))) lu (.lst xs.dropLast)) p (.ins a.cDesk dx (pQ "value" xu (vF x0 y0 lu lr))) lu=some (.lst xl):=by rw[bL nlu.symm,aH,ex,vW]
  have eT:upd (upd (upd H lr (.lst (ys++[x0]))) lu (.lst xs.dropLast)) p (.ins a.cDesk dx (pQ "value" xu (vF x0 y0 lu lr))) lr=some (.lst (ys++[x0])):=by rw[bL nlr.symm,bL h4.symm,aH]
  exact k2 u l e _ ⟨dx,xu,y0,_,_,by rw[aH];rfl,eF,eT,h4,pu.tups tu,h6.tups tu,px.tups tu,Paired.snoc (h8.tups tu) (h5.tups tu)⟩ m
inductive MF (a:mF) (K:aB) (vs:List V) (H:Hp) (Q:VK) (E:XK):Prop
 | mk (p lu lr:aQ) (v o:fT) (us rs:List fT):vs=[.ref p]->qM a K H p lu lr v o us rs->us.length<=100000->rs.length<=100000->(rs=[]->E (.ref a.xNoDeed) none H)->(∀u l,rs=l++[u]->∀H',qM a K H' p lu lr u o (us++[v]) l->Mv p lu lr H H'->Q .non H')->MF a K vs H Q E
theorem Ca (T:iM K mg a):La P w K mg base 1 a.cDesk "redo_deed" ["self"] (MF a K):=by
 refine Sm T.m_Desk_redo_deed ["self"] fun vs H Q E h=>?_;obtain⟨p,lu,lr,v,o,us,rs,rfl,hd,hn1,hn2,k1,k2⟩:=h;refine⟨rfl,fun nd _ _ _ _ _ hr=>?_⟩;intro X;obtain⟨dx,x0,y0,xs,ys,h1,h2,h3,h4,h5,h6,h7,h8⟩:=hd.ex;refine⟨_,aI (fE (dB qK (cY cW rfl T.n_len cE (aA (cK (pv 0) rfl) aD)) cB (dL _)) (aN (iZ ⟨rfl,rfl,rfl⟩ rfl rfl T.x_NoDeed.1 T.x_NoDeed.2)) cZ) (aI (dO (nM bG bR bS gI (cK (pv 0) rfl) (aA (cK (pv 0) rfl) aD))) (aN (nY (pv 0) (VA bG IC Dc Si (cK (pv 0) rfl)) rfl))),?_⟩;have nlu:p≠lu:=kK h1 h2 (by intro z;cases z);have nlr:p≠lr:=kK h1 h3 (by intro z;cases z);refine⟨_,rfl,p,_,dx,_,_,rfl,h1,T.q_Desk,T.na_Desk_redoable,rfl,lr,_,rfl,.inl (hJ.of h3),rfl,_,rfl,nI (fun c=>?_) (fun c=>?_)⟩
 ·have c:((ys.length:Nat):Int)=0:=V.int.inj (of_decide_eq_true c);exact k1 (eE (by have:=h8.length;lia))
 ·have c:¬((ys.length:Nat):Int)=0:=fun z=>c (decide_eq_true (by rw[z]));have hne:rs≠[]:=fun z=>c (by have:=h8.length;rw[z]at this;rw[this];rfl);obtain⟨l,u,e⟩:∃l u,rs=l++[u]:=⟨_,_,(wK hne).symm⟩;obtain⟨xl,xu,ex,px,pu⟩:∃xl xu,ys=xl++[xu]/\gA K H xl l/\oG K H xu u:=Paired.unsnoc (by rw[<-e];exact h8);refine⟨_,rfl,p,_,dx,_,_,rfl,h1,T.q_Desk,T.na_Desk_undoable,rfl,.inl ⟨rfl,_,hJ.of h2⟩,_,rfl,p,_,dx,_,_,rfl,h1,T.q_Desk,T.na_Desk_value,rfl,lu,_,x0,rfl,rfl,h2,MY (by rw[h7.length];lia),?_⟩;have h1':upd H lu (.lst (xs++[x0])) p=some (.ins a.cDesk dx (vF x0 y0 lu lr)):=by rw[bL nlu];exact h1
  have hF':upd H lu (.lst (xs++[x0])) lr=some (.lst ys):=by rw[bL h4.symm];exact h3
  refine⟨_,rfl,p,_,dx,_,_,rfl,h1',T.q_Desk,T.na_Desk_redoable,rfl,.inl ⟨rfl,_,hJ.of hF'⟩,lr,_,xu,rfl,rfl,hF',by rw[ex];simp,?_⟩;refine⟨_,rfl,p,_,dx,_,rfl,by rw[bL nlr];exact h1',T.q_Desk,T.na_Desk_value,(by show 4 < 1000;decide),?_⟩;have m:Mv p lu lr H (upd (upd (upd H lu (.lst (xs++[x0]))) lr (.lst ys.dropLast)) p (.ins a.cDesk dx (pQ "value" xu (vF x0 y0 lu lr)))):=(((Mv.refl p lu lr H).upd (.inr (.inl rfl))).upd (.inr (.inr (.inl rfl)))).upd (.inl rfl);have tu:=Mv.tups h1 h2 h3 m;have eF:upd (upd (upd H lu (.lst (xs++[x0]))) lr (.lst ys.dropLast)) p (.ins a.cDesk dx (pQ "value" xu (vF x0 y0 lu lr))) lr=some (.lst xl):=by rw[bL nlr.symm,aH,ex,vW]
  have eT:upd (upd (upd H lu (.lst (xs++[x0]))) lr (.lst ys.dropLast)) p (.ins a.cDesk dx (pQ "value" xu (vF x0 y0 lu lr))) lu=some (.lst (xs++[x0])):=by rw[bL nlu.symm,bL h4,aH]
  exact k2 u l e _ ⟨dx,xu,y0,_,_,by rw[aH];rfl,eT,eF,h4,pu.tups tu,h6.tups tu,Paired.snoc (h7.tups tu) (h5.tups tu),px.tups tu⟩ m
inductive EN (a:mF) (K:aB) (vs:List V) (H:Hp) (Q:VK) (E:XK):Prop
 | mk (p lu lr:aQ) (v o:fT) (us rs:List fT):vs=[.ref p]->qM a K H p lu lr v o us rs->Ii H (HA [us.length,rs.length]) Q->EN a K vs H Q E
theorem xD (T:iM K mg a):La P w K mg base 1 a.cDesk "deed_counts" ["self"] (EN a K):=by refine Sm T.m_Desk_deed_counts ["self"] fun vs H Q E h=>?_;obtain⟨p,lu,lr,v,o,us,rs,rfl,hd,k⟩:=h;refine⟨rfl,fun nd _ _ _ _ _ hr=>?_⟩;intro X;obtain⟨dx,x0,y0,xs,ys,h1,h2,h3,h4,h5,h6,h7,h8⟩:=hd.ex;refine⟨_,aN (bH (eL (aA (cY cW rfl T.n_len cE (aA (cK (pv 0) rfl) aD)) (aA (cY cW rfl T.n_len cE (aA (cK (pv 0) rfl) aD)) aD)))),?_⟩;refine⟨_,rfl,p,_,dx,_,_,rfl,h1,T.q_Desk,T.na_Desk_undoable,rfl,lu,_,rfl,.inl (hJ.of h2),_,rfl,p,_,dx,_,_,rfl,h1,T.q_Desk,T.na_Desk_redoable,rfl,lr,_,rfl,.inl (hJ.of h3),(by show 2<=aU;decide),fun D hD=>?_⟩;refine k D _ (bA.upd hD) hD ?_;rw[aH,h7.length,h8.length];rfl
inductive Wl (a:mF) (K:aB) (H:Hp) (p lu lr:aQ) (n:Nat) (st:QU):Prop
 | mk (us:_) (rs:_):qM a K H p lu lr st.value st.other us rs->VM.sZ st.value st.past.reverse us.reverse->VM.sZ st.value st.future.reverse rs.reverse->us.length<=n->rs.length<=n->Wl a K H p lu lr n st
structure zO (a:mF) (K:aB) (H:Hp) (p lu lr:aQ) (n:Nat) (st:QU):Prop where
 ex:Wl a K H p lu lr n st
 vv:Vatwva.isValue st.value=true
 vo:Vatwva.isValue st.other=true
theorem zO.same {H H':Hp} {p lu lr:aQ} {n:Nat} {st:QU} (s:bA H H') (h:zO a K H p lu lr n st):zO a K H' p lu lr n st:=by obtain⟨us,rs,h1,h2,h3,h4,h5⟩:=h.ex;exact⟨⟨us,rs,h1.same s,h2,h3,h4,h5⟩,h.vv,h.vo⟩
theorem zO.up {H:Hp} {p lu lr:aQ} {n m:Nat} {st:QU} (hm:n<=m) (h:zO a K H p lu lr n st):zO a K H p lu lr m st:=by obtain⟨us,rs,h1,h2,h3,h4,h5⟩:=h.ex;exact⟨⟨us,rs,h1,h2,h3,by lia,by lia⟩,h.vv,h.vo⟩
noncomputable def Wm (a:mF) (n:Nat):aQ:=if n=1 then a.xUnreadable else if n=5 then a.xInapplicable else a.xNoDeed
def AT (a:mF) (K:aB) (H:Hp) (p lu lr:aQ) (n:Nat) (o:xL) (Q:VK) (E:XK):Prop:=match o with
 | .ok x=>∀H' D lu' lr',zO a K H' p lu' lr' (n+1) x.1->Mv p lu lr H H'->(lu'=lu\/H lu'=none)->(lr'=lr\/H lr'=none)->H D=none->D≠lu'->D≠lr'->H' D=some (.lst ((HA x.2).map V.int))->Q (.ref D) H'
 | .error m=>∀H',bA H H'->E (.ref (Wm a m)) none H'
theorem AT.ok (h:AT a K H p lu lr n o Q E) (e:o=.ok x):AT a K H p lu lr n (.ok x) Q E:=by rw[e]at h;exact h
theorem AT.no (h:AT a K H p lu lr n o Q E) (e:o=.error m):∀H',bA H H'->E (.ref (Wm a m)) none H':=by rw[e]at h;exact h
theorem AT.look {H H':Hp} {p lu lr D:aQ} {n:Nat} {st:QU} {l:List Nat} {Q:VK} {E:XK} (h:AT a K H p lu lr n (.ok (st,l)) Q E) (hs:zO a K H p lu lr n st) (s:bA H H') (hD:H D=none) (h':H' D=some (.lst ((HA l).map V.int))):Q (.ref D) H':=by obtain⟨us,rs,hd,_⟩:=hs.ex;obtain⟨dx,x,y,xs,ys,h1,h2,h3,h4,_⟩:=hd.ex;exact h H' D lu lr ((hs.same s).up (wB _)) (Lz s) (.inl rfl) (.inl rfl) hD (fun z=>by rw[z,h2]at hD;cases hD) (fun z=>by rw[z,h3]at hD;cases hD) h'
inductive qO (a:mF) (K:aB) (m:Nat) (c:List bW->yS) (vs:List V) (H:Hp) (Q:VK) (E:XK):Prop
 | mk (p tl lu lr:aQ) (n:Nat) (st:QU) (qs:List V) (ts:List bW):vs=[.ref p,.ref tl]->zO a K H p lu lr n st->n<=10000->H tl=some (.lst qs)->Aw H qs ts->ts.length=m->(∀t∈ts,t.length<=6000)->AT a K H p lu lr n (fB st (c ts)) Q E->qO a K m c vs H Q E
theorem fO (h:Vatwva.isValue v=true):VM.eI 12 v/\Vatwva.count v<=60/\Vatwva.deep v<=6:=VM.dS.mp h
theorem qZ (h:Aw H qs ts) (hl:ts.length=1):∃q t,qs=[.ref q]/\ts=[t]/\H q=some (.lst (cV t)):=by
 cases h with
 | nil=>cases hl
 | cons r t=>
  obtain⟨q,rfl,hq⟩:=r;cases t with
  | nil=>exact⟨q,_,rfl,rfl,hq⟩
  | cons _ _=>simp at hl
theorem Pq (h:Aw H qs ts) (hl:ts.length=2):∃q q' t t',qs=[.ref q,.ref q']/\ts=[t,t']/\H q=some (.lst (cV t))/\H q'=some (.lst (cV t')):=by
 cases h with
 | nil=>cases hl
 | cons r t=>obtain⟨q,rfl,hq⟩:=r;obtain⟨q',t',rfl,rfl,hq'⟩:=qZ t (by simpa using hl);exact⟨q,q',_,t',rfl,rfl,hq,hq'⟩
noncomputable def c1 (f:bW->yS):List bW->yS:=fun ts=>f (ts.headD [])
theorem QN (T:iM K mg a):gY P w K mg base 21 "answer_value" ["desk","texts"] (qO a K 1 (c1 .value)):=by
 refine kL T.f_answer_value ["desk","texts"] fun vs H Q E h=>?_;obtain⟨p,tl,lu,lr,n,st,qs,ts,rfl,hs,hn,htl,hts,hl,hb,k⟩:=h;refine⟨rfl,fun nd _ _ _ _ _ hr=>?_⟩;intro X;obtain⟨q,t,rfl,rfl,hq⟩:=qZ hts hl;refine⟨_,aI (dO (sI (XE T) T.q_Desk hr.m ⟨rfl,rfl,rfl⟩ (pv 0) (aA (bC (HD T) hr ⟨rfl,rfl,rfl⟩ (aA (fN rD (pv 1) cB (fun _ _=>rfl)) aD)) aD))) (aN (bH (bC (EF T) hr.m ⟨rfl,rfl,rfl⟩ (aA (cK (pv 0) rfl) aD)))),?_⟩;obtain⟨us,rs,hd,hc1,hc2,hu,hv⟩:=hs.ex;obtain⟨dx,x,y,xs,ys,h1,_⟩:=hd.ex;refine⟨_,rfl,p,dx,_,rfl,h1,rfl,_,rfl,tl,_,_,_,rfl,rfl,hJ.of htl,gC (j:=0) rfl,q,t,rfl,hq,hb t aM,?_⟩;have hk:fB st (c1 .value [t])=fD (Vatwva.valueOf t) 1 fun v=>.ok ({st with value:=v,past:=[],future:=[]},[Vatwva.count v,Vatwva.deep v]):=rfl;cases qv:Vatwva.valueOf t with
 | none=>rw[qv]at hk;exact k.no hk
 | some v=>rw[qv]at hk;have k:=k.ok hk;intro H1 x1 s1 hx1;have vv:Vatwva.isValue v=true:=(VM.sJ.mp qv).1;obtain⟨_,c6,d6⟩:=fO vv;refine⟨p,lu,lr,_,_,us,rs,x1,v,rfl,hd.same s1,hx1,fun H2 lu' lr' hd2 m2 e1 e2=>?_⟩;obtain⟨dx2,x2,y2,xs2,ys2,g1,g2,g3,g4,g5,g6,_⟩:=id hd2.ex;refine⟨_,rfl,p,_,dx2,_,_,rfl,g1,T.q_Desk,T.na_Desk_value,rfl,x2,v,rfl,g5,d6,by lia,fun D H3 s3 hD hD3=>?_⟩;refine k H3 D lu' lr' ⟨⟨[],[],hd2.same s3,.nil _,.nil _,aY _,aY _⟩,vv,hs.vo⟩ ((Lz s1).trans (m2.trans (Lz s3))) (.inr (dX.fresh s1 e1)) (.inr (dX.fresh s1 e2)) ?_ (fun z=>by rw[z,g2]at hD;cases hD) (fun z=>by rw[z,g3]at hD;cases hD) hD3;exact dX.fresh s1 (m2.2 _ hD)
theorem HI (h:Vatwvc.isEdit e=true):GQ e:=by
 unfold Vatwvc.isEdit at h;rw[aE]at h;cases e with
 | set p v=>exact(fO h.2).2
 | put p i v=>exact(fO ((aE _ _).mp h.2).2).2
 | add p i n v=>exact(fO ((aE _ _).mp ((aE _ _).mp h.2).2).2).2
 | take p i=>trivial
 | move p i j=>trivial
 | drop p n=>trivial
 | rename p n m=>trivial
theorem BE (h:Vatwvc.editOf t=some e):Vatwvc.isEdit e=true/\VM.uB 24 e/\GQ e:=
 have h1:=(VM.BD.mp h).1
 ⟨h1,VM.Bl h1,HI h1⟩
theorem jB (es:List gH) (v:fT):Vatwvc.rowOn es v=(kP es v).map fun w=>(w,Vatwvc.turnedAll es v):=by
 cases q:kP es v with
 | some w1=>
  obtain⟨u,hu,h2⟩:=bF.mp q;have hv:Vatwva.isValue u=true:=by
   split at h2
   ·assumption
   ·cases h2
  rw[if_pos hv]at h2;cases h2;exact VM.nZ.mpr ⟨hu,hv,rfl⟩
 | none=>
  cases q2:Vatwvc.rowOn es v with
  | none=>rfl
  | some x=>obtain⟨h1,h2,_⟩:=VM.nZ.mp q2;unfold kP at q;rw[h1]at q;have q:(if Vatwva.isValue x.1=true then some x.1 else none)=none:=q;rw[if_pos h2]at q;cases q
theorem zO.deed {H H':Hp} {p lu lr lr':aQ} {n:Nat} {st:QU} {es:List gH} {u:fT} {us:List fT} (hv:Vatwva.isValue st.value=true) (ho:Vatwva.isValue st.other=true) (hc:VM.sZ st.value st.past.reverse us.reverse) (hu:us.length<=n)
  (hf:∀e∈es,VM.uB 24 e) (h:kP es st.value=some u) (hd:qM a K H' p lu lr' u st.other (us++[st.value]) []):zO a K H' p lu lr' (n+1) {st with value:=u,past:=st.past++[Vatwvc.turnedAll es st.value],future:=[]}:=by
 have hr:Vatwvc.rowOn es st.value=some (u,Vatwvc.turnedAll es st.value):=by rw[jB,h];rfl
 obtain⟨_,h2,_⟩:=VM.nZ.mp hr;refine⟨⟨us++[st.value],[],hd,?_,.nil _,by rw[aC,cS];lia,aY _⟩,h2,ho⟩;show VM.sZ u (st.past++[_]).reverse (us++[st.value]).reverse;rw[jG,jG];exact VM.sZ.deed hv hf hr hc
theorem QM (T:iM K mg a):gY P w K mg base 21 "answer_other" ["desk","texts"] (qO a K 1 (c1 .other)):=by
 refine kL T.f_answer_other ["desk","texts"] fun vs H Q E h=>?_;obtain⟨p,tl,lu,lr,n,st,qs,ts,rfl,hs,hn,htl,hts,hl,hb,k⟩:=h;refine⟨rfl,fun nd _ _ _ _ _ hr=>?_⟩;intro X;obtain⟨q,t,rfl,rfl,hq⟩:=qZ hts hl;refine⟨_,aI (nY (pv 0) (bC (HD T) hr ⟨rfl,rfl,rfl⟩ (aA (fN rD (pv 1) cB (fun _ _=>rfl)) aD)) rfl) (aN (bH (bC (EF T) hr.m ⟨rfl,rfl,rfl⟩ (aA (cK (pv 0) rfl) aD)))),?_⟩;obtain⟨us,rs,hd,hc1,hc2,hu,hv⟩:=hs.ex;obtain⟨dx,x,y,xs,ys,h1,h2,h3,h4,h5,h6,h7,h8⟩:=hd.ex;refine⟨_,rfl,tl,_,_,_,rfl,rfl,hJ.of htl,gC (j:=0) rfl,q,t,rfl,hq,hb t aM,?_⟩;have hk:fB st (c1 .other [t])=fD (Vatwva.valueOf t) 1 fun v=>.ok ({st with other:=v},[Vatwva.count v,Vatwva.deep v]):=rfl;cases qv:Vatwva.valueOf t with
 | none=>rw[qv]at hk;exact k.no hk
 | some v=>
  rw[qv]at hk;have k:=k.ok hk;intro H1 x1 s1 hx1;have vv:Vatwva.isValue v=true:=(VM.sJ.mp qv).1;obtain⟨_,c6,d6⟩:=fO vv;refine⟨_,rfl,p,_,dx,_,rfl,s1 _ _ h1,T.q_Desk,T.na_Desk_other,(by show 4 < 1000;decide),?_⟩;have m:Mv p lu lr H (upd H1 p (.ins a.cDesk dx (pQ "other" x1 (vF x y lu lr)))):=(Lz s1).upd (.inl rfl);have tu:=Mv.tups h1 h2 h3 m;have tu1:zP H1 (upd H1 p (.ins a.cDesk dx (pQ "other" x1 (vF x y lu lr)))):=Mv.tups (s1 _ _ h1) (s1 _ _ h2) (s1 _ _ h3) ((Mv.refl p lu lr H1).upd (.inl rfl));have nlu:lu≠p:=(kK h1 h2 (by intro z;cases z)).symm;have nlr:lr≠p:=(kK h1 h3 (by intro z;cases z)).symm;have hd2:qM a K (upd H1 p (.ins a.cDesk dx (pQ "other" x1 (vF x y lu lr)))) p lu lr st.value v us rs:=⟨dx,x,x1,xs,ys,by rw[aH];rfl,by rw[bL nlu];exact s1 _ _ h2,by rw[bL nlr];exact s1 _ _ h3,h4,h5.tups tu,hx1.tups tu1,h7.tups tu,h8.tups tu⟩;refine⟨_,rfl,p,_,dx,_,_,rfl,aH,T.q_Desk,T.na_Desk_other,rfl,x1,v,rfl,hx1.tups tu1,d6,by lia,fun D H3 s3 hD hD3=>?_⟩;refine k H3 D lu lr ⟨⟨us,rs,hd2.same s3,hc1,hc2,by lia,by lia⟩,hs.vv,vv⟩ (m.trans (Lz s3)) (.inl rfl) (.inl rfl) (m.2 _ hD) (fun z=>?_) (fun z=>?_) hD3
  ·rw[z,bL nlu,s1 _ _ h2]at hD;cases hD
  ·rw[z,bL nlr,s1 _ _ h3]at hD;cases hD
theorem UK (T:iM K mg a):gY P w K mg base 16 "answer_show" ["desk","texts"] (qO a K 0 fun _=>.showValue):=by refine kL T.f_answer_show ["desk","texts"] fun vs H Q E h=>?_;obtain⟨p,tl,lu,lr,n,st,qs,ts,rfl,hs,hn,htl,hts,hl,hb,k⟩:=h;refine⟨rfl,fun nd _ _ _ _ _ hr=>?_⟩;intro X;refine⟨_,aN (bH (bC (BL T) hr.m ⟨rfl,rfl,rfl⟩ (aA (bC (uY T 6) hr ⟨rfl,rfl,rfl⟩ (aA (cK (pv 0) rfl) aD)) aD))),?_⟩;obtain⟨us,rs,hd,_⟩:=hs.ex;obtain⟨dx,x,y,xs,ys,h1,h2,h3,h4,h5,h6,h7,h8⟩:=hd.ex;obtain⟨gv,c6,d6⟩:=fO hs.vv;have hlen:=wO gv;refine⟨_,rfl,p,_,dx,_,_,rfl,h1,T.q_Desk,T.na_Desk_value,rfl,x,st.value,rfl,h5,gv.mono (by decide),d6,by lia,fun A1 H1 s1 hA1 g1=>?_⟩;refine⟨A1,_,rfl,g1,by lia,fun D H2 s2 hD hD2=>?_⟩;exact(k.ok rfl).look hs (s1.trans s2) (dX.fresh s1 hD) hD2
theorem UG (T:iM K mg a) (B:sO P w K mg a):gY P w K mg base 22 "answer_edit" ["desk","texts"] (qO a K 1 (c1 .edit)):=by
 refine kL T.f_answer_edit ["desk","texts"] fun vs H Q E h=>?_;obtain⟨p,tl,lu,lr,n,st,qs,ts,rfl,hs,hn,htl,hts,hl,hb,k⟩:=h;refine⟨rfl,fun nd _ _ _ _ _ hr=>?_⟩;intro X;obtain⟨q,t,rfl,rfl,hq⟩:=qZ hts hl;refine⟨_,aI (dO (sI (JB T) T.q_Desk hr.m ⟨rfl,rfl,rfl⟩ (pv 0) (aA (bC (zA T B) hr.m ⟨rfl,rfl,rfl⟩ (aA (bC (nV T B) hr ⟨rfl,rfl,rfl⟩ (aA (fN rD (pv 1) cB (fun _ _=>rfl)) aD)) (aA (cK (pv 0) rfl) aD))) aD))) (aN (bH (bC (EF T) hr.m ⟨rfl,rfl,rfl⟩ (aA (cK (pv 0) rfl) aD)))),?_⟩;obtain⟨us,rs,hd,hc1,hc2,hu,hv⟩:=hs.ex;obtain⟨dx,x,y,xs,ys,h1,h2,h3,h4,h5,h6,h7,h8⟩:=hd.ex;refine⟨_,rfl,p,dx,_,rfl,h1,rfl,_,rfl,tl,_,_,_,rfl,rfl,hJ.of htl,gC (j:=0) rfl,q,t,rfl,hq,hb t aM,?_⟩;have hk:fB st (c1 .edit [t])=fD (Vatwvc.editOf t) 1 fun e=>fD (Vatwvc.rowOn [e] st.value) 5 fun x=>.ok ({st with value:=x.1,past:=st.past++[x.2],future:=[]},[Vatwva.count x.1,Vatwva.deep x.1]):=rfl;cases qe:Vatwvc.editOf t with
 | none=>rw[qe]at hk;exact k.no hk
 | some e=>
  obtain⟨ie,fe,se⟩:=BE qe;rw[qe]at hk;intro H1 ep s1 hep;refine⟨_,rfl,p,_,dx,_,_,rfl,s1 _ _ h1,T.q_Desk,T.na_Desk_value,rfl,ep,x,e,st.value,rfl,hep,h5.tups s1.tups,VM.gU hs.vv,fe,se,?_⟩;cases qm:IW e st.value with
  | none=>
   intro H2 s2;have hk:fB st (c1 .edit [t])=.error 5:=by rw[hk];show fD (Vatwvc.rowOn [e] st.value) 5 _=_;rw[jB,lV,qm];rfl
   exact k.no hk H2 (s1.trans s2)
  | some u=>intro H2 x2 s2 hx2;have k:=k.ok (hk.trans (show fD (Vatwvc.rowOn [e] st.value) 5 _=_ by rw[jB,lV,qm];rfl));have s12:=s1.trans s2;refine⟨p,lu,lr,_,_,us,rs,x2,u,rfl,hd.same s12,hx2,by lia,fun H3 lr' hd3 m3 e3=>?_⟩;have hst:=zO.deed (H:=H) (lr:=lr) (n:=n) (es:=[e]) hs.vv hs.vo hc1 hu (fun e' he'=>by obtain rfl:=bU.mp he';exact fe) (by rw[lV];exact qm) hd3;obtain⟨_,c6,d6⟩:=fO hst.vv;have c6:Vatwva.count u<=60:=c6;obtain⟨dx3,x3,y3,xs3,ys3,g1,g2,g3,g4,g5,_⟩:=id hd3.ex;refine⟨_,rfl,p,_,dx3,_,_,rfl,g1,T.q_Desk,T.na_Desk_value,rfl,x3,u,rfl,g5,d6,by lia,fun D H4 s4 hD hD4=>?_⟩;exact k H4 D lu lr' (hst.same s4) ((Lz s12).trans (m3.trans (Lz s4))) (.inl rfl) (.inr (dX.fresh s12 e3)) (dX.fresh s12 (m3.2 _ hD)) (fun z=>by rw[z,g2]at hD;cases hD) (fun z=>by rw[z,g3]at hD;cases hD) hD4
theorem UE (T:iM K mg a) (B:sO P w K mg a):gY P w K mg base 22 "answer_cost" ["desk","texts"] (qO a K 1 (c1 .cost)):=by
 refine kL T.f_answer_cost ["desk","texts"] fun vs H Q E h=>?_;obtain⟨p,tl,lu,lr,n,st,qs,ts,rfl,hs,hn,htl,hts,hl,hb,k⟩:=h;refine⟨rfl,fun nd _ _ _ _ _ hr=>?_⟩;intro X;obtain⟨q,t,rfl,rfl,hq⟩:=qZ hts hl;refine⟨_,aN (bH (eL (aA (bC (LH T B) hr.m ⟨rfl,rfl,rfl⟩ (aA (bC (nV T B) hr ⟨rfl,rfl,rfl⟩ (aA (fN rD (pv 1) cB (fun _ _=>rfl)) aD)) aD)) aD))),?_⟩;refine⟨_,rfl,tl,_,_,_,rfl,rfl,hJ.of htl,gC (j:=0) rfl,q,t,rfl,hq,hb t aM,?_⟩;have hk:fB st (c1 .cost [t])=fD (Vatwvc.editOf t) 1 fun e=>.ok (st,[FH e]):=rfl;cases qe:Vatwvc.editOf t with
 | none=>rw[qe]at hk;exact k.no hk
 | some e=>obtain⟨ie,fe,se⟩:=BE qe;rw[qe]at hk;intro H1 ep s1 hep;refine⟨ep,e,rfl,hep,ie,fun H2 s2=>⟨(by show 1<=aU;decide),fun D hD=>?_⟩⟩;exact(k.ok hk).look hs ((s1.trans s2).trans (bA.upd hD)) (dX.fresh (s1.trans s2) hD) aH
theorem MN (t:bW):(Gz t).length=t.length+1:=by unfold Gz HA eR;simp
theorem XD (T:iM K mg a) (B:sO P w K mg a):gY P w K mg base 22 "answer_try" ["desk","texts"] (qO a K 1 (c1 .try_)):=by
 refine kL T.f_answer_try ["desk","texts","edit","made"] fun vs H Q E h=>?_;obtain⟨p,tl,lu,lr,n,st,qs,ts,rfl,hs,hn,htl,hts,hl,hb,k⟩:=h;refine⟨rfl,fun nd _ _ _ _ _ hr=>?_⟩;intro X;obtain⟨q,t,rfl,rfl,hq⟩:=qZ hts hl;refine⟨_,aI (cM (i:=2) nd rfl (bP rfl) (bC (nV T B) hr ⟨rfl,rfl,rfl⟩ (aA (fN rD (pv 1) cB (fun _ _=>rfl)) aD))) (aI (Jz ⟨rfl,rfl,rfl⟩ (Cn (i:=3) nd rfl (bP rfl) (Mg (zA T B) hr.m ⟨rfl,rfl,rfl⟩ (aA (pv 2) (aA (cK (pv 0) rfl) aD)))) (FY ⟨rfl,rfl,rfl⟩ rfl T.x_Inapplicable.1 T.x_Inapplicable.2 (fun e=>aN (bH (eL (aA cB aD)))) Cj)) (aN (bH (kE uM (eL (aA cB aD)) (bC (BL T) hr.m ⟨rfl,rfl,rfl⟩ (aA (bC (uY T 6) hr.m ⟨rfl,rfl,rfl⟩ (aA (pv 3) aD)) aD)))))),?_⟩;obtain⟨us,rs,hd,hc1,hc2,hu,hv⟩:=hs.ex;obtain⟨dx,x,y,xs,ys,h1,h2,h3,h4,h5,h6,h7,h8⟩:=hd.ex;refine⟨_,rfl,tl,_,_,_,rfl,rfl,hJ.of htl,gC (j:=0) rfl,q,t,rfl,hq,hb t aM,?_⟩;have hk:fB st (c1 .try_ [t])=fD (Vatwvc.editOf t) 1 fun e=>match Vatwvc.rowOn [e] st.value with
  | some x=>.ok (st,1::eR (Vatwva.valueText x.1))
  | none=>.ok (st,[0]):=rfl
 cases qe:Vatwvc.editOf t with
 | none=>rw[qe]at hk;exact k.no hk
 | some e=>
  obtain⟨ie,fe,se⟩:=BE qe;rw[qe]at hk;intro H1 ep s1 hep;refine⟨_,rfl,_,rfl,p,_,dx,_,_,rfl,s1 _ _ h1,T.q_Desk,T.na_Desk_value,rfl,ep,x,e,st.value,rfl,hep,h5.tups s1.tups,VM.gU hs.vv,fe,se,?_⟩;cases qm:IW e st.value with
  | none=>
   intro H2 s2;have k:=k.ok (x:=(st,[0])) (hk.trans (show(match Vatwvc.rowOn [e] st.value with
    | some x=>.ok (st,1::eR (Vatwva.valueText x.1))
    | none=>.ok (st,[0]):xL)=_ by rw[jB,lV,qm];rfl))
   refine⟨_,rfl,T.x_Inapplicable.2,fun _=>⟨(by show 1<=aU;decide),fun D hD=>?_⟩,fun z=>absurd rfl z⟩;exact k.look hs ((s1.trans s2).trans (bA.upd hD)) (dX.fresh (s1.trans s2) hD) aH
  | some u=>
   intro H2 x2 s2 hx2;have k:=k.ok (x:=(st,1::eR (Vatwva.valueText u))) (hk.trans (show(match Vatwvc.rowOn [e] st.value with
    | some x=>.ok (st,1::eR (Vatwva.valueText x.1))
    | none=>.ok (st,[0]):xL)=_ by rw[jB,lV,qm];rfl))
   have hvu:Vatwva.isValue u=true:=by have:=jB [e] st.value;rw[lV,qm]at this;exact(VM.nZ.mp this).2.1
   obtain⟨gu,cu,du⟩:=fO hvu;have hlen:=wO gu;refine⟨(by show 1<=aU;decide),fun A1 hA1=>?_⟩;have sA:=bA.upd (o:=.lst [.int 1]) hA1;refine⟨_,rfl,x2,u,rfl,hx2.tups sA.tups,gu.mono (by decide),du,by lia,fun A2 H3 s3 hA2 g2=>?_⟩;refine⟨A2,_,rfl,g2,by lia,fun A3 H4 s4 hA3 g3=>?_⟩;have s34:=s3.trans s4;refine⟨A1,A3,_,_,rfl,rfl,s34 _ _ aH,g3,big (by rw[aJ,MN];show 1+_<=_;lia),fun D hD=>?_⟩;have sAll:=(((s1.trans s2).trans sA).trans s34);exact k.look hs (sAll.trans (bA.upd hD)) (dX.fresh sAll hD) (by rw[aH];rfl)
theorem UM (T:iM K mg a):gY P w K mg base 2 "answer_undo" ["desk","texts"] (qO a K 0 fun _=>.undo):=by
 refine kL T.f_answer_undo ["desk","texts"] fun vs H Q E h=>?_;obtain⟨p,tl,lu,lr,n,st,qs,ts,rfl,hs,hn,htl,hts,hl,hb,k⟩:=h;refine⟨rfl,fun nd _ _ _ _ _ hr=>?_⟩;intro X;refine⟨_,aI (dO (mK (Cd T) T.q_Desk hr ⟨rfl,rfl,rfl⟩ (pv 0))) (aN (bH (mK (xD T) T.q_Desk hr ⟨rfl,rfl,rfl⟩ (pv 0)))),?_⟩;obtain⟨us,rs,hd,hc1,hc2,hu,hv⟩:=hs.ex;obtain⟨dx,x,y,xs,ys,h1,h2,h3,_⟩:=id hd.ex;have hlu:=hc1.length;have hlr:=hc2.length;rw[nF,nF]at hlu hlr;refine⟨_,rfl,p,dx,_,rfl,h1,rfl,p,lu,lr,_,_,us,rs,rfl,hd,by lia,by lia,fun hz=>?_,fun u l el H2 hd2 m2=>?_⟩
 ·have hp:st.past=[]:=eE (by rw[hlu,hz];rfl);refine k.no (m:=9) ?_ H (bA.refl H);show IJ st=_;unfold IJ;rw[hp];rfl
 ·rw[el,jG]at hc1;generalize hpr:st.past.reverse=pr at hc1;cases hc1 with
  | @cons _ _ es b ls _ r1 r2 r3 r4=>
   have hpast:st.past=ls.reverse++[es]:=by rw[<-vY st.past,hpr,List.reverse_cons]
   have k:=k.ok (x:=({st with value:=u,past:=ls.reverse,future:=st.future++[b]},[st.past.length - 1,st.future.length+1])) (by show IJ st=_;unfold IJ;rw[hpast,Km];show fD (Vatwvc.rowOn es st.value) 9 _=_;rw[r1,vW];rfl);obtain⟨dx2,x2,y2,xs2,ys2,g1,g2,g3,_⟩:=id hd2.ex;refine⟨_,rfl,p,dx2,_,rfl,g1,rfl,p,lu,lr,_,_,_,_,rfl,hd2,fun D H3 s3 hD hD3=>?_⟩;have hus:us.length=l.length+1:=by rw[el,aC];rfl
   refine k H3 D lu lr ⟨⟨l,rs++[st.value],hd2.same s3,?_,?_,by lia,by rw[aC,cS];lia⟩,r3,hs.vo⟩ (m2.trans (Lz s3)) (.inl rfl) (.inl rfl) (m2.2 _ hD) (fun z=>by rw[z,g2]at hD;cases hD) (fun z=>by rw[z,g3]at hD;cases hD) ?_
   ·show VM.sZ u ls.reverse.reverse l.reverse;rw[vY];exact r4
   ·show VM.sZ u (st.future++[b]).reverse (rs++[st.value]).reverse;rw[jG,jG];exact VM.sZ.deed hs.vv r2 r1 hc2
   ·rw[hD3,aC,cS,hlu,hlr,hus];rfl
theorem UI (T:iM K mg a):gY P w K mg base 2 "answer_redo" ["desk","texts"] (qO a K 0 fun _=>.redo):=by
 refine kL T.f_answer_redo ["desk","texts"] fun vs H Q E h=>?_;obtain⟨p,tl,lu,lr,n,st,qs,ts,rfl,hs,hn,htl,hts,hl,hb,k⟩:=h;refine⟨rfl,fun nd _ _ _ _ _ hr=>?_⟩;intro X;refine⟨_,aI (dO (mK (Ca T) T.q_Desk hr ⟨rfl,rfl,rfl⟩ (pv 0))) (aN (bH (mK (xD T) T.q_Desk hr ⟨rfl,rfl,rfl⟩ (pv 0)))),?_⟩;obtain⟨us,rs,hd,hc1,hc2,hu,hv⟩:=hs.ex;obtain⟨dx,x,y,xs,ys,h1,h2,h3,_⟩:=id hd.ex;have hlu:=hc1.length;have hlr:=hc2.length;rw[nF,nF]at hlu hlr;refine⟨_,rfl,p,dx,_,rfl,h1,rfl,p,lu,lr,_,_,us,rs,rfl,hd,by lia,by lia,fun hz=>?_,fun u l el H2 hd2 m2=>?_⟩
 ·have hp:st.future=[]:=eE (by rw[hlr,hz];rfl);refine k.no (m:=9) ?_ H (bA.refl H);show II st=_;unfold II;rw[hp];rfl
 ·rw[el,jG]at hc2;generalize hpr:st.future.reverse=pr at hc2;cases hc2 with
  | @cons _ _ es b ls _ r1 r2 r3 r4=>
   have hpast:st.future=ls.reverse++[es]:=by rw[<-vY st.future,hpr,List.reverse_cons]
   have k:=k.ok (x:=({st with value:=u,past:=st.past++[b],future:=ls.reverse},[st.past.length+1,st.future.length - 1])) (by show II st=_;unfold II;rw[hpast,Km];show fD (Vatwvc.rowOn es st.value) 9 _=_;rw[r1,vW];rfl);obtain⟨dx2,x2,y2,xs2,ys2,g1,g2,g3,_⟩:=id hd2.ex;refine⟨_,rfl,p,dx2,_,rfl,g1,rfl,p,lu,lr,_,_,_,_,rfl,hd2,fun D H3 s3 hD hD3=>?_⟩;have hus:rs.length=l.length+1:=by rw[el,aC];rfl
   refine k H3 D lu lr ⟨⟨us++[st.value],l,hd2.same s3,?_,?_,by rw[aC,cS];lia,by lia⟩,r3,hs.vo⟩ (m2.trans (Lz s3)) (.inl rfl) (.inl rfl) (m2.2 _ hD) (fun z=>by rw[z,g2]at hD;cases hD) (fun z=>by rw[z,g3]at hD;cases hD) ?_
   ·show VM.sZ u (st.past++[b]).reverse (us++[st.value]).reverse;rw[jG,jG];exact VM.sZ.deed hs.vv r2 r1 hc1
   ·show VM.sZ u ls.reverse.reverse l.reverse;rw[vY];exact r4
   ·rw[hD3,aC,cS,hlu,hlr,hus];rfl
theorem UL (T:iM K mg a):gY P w K mg base 9 "answer_size" ["desk","texts"] (qO a K 0 fun _=>.size):=by refine kL T.f_answer_size ["desk","texts"] fun vs H Q E h=>?_;obtain⟨p,tl,lu,lr,n,st,qs,ts,rfl,hs,hn,htl,hts,hl,hb,k⟩:=h;refine⟨rfl,fun nd _ _ _ _ _ hr=>?_⟩;intro X;refine⟨_,aN (bH (kE uM (eL (aA (bC (lB T 6) hr ⟨rfl,rfl,rfl⟩ (aA (cK (pv 0) rfl) aD)) (aA (bC (lB T 6) hr ⟨rfl,rfl,rfl⟩ (aA (cK (pv 0) rfl) aD)) aD))) (mK (xD T) T.q_Desk hr.m ⟨rfl,rfl,rfl⟩ (pv 0)))),?_⟩;obtain⟨us,rs,hd,hc1,hc2,hu,hv⟩:=hs.ex;obtain⟨dx,x,y,xs,ys,h1,h2,h3,h4,h5,h6,h7,h8⟩:=id hd.ex;obtain⟨_,c6,d6⟩:=fO hs.vv;obtain⟨_,c6',d6'⟩:=fO hs.vo;refine⟨_,rfl,p,_,dx,_,_,rfl,h1,T.q_Desk,T.na_Desk_value,rfl,x,_,rfl,h5,d6,by lia,fun H1 s1=>?_⟩;refine⟨_,rfl,p,_,dx,_,_,rfl,s1 _ _ h1,T.q_Desk,T.na_Desk_other,rfl,y,_,rfl,h6.tups s1.tups,d6',by lia,fun H2 s2=>⟨(by show 2<=aU;decide),fun A1 hA1=>?_⟩⟩;have s3:=(s1.trans s2).trans (bA.upd (o:=.lst [.int (Vatwva.count st.value:Nat),.int (Vatwva.count st.other:Nat)]) hA1);refine⟨_,rfl,p,dx,_,rfl,s3 _ _ h1,rfl,p,lu,lr,_,_,us,rs,rfl,hd.same s3,fun A2 H4 s4 hA2 g2=>?_⟩;refine⟨A1,A2,_,_,rfl,rfl,s4 _ _ aH,g2,(by show 2+2<=aU;decide),fun D hD=>?_⟩;have hlu:=hc1.length;have hlr:=hc2.length;rw[nF,nF]at hlu hlr;have s5:=s3.trans s4;refine(k.ok (x:=(st,[Vatwva.count st.value,Vatwva.count st.other,st.past.length,st.future.length])) rfl).look hs (s5.trans (bA.upd hD)) (dX.fresh s5 hD) ?_;rw[aH,hlu,hlr];rfl
theorem WA:∀(p:Vatwvc.Path) {v x:fT},Vatwva.isValue v=true->Vatwva.atPath p v=some x->Vatwva.isValue x=true
 | [],v,x,hv,h=>by cases h;exact hv
 | s::p,v,x,hv,h=>by rw[DQ]at h;obtain⟨j,_,h⟩:=bF.mp h;obtain⟨y,hy,h⟩:=bF.mp h;obtain⟨k,hk,rfl⟩:=aX.mp (bB hy);exact WA p (VM.oW hv hk) h
theorem Et (he:Vatwvc.isEdit e=true) (hv:Vatwva.isValue v=true) (h:Vatwvc.turned e v=some b):Vatwvc.isEdit b=true/\Vatwvc.pathIn b=Vatwvc.pathIn e:=by
 rw[VM.NW]at h;obtain⟨w1,_,h⟩:=bF.mp h;obtain⟨x,hx,h⟩:=bF.mp h;have vx:=WA _ hv hx;unfold Vatwvc.isEdit at he;rw[aE]at he;obtain⟨hp,hd⟩:=he;have hp':∀{b:gH},Vatwvc.pathIn b=Vatwvc.pathIn e->(Vatwvc.pathIn b).all Vatwvc.isStep=true:=fun z=>by rw[z];exact hp
 obtain⟨gx,cx,dx⟩:=fO vx;have hlen:(Vatwva.kidsOf x).length<=60:=by have:=zZ gx.1;unfold bE at this;rw[aJ]at this;omega
 have fin:∀{p:Vatwvc.Path} {D:Bool},Vatwvc.pathIn e=p->D=true->(p.all Vatwvc.isStep && D)=true:=fun z zd=>by rw[<-z,hp,zd];rfl
 cases e with
 | set p v0=>cases h;exact⟨fin (p:=p) rfl vx,rfl⟩
 | put p i v0=>cases h;rw[aE]at hd;exact⟨fin (p:=p) rfl hd.1,rfl⟩
 | take p i=>obtain⟨y,hy,rfl⟩:=aO.mp (show((Vatwva.itemsOf x)[i]?).map (fun w=>Edit.put p i w)=some b from h);refine⟨fin (p:=p) (D:=decide (i<=Vatwva.GREATEST) && Vatwva.isValue y) rfl ?_,rfl⟩;rw[VM.CD vx (bB hy),lE];exact hd
 | move p i j=>cases h;rw[aE]at hd;exact⟨fin (p:=p) (D:=decide (j<=Vatwva.GREATEST) && decide (i<=Vatwva.GREATEST)) rfl (by rw[hd.1,hd.2];rfl),rfl⟩
 | add p i n v0=>cases h;rw[aE,aE]at hd;exact⟨fin (p:=p) rfl hd.2.1,rfl⟩
 | drop p n=>obtain⟨y,hy,rfl⟩:=aO.mp (show(Vatwva.valueAt n (Vatwva.kidsOf x)).map (fun w=>Edit.add p (Vatwvc.placeOf (Vatwva.kidsOf x) n) n w)=some b from h);have hpl:Vatwvc.placeOf (Vatwva.kidsOf x) n<=(Vatwva.kidsOf x).length:=List.findIdx_le_length;refine⟨fin (p:=p) (D:=decide (Vatwvc.placeOf (Vatwva.kidsOf x) n<=Vatwva.GREATEST) && (Vatwva.isName n && Vatwva.isValue y)) rfl ?_,rfl⟩;rw[VM.pN (by omega),VM.oW vx (VM.CC hy),lE,Bool.true_and];exact hd
 | rename p n m=>cases h;rw[aE]at hd;exact⟨fin (p:=p) (D:=Vatwva.isName m && Vatwva.isName n) rfl (by rw[hd.1,hd.2];rfl),rfl⟩
theorem Sb (b x y:bW) (r:List bW):y.length<=(mM b (x::y::r)).length:=by
 cases r with
 | nil=>show _<=(x++(b++y)).length;rw[aC,aC];omega
 | cons z r=>show _<=(x++(b++(y++(b++mM b (z::r))))).length;rw[aC,aC,aC];omega
theorem Vj (p:Vatwvc.Path):p.length<=(Vatwva.pathText p).length:=by
 rw[NO];have key:∀p:Vatwvc.Path,p.length<=1+(mM [47] (p.map Vatwva.stepText)).length:=by
  intro p;induction p with
  | nil=>exact aY _
  | cons s p ih=>
   cases p with
   | nil=>show 1<=1+_;omega
   | cons s2 p=>have e:mM [47] ((s::s2::p).map Vatwva.stepText)=Vatwva.stepText s++([47]++mM [47] ((s2::p).map Vatwva.stepText)):=rfl;rw[e,aC,aC];rw[aK];show _<=1+(_+(1+_));omega
 have:=key p;rw[aC];exact this
theorem Ci (h:Vatwvc.editOf t=some e):(Vatwvc.pathIn e).length<=t.length:=by have hw:=(VM.BD.mp h).2;rw[<-hw,JM];exact bI (Vj _) (Sb _ _ _ _)
theorem Ah (hok:Vatwvc.isEdit e=true) (hn:(Vatwvc.pathIn e).length<=6000):(Vatwvc.wordsOfEdit e).length<=100000:=by
 rw[VM.zU,aE]at hok;have hwl:=Hi e;have hpl:=Fx hok.1 hn;have hd3:kH [32] ((VM.fA e).map rN.text)<=6001 * ((VM.fA e).map fun _=>1).sum:=xG fun x hx'=>by have:=Be (cA.mp hok.2 x hx');show _+1<=_;omega
 have hone:=YK e;have e6:kH [32] (VM.iL e::Vatwva.pathText (Vatwvc.pathIn e)::(VM.fA e).map rN.text)=(VM.iL e).length+1+((Vatwva.pathText (Vatwvc.pathIn e)).length+1+kH [32] ((VM.fA e).map rN.text)):=by unfold kH;rw[aP,dW,aP,dW];rfl
 have:=pM [32] (VM.iL e::Vatwva.pathText (Vatwvc.pathIn e)::(VM.fA e).map rN.text) (VM.iL e::Vatwva.pathText (Vatwvc.pathIn e)::(VM.fA e).map rN.text).length;rw[cN,<-JM]at this;omega
theorem UD (T:iM K mg a) (B:sO P w K mg a):gY P w K mg base 22 "answer_back" ["desk","texts"] (qO a K 1 (c1 .back)):=by
 refine kL T.f_answer_back ["desk","texts","edit"] fun vs H Q E h=>?_;obtain⟨p,tl,lu,lr,n,st,qs,ts,rfl,hs,hn,htl,hts,hl,hb,k⟩:=h;refine⟨rfl,fun nd _ _ _ _ _ hr=>?_⟩;intro X;obtain⟨q,t,rfl,rfl,hq⟩:=qZ hts hl;refine⟨_,aI (cM (i:=2) nd rfl (bP rfl) (bC (nV T B) hr ⟨rfl,rfl,rfl⟩ (aA (fN rD (pv 1) cB (fun _ _=>rfl)) aD))) (aI (dO (bC (zA T B) hr.m ⟨rfl,rfl,rfl⟩ (aA (pv 2) (aA (cK (pv 0) rfl) aD)))) (aN (bH (bC (BL T) hr.m ⟨rfl,rfl,rfl⟩ (aA (bC (LI T B) hr.m ⟨rfl,rfl,rfl⟩ (aA (bC (UZ T B) hr.m ⟨rfl,rfl,rfl⟩ (aA (pv 2) (aA (cK (pv 0) rfl) aD))) aD)) aD))))),?_⟩;obtain⟨us,rs,hd,hc1,hc2,hu,hv⟩:=hs.ex;obtain⟨dx,x,y,xs,ys,h1,h2,h3,h4,h5,h6,h7,h8⟩:=hd.ex;refine⟨_,rfl,tl,_,_,_,rfl,rfl,hJ.of htl,gC (j:=0) rfl,q,t,rfl,hq,hb t aM,?_⟩;have hk:fB st (c1 .back [t])=fD (Vatwvc.editOf t) 1 fun e=>match Vatwvc.rowOn [e] st.value with
  | some x=>.ok (st,eR ((x.2.head?.map Vatwvc.wordsOfEdit).getD []))
  | none=>.error 5:=rfl
 cases qe:Vatwvc.editOf t with
 | none=>rw[qe]at hk;exact k.no hk
 | some e=>
  obtain⟨ie,fe,se⟩:=BE qe;rw[qe]at hk;intro H1 ep s1 hep;refine⟨_,rfl,_,rfl,p,_,dx,_,_,rfl,s1 _ _ h1,T.q_Desk,T.na_Desk_value,rfl,ep,x,e,st.value,rfl,hep,h5.tups s1.tups,VM.gU hs.vv,fe,se,?_⟩;cases qm:IW e st.value with
  | none=>
   intro H2 s2;exact k.no (m:=5) (hk.trans (show(match Vatwvc.rowOn [e] st.value with
    | some x=>.ok (st,eR ((x.2.head?.map Vatwvc.wordsOfEdit).getD []))
    | none=>.error 5:xL)=_ by rw[jB,lV,qm];rfl)) H2 (s1.trans s2)
  | some u=>
   intro H2 x2 s2 hx2;obtain⟨w2,ha,_⟩:=bF.mp qm;obtain⟨b,hb1,hb2,_⟩:=VM.Ad fe (VM.gU hs.vv) ha;obtain⟨ib,pb⟩:=Et ie hs.vv hb1;have hta:Vatwvc.turnedAll [e] st.value=[b]:=by
    show(match Vatwvc.turned e st.value,dP e st.value with
     | some b,some w=>Vatwvc.turnedAll [] w++[b]
     | _,_=>[])=[b]
    rw[hb1,ha];rfl
   have k:=k.ok (x:=(st,eR (Vatwvc.wordsOfEdit b))) (hk.trans (show(match Vatwvc.rowOn [e] st.value with
    | some x=>.ok (st,eR ((x.2.head?.map Vatwvc.wordsOfEdit).getD []))
    | none=>.error 5:xL)=_ by rw[jB,lV,qm,hta];rfl))
   have s12:=s1.trans s2;have hpl:(Vatwvc.pathIn b).length<=6000:=by rw[pb];exact bI (Ci qe) (hb t aM)
   obtain⟨_,c6,d6⟩:=fO hs.vv;refine⟨_,rfl,_,rfl,p,_,dx,_,_,rfl,s12 _ _ h1,T.q_Desk,T.na_Desk_value,rfl,ep,x,e,b,st.value,rfl,hep.same s2,h5.tups s12.tups,by omega,hb1,fun H3 bp s3 hbp=>?_⟩;refine⟨bp,b,rfl,hbp,ib,hpl,fun A1 H4 s4 hA1 g1=>?_⟩;refine⟨A1,_,rfl,g1,bI (Ah ib hpl) (by decide),fun D H5 s5 hD hD5=>?_⟩;have s34:=(s12.trans s3).trans s4;exact k.look hs (s34.trans s5) (dX.fresh s34 hD) hD5
theorem UH (T:iM K mg a) (B:sO P w K mg a):gY P w K mg base 31 "answer_meet" ["desk","texts"] (qO a K 0 fun _=>.meet):=by
 refine kL T.f_answer_meet ["desk","texts","row"] fun vs H Q E h=>?_;obtain⟨p,tl,lu,lr,n,st,qs,ts,rfl,hs,hn,htl,hts,hl,hb,k⟩:=h;refine⟨rfl,fun nd _ _ _ _ _ hr=>?_⟩;intro X;have hu64:=hr.units;refine⟨_,aI (cM (i:=2) nd rfl (bP rfl) (bC (BM T B 6 (by decide)) hr ⟨rfl,rfl,rfl⟩ (aA (cK (pv 0) rfl) (aA (cK (pv 0) rfl) aD)))) (aI (dO (sI (JB T) T.q_Desk hr.m ⟨rfl,rfl,rfl⟩ (pv 0) (aA (bC (lX T B) hr.m ⟨rfl,rfl,rfl⟩ (aA (cK (pv 2) rfl) (aA (cK (pv 0) rfl) aD))) aD))) (aN (bH (eL (aA (Fz (dB (Cf hu64) (cK (pv 0) rfl) (cK (pv 0) rfl) (dL _)) cB cB) (aA (cY cW rfl T.n_len cE (aA (cK (pv 2) rfl) aD)) aD)))))),?_⟩;obtain⟨us,rs,hd,hc1,hc2,hu,hv⟩:=hs.ex;obtain⟨dx,x,y,xs,ys,h1,h2,h3,h4,h5,h6,h7,h8⟩:=id hd.ex;obtain⟨gv,c6,d6⟩:=fO hs.vv;obtain⟨go,c6',d6'⟩:=fO hs.vo;refine⟨_,rfl,p,_,dx,_,_,rfl,h1,T.q_Desk,T.na_Desk_value,rfl,_,rfl,p,_,dx,_,_,rfl,h1,T.q_Desk,T.na_Desk_other,rfl,x,y,_,_,rfl,h5,h6,hs.vv,hs.vo,d6,fun H1 pr s1 r1=>?_⟩;obtain⟨hrow,hfine⟩:=VM.Ja hs.vv hs.vo;have nice:=VM.uJ 6 d6 hs.vv hs.vo;obtain⟨dxr,lr1,qs1,q1,q2,q3,q4⟩:=r1;have hmade:kP (cD st.value st.other).edits st.value=some st.other:=by rw[jB]at hrow;obtain⟨z,hz,e⟩:=aO.mp hrow;cases e;exact hz
 refine⟨_,rfl,p,dx,_,rfl,s1 _ _ h1,rfl,_,rfl,pr,_,dxr,_,_,rfl,q1,T.q_Row,T.na_Row_edits,rfl,_,rfl,p,_,dx,_,_,rfl,s1 _ _ h1,T.q_Desk,T.na_Desk_value,rfl,lr1,qs1,_,x,st.value,rfl,q2,q3,h5.tups s1.tups,VM.gU hs.vv,fun e he=>⟨hfine e he,HI (nice.ok e he).1⟩,?_⟩;rw[hmade];intro H2 x2 s2 hx2;have s12:=s1.trans s2;refine⟨p,lu,lr,_,_,us,rs,x2,st.other,rfl,hd.same s12,hx2,by lia,fun H3 lr' hd3 m3 e3=>?_⟩;have hst:=zO.deed (H:=H) (lr:=lr) (n:=n) (es:=(cD st.value st.other).edits) hs.vv hs.vo hc1 hu hfine hmade hd3;obtain⟨dx3,x3,y3,xs3,ys3,g1,g2,g3,g4,g5,g6,_⟩:=id hd3.ex;have n1:pr≠p:=kK (s2 _ _ q1) (s12 _ _ h1) (fun z=>absurd (show(2:Nat)=4 from congrArg sQ (HO.ins.inj z).2.2) (by decide));have n2:lr1≠p:=kK (s2 _ _ q2) (s12 _ _ h1) (by intro z;cases z);have n3:lr1≠lu:=fun z=>by rw[z,h2]at q4;cases q4
 have n4:lr1≠lr:=fun z=>by rw[z,h3]at q4;cases q4
 have q1':=m3.1 _ _ n1 (kK (s2 _ _ q1) (s12 _ _ h2) (by intro z;cases z)) (kK (s2 _ _ q1) (s12 _ _ h3) (by intro z;cases z)) (s2 _ _ q1);have q2':=m3.1 _ _ n2 n3 n4 (s2 _ _ q2);have k:=k.ok (x:=({st with value:=st.other,past:=st.past++[Vatwvc.turnedAll (cD st.value st.other).edits st.value],future:=[]},[1,(cD st.value st.other).edits.length])) (by show fD (Vatwvc.rowOn (cD st.value st.other).edits st.value) 5 _=_;rw[hrow];show Except.ok (_,[WF (st.other == st.other),_])=_;rw[beq_self_eq_true];rfl);refine⟨_,rfl,p,_,dx3,_,_,rfl,g1,T.q_Desk,T.na_Desk_value,rfl,_,rfl,p,_,dx3,_,_,rfl,g1,T.q_Desk,T.na_Desk_other,rfl,Bj g5 g6 go go (by lia) (by lia) ⟨_,rfl,pL (decide_eq_true rfl) ?_⟩⟩;refine⟨_,rfl,pr,_,dxr,_,_,rfl,q1',T.q_Row,T.na_Row_edits,rfl,lr1,_,rfl,.inl (hJ.of q2'),(by show 2<=aU;decide),fun D hD=>?_⟩;refine k _ D lu lr' (hst.same (bA.upd hD)) ((Lz s12).trans (m3.trans (Lz (bA.upd hD)))) (.inl rfl) (.inr (dX.fresh s12 e3)) (dX.fresh s12 (m3.2 _ hD)) (fun z=>by rw[z,g2]at hD;cases hD) (fun z=>by rw[z,g3]at hD;cases hD) ?_;rw[aH,q3.length];rfl
theorem UF (T:iM K mg a) (B:sO P w K mg a):gY P w K mg base 31 "answer_diff" ["desk","texts"] (qO a K 0 fun _=>.diff):=by
 refine kL T.f_answer_diff ["desk","texts","row","answer","edit"] fun vs H Q E h=>?_;obtain⟨p,tl,lu,lr,n,st,qs,ts,rfl,hs,hn,htl,hts,hl,hb,k⟩:=h;refine⟨rfl,fun nd _ _ _ _ _ hr=>?_⟩;intro X;refine⟨_,aI (cM (i:=2) nd rfl (bP rfl) (bC (BM T B 6 (by decide)) hr ⟨rfl,rfl,rfl⟩ (aA (cK (pv 0) rfl) (aA (cK (pv 0) rfl) aD)))) (aI (cM (i:=3) nd rfl (bP rfl) (eL (aA (cK (pv 2) rfl) (aA (cY cW rfl T.n_len cE (aA (cK (pv 2) rfl) aD)) aD)))) (aI (pP (gK ⟨rfl,rfl,rfl⟩) rfl (RF (cK (pv 2) rfl)) (fC (i:=4) nd rfl (bP rfl)) (aN (dO (nM bG kF mE AB (pv 3) (aA (bC (BL T) hr.m ⟨rfl,rfl,rfl⟩ (aA (bC (LI T B) hr.m ⟨rfl,rfl,rfl⟩ (aA (pv 4) aD)) aD)) aD))))) (aN (bH (pv 3))))),?_⟩;obtain⟨us,rs,hd,hc1,hc2,hu,hv⟩:=hs.ex;obtain⟨dx,x,y,xs,ys,h1,h2,h3,h4,h5,h6,h7,h8⟩:=id hd.ex;obtain⟨gv,c6,d6⟩:=fO hs.vv;refine⟨_,rfl,p,_,dx,_,_,rfl,h1,T.q_Desk,T.na_Desk_value,rfl,_,rfl,p,_,dx,_,_,rfl,h1,T.q_Desk,T.na_Desk_other,rfl,x,y,_,_,rfl,h5,h6,hs.vv,hs.vo,d6,fun H1 pr s1 r1=>?_⟩;have nice:=VM.uJ 6 d6 hs.vv hs.vo;have hk:fB st .diff=.ok (st,(cD st.value st.other).cost::Qm ((cD st.value st.other).edits.map Vatwvc.wordsOfEdit)):=rfl;have k:=k.ok hk;generalize hr0:cD st.value st.other=r at nice r1 k;obtain⟨dxr,lr1,qs1,q1,q2,q3,q4⟩:=r1;refine⟨_,rfl,pr,_,dxr,_,_,rfl,q1,T.q_Row,T.na_Row_cost,rfl,_,rfl,pr,_,dxr,_,_,rfl,q1,T.q_Row,T.na_Row_edits,rfl,lr1,_,rfl,.inl (hJ.of q2),(by show 2<=aU;decide),fun D hD=>?_⟩;have sD:=bA.upd (o:=.lst [.int (r.cost:Nat),.int (qs1.length:Nat)]) hD;have hDH:=dX.fresh s1 hD;have nl:lr1≠D:=dM q2 hD;have hql:qs1.length=r.edits.length:=q3.length;have hel:r.edits.length<=61:=bI nice.len nice.le;refine⟨_,rfl,pr,_,dxr,_,_,rfl,sD _ _ q1,T.q_Row,T.na_Row_edits,rfl,lr1,rfl,⟨_,hJ.of (sD _ _ q2)⟩,SW (xs:=qs1) (fun i σ H'=>bA H1 H'/\∃s4 ns,σ=[some (.ref p),some (.ref tl),some (.ref pr),some (.ref D),s4]/\H' D=some (.lst ((HA ns).map V.int))/\ns=r.cost::r.edits.length::((r.edits.take i).map Vatwvc.wordsOfEdit).flatMap eR/\ns.length<=2+100001 * i) ⟨sD,none,[r.cost,r.edits.length],rfl,by rw[aH,hql];rfl,rfl,(by show 2<=_;lia)⟩ (fun i σ H' _ h=>hJ.of (h.1 _ _ q2)) ?_ ?_⟩
 ·rintro i z σ H' hz ⟨sm,s4,ns,rfl,hD',hns,hnl⟩;obtain⟨e,ee,ep,rfl,hep⟩:=Paired.at q3 hz;have hm:=bB ee;obtain⟨ie,pe⟩:=nice.ok e hm;have hwl:=Ah ie (bI pe (by decide));have hil:=(aT.mp ee).1;refine⟨_,rfl,.inl ⟨rfl,_,hJ.of hD'⟩,_,rfl,ep,e,rfl,hep.same sm,ie,bI pe (by decide),fun A1 H2 s2 hA1 g1=>?_⟩;refine⟨A1,_,rfl,g1,by lia,fun A2 H3 s3 hA2 g2=>?_⟩;have s23:=s2.trans s3;have hD3:=s23 _ _ hD';refine⟨D,A2,_,_,rfl,rfl,hD3,g2,big (by rw[aJ,aJ,MN];unfold HA;rw[aJ];lia),dC (sm.trans s23) hD,_,ns++eR (Vatwvc.wordsOfEdit e),rfl,?_,?_,?_⟩
  ·rw[aH];unfold Gz HA;rw[aW,aW]
  ·rw[jC ee,aW,Mu,hns];simp
  ·rw[aC];have:(eR (Vatwvc.wordsOfEdit e)).length=(Vatwvc.wordsOfEdit e).length+1:=by unfold eR;simp
   lia
 ·rintro σ H' ⟨sm,s4,ns,rfl,hD',hns,hnl⟩;rw[hql,cN]at hns;refine⟨_,rfl,k.look hs (s1.trans sm) hDH ?_⟩;rw[hD',hns];unfold Qm;rw[aJ]
theorem YA (f:A->Option B):∀{l:List A} {r:List B},Vatwva.allOf (l.map f)=some r->∀y∈r,∃x,f x=some y
 | [],r,h,y,hy=>by cases h;cases hy
 | x::l,r,h,y,hy=>by
  obtain⟨b,hb,h⟩:=bF.mp (show((f x).bind fun b=>(Vatwva.allOf (l.map f)).map fun l=>b::l)=some r from h);obtain⟨r',hr',rfl⟩:=aO.mp h;rcases aS.mp hy with rfl | hy
  ·exact⟨x,hb⟩
  ·exact YA f hr' y hy
theorem Rm (h:Vatwvc.editsOf t=some es):∀e∈es,VM.uB 24 e/\GQ e:=fun e he=>by
 simp only[Vatwvc.editsOf]at h;split at h
 ·obtain⟨x,hx⟩:=YA Vatwvc.editOf h e he;exact(BE hx).2
 ·cases h
theorem Pe (h:VM.runs es v=VM.runs (es.drop i) u) (he:es.drop i=e::es.drop (i+1)) (ha:dP e u=none):kP es v=none:=by unfold kP;rw[h,he];show((dP e u).bind _).bind _=none;rw[ha];rfl
theorem LF (T:iM K mg a) (B:sO P w K mg a):gY P w K mg base 22 "answer_commute" ["desk","texts"] (qO a K 2 fun ts=>.commute (ts.getD 0 []) (ts.getD 1 [])):=by
 refine kL T.f_answer_commute ["desk","texts","one","other","one_first","other_first"] fun vs H Q E h=>?_;obtain⟨p,tl,lu,lr,n,st,qs,ts,rfl,hs,hn,htl,hts,hl,hb,k⟩:=h;refine⟨rfl,fun nd _ _ _ _ _ hr=>?_⟩;intro X;obtain⟨q,q',t,t',rfl,rfl,hq,hq'⟩:=Pq hts hl;have hu64:=hr.units;refine⟨_,aI (cM (i:=2) nd rfl (bP rfl) (bC (nV T B) hr ⟨rfl,rfl,rfl⟩ (aA (fN rD (pv 1) cB (fun _ _=>rfl)) aD))) (aI (cM (i:=3) nd rfl (bP rfl) (bC (nV T B) hr ⟨rfl,rfl,rfl⟩ (aA (fN rD (pv 1) cB (fun _ _=>rfl)) aD))) (aI (Jz ⟨rfl,rfl,rfl⟩ (Gg (i:=4) nd rfl (bP rfl) (Mg (lX T B) hr.m ⟨rfl,rfl,rfl⟩ (aA (eL (aA (pv 2) (aA (pv 3) aD))) (aA (cK (pv 0) rfl) aD))) (Cn (i:=5) nd rfl (bP rfl) (Mg (lX T B) hr.m ⟨rfl,rfl,rfl⟩ (aA (eL (aA (pv 3) (aA (pv 2) aD))) (aA (cK (pv 0) rfl) aD))))) (FY ⟨rfl,rfl,rfl⟩ rfl T.x_Inapplicable.1 T.x_Inapplicable.2 (fun e=>aN (bH (eL (aA cB aD)))) Cj)) (aN (bH (eL (aA (Fz (dB (Cf hu64) (pv 4) (pv 5) (dL _)) cB cB) aD)))))),?_⟩;obtain⟨us,rs,hd,hc1,hc2,hu,hv⟩:=hs.ex;obtain⟨dx,x,y,xs,ys,h1,h2,h3,h4,h5,h6,h7,h8⟩:=id hd.ex;refine⟨_,rfl,tl,_,_,_,rfl,rfl,hJ.of htl,gC (j:=0) rfl,q,t,rfl,hq,hb t aM,?_⟩;have hk:fB st (.commute t t')=fD (Vatwvc.editOf t) 1 fun e=>fD (Vatwvc.editOf t') 1 fun d=>match Vatwvc.rowOn [e,d] st.value,Vatwvc.rowOn [d,e] st.value with
  | some a,some b=>.ok (st,[WF (a.1 == b.1)])
  | _,_=>.ok (st,[0]):=rfl
 have k:AT a K H p lu lr n (fB st (.commute t t')) Q E:=k;cases qe:Vatwvc.editOf t with
 | none=>rw[qe]at hk;exact k.no hk
 | some e=>
  obtain⟨ie,fe,se⟩:=BE qe;rw[qe]at hk;intro H1 ep s1 hep;refine⟨_,rfl,tl,_,_,_,rfl,rfl,hJ.of (s1 _ _ htl),gC (j:=1) rfl,q',t',rfl,s1 _ _ hq',hb t' (aL _ aM),?_⟩;cases qd:Vatwvc.editOf t' with
  | none=>rw[qd]at hk;exact fun H2 s2=>k.no hk H2 (s1.trans s2)
  | some d=>
   obtain⟨id',fd',sd'⟩:=BE qd;rw[qd]at hk;have hk:fB st (.commute t t')=(match Vatwvc.rowOn [e,d] st.value,Vatwvc.rowOn [d,e] st.value with
    | some a,some b=>.ok (st,[WF (a.1 == b.1)])
    | _,_=>.ok (st,[0]):xL):=hk
   rw[jB,jB]at hk;intro H2 dp s2 hdp;have s12:=s1.trans s2;refine⟨_,rfl,_,rfl,(by show 2<=aU;decide),fun L1 hL1=>?_⟩;have s3:=s12.trans (bA.upd (o:=.lst [.ref ep,.ref dp]) hL1);have fine:∀z∈[e,d],VM.uB 24 z/\GQ z:=fun z hz=>by
    rcases aS.mp hz with rfl | hz
    ·exact⟨fe,se⟩
    ·obtain rfl:=bU.mp hz;exact⟨fd',sd'⟩
   have fine':∀z∈[d,e],VM.uB 24 z/\GQ z:=fun z hz=>by
    rcases aS.mp hz with rfl | hz
    ·exact⟨fd',sd'⟩
    ·obtain rfl:=bU.mp hz;exact⟨fe,se⟩
   refine⟨_,rfl,p,_,dx,_,_,rfl,s3 _ _ h1,T.q_Desk,T.na_Desk_value,rfl,L1,_,[e,d],x,st.value,rfl,aH,.cons ⟨ep,rfl,(hep.same s2).same (bA.upd hL1)⟩ (.cons ⟨dp,rfl,hdp.same (bA.upd hL1)⟩ .nil),h5.tups s3.tups,VM.gU hs.vv,fine,?_⟩;cases qa:kP [e,d] st.value with
   | none=>intro H4 s4;rw[qa]at hk;refine⟨_,rfl,T.x_Inapplicable.2,fun _=>⟨(by show 1<=aU;decide),fun D hD=>?_⟩,fun z=>absurd rfl z⟩;exact(k.ok hk).look hs ((s3.trans s4).trans (bA.upd hD)) (dX.fresh (s3.trans s4) hD) aH
   | some va=>
    intro H4 xa s4 hxa;rw[qa]at hk;have s34:=s3.trans s4;refine⟨rfl,_,rfl,_,rfl,(by show 2<=aU;decide),fun L2 hL2=>?_⟩;have s5:=bA.upd (o:=.lst [.ref dp,.ref ep]) hL2;have s6:=s34.trans s5;have sb:=((bA.upd (o:=.lst [.ref ep,.ref dp]) hL1).trans s4).trans s5;refine⟨_,rfl,p,_,dx,_,_,rfl,s6 _ _ h1,T.q_Desk,T.na_Desk_value,rfl,L2,_,[d,e],x,st.value,rfl,aH,.cons ⟨dp,rfl,hdp.same sb⟩ (.cons ⟨ep,rfl,(hep.same s2).same sb⟩ .nil),h5.tups s6.tups,VM.gU hs.vv,fine',?_⟩;cases qb:kP [d,e] st.value with
    | none=>intro H7 s7;rw[qb]at hk;refine⟨_,rfl,T.x_Inapplicable.2,fun _=>⟨(by show 1<=aU;decide),fun D hD=>?_⟩,fun z=>absurd rfl z⟩;exact(k.ok hk).look hs ((s6.trans s7).trans (bA.upd hD)) (dX.fresh (s6.trans s7) hD) aH
    | some vb=>
     intro H7 xb s7 hxb;rw[qb]at hk;have hk:fB st (.commute t t')=.ok (st,[WF (va == vb)]):=hk;have vva:Vatwva.isValue va=true:=by have:=jB [e,d] st.value;rw[qa]at this;exact(VM.nZ.mp this).2.1
     have vvb:Vatwva.isValue vb=true:=by have:=jB [d,e] st.value;rw[qb]at this;exact(VM.nZ.mp this).2.1
     obtain⟨ga,ca,da⟩:=fO vva;obtain⟨gb,cb,db⟩:=fO vvb;have s67:=s6.trans s7;refine⟨_,rfl,_,rfl,Bj (hxa.tups (s5.trans s7).tups) hxb ga gb (by omega) (by omega) ⟨_,rfl,nI (fun c=>?_) (fun c=>?_)⟩⟩
     ·have c:va=vb:=of_decide_eq_true c;refine⟨(by show 1<=aU;decide),fun D hD=>?_⟩;rw[c,beq_self_eq_true]at hk;exact(k.ok hk).look hs (s67.trans (bA.upd hD)) (dX.fresh s67 hD) aH
     ·have c:¬va=vb:=fun z=>c (decide_eq_true z);refine⟨(by show 1<=aU;decide),fun D hD=>?_⟩;rw[beq_eq_false_iff_ne.mpr c]at hk;exact(k.ok hk).look hs (s67.trans (bA.upd hD)) (dX.fresh s67 hD) aH
theorem UJ (T:iM K mg a) (B:sO P w K mg a):gY P w K mg base 23 "answer_rows" ["desk","texts"] (qO a K 1 (c1 .rows)):=by
 refine kL T.f_answer_rows ["desk","texts","edits","made","count","edit"] fun vs H Q E h=>?_;obtain⟨p,tl,lu,lr,n,st,qs,ts,rfl,hs,hn,htl,hts,hl,hb,k⟩:=h;refine⟨rfl,fun nd _ _ _ _ _ hr=>?_⟩;intro X;obtain⟨q,t,rfl,rfl,hq⟩:=qZ hts hl;refine⟨_,aI (cM (i:=2) nd rfl (bP rfl) (bC (XF T B) hr ⟨rfl,rfl,rfl⟩ (aA (fN rD (pv 1) cB (fun _ _=>rfl)) aD))) (aI (cM (i:=3) nd rfl (bP rfl) (cK (pv 0) rfl)) (aI (pP (gK ⟨rfl,rfl,rfl⟩) rfl (Md (by rfl) T.n_enumerate (aA (pv 2) aD)) (JD (n:=2) (by rfl) (lG (fC (i:=4) nd rfl (bP rfl)) (lG (fC (i:=5) nd rfl (bP rfl)) BP))) (aN (Mf ⟨rfl,rfl,rfl⟩ (Cn (i:=3) nd rfl (bP rfl) (Mg (UN T B) hr.m ⟨rfl,rfl,rfl⟩ (aA (pv 5) (aA (pv 3) aD)))) (FY ⟨rfl,rfl,rfl⟩ rfl T.x_Inapplicable.1 T.x_Inapplicable.2 (fun e=>aN (bH (eL (aA cB (aA (pv 4) aD))))) Cj)))) (aI (fE (xF (mY (bC (ED T 6) hr.m ⟨rfl,rfl,rfl⟩ (aA (pv 3) aD)))) (aN (bH (eL (aA cB (aA (cY cW rfl T.n_len cE (aA (pv 2) aD)) aD))))) cZ) (aI (dO (sI (JB T) T.q_Desk hr.m ⟨rfl,rfl,rfl⟩ (pv 0) (aA (pv 3) aD))) (aN (bH (eL (aA cB (aA (cY cW rfl T.n_len cE (aA (pv 2) aD)) aD))))))))),?_⟩;obtain⟨us,rs,hd,hc1,hc2,hu,hv⟩:=hs.ex;obtain⟨dx,x,y,xs,ys,h1,h2,h3,h4,h5,h6,h7,h8⟩:=id hd.ex;refine⟨_,rfl,tl,_,_,_,rfl,rfl,hJ.of htl,gC (j:=0) rfl,q,t,rfl,hq,hb t aM,?_⟩;have hk:fB st (c1 .rows [t])=fD (Vatwvc.editsOf t) 1 fun es=>match Vatwvc.rowOn es st.value with
  | some _=>fD (Vatwvc.rowOn es st.value) 5 fun x=>.ok ({st with value:=x.1,past:=st.past++[x.2],future:=[]},[0,es.length])
  | none=>.ok (st,[1,uZ es st.value]):=rfl
 cases qe:Vatwvc.editsOf t with
 | none=>rw[qe]at hk;exact k.no hk
 | some es=>
  have fine:=Rm qe;rw[qe]at hk;have hk:fB st (c1 .rows [t])=(match Vatwvc.rowOn es st.value with
   | some _=>fD (Vatwvc.rowOn es st.value) 5 fun x=>.ok ({st with value:=x.1,past:=st.past++[x.2],future:=[]},[0,es.length])
   | none=>.ok (st,[1,uZ es st.value]):xL):=hk
  rw[jB]at hk;intro H1 q1 rs1 s1 hq1 hq1' hes;have hl1:rs1.length=es.length:=hes.length;refine⟨_,rfl,p,_,dx,_,_,rfl,s1 _ _ h1,T.q_Desk,T.na_Desk_value,rfl,?_⟩;refine⟨_,rfl,q1,rs1,rfl,hJ.of hq1',Eo (xs:=rs1) (fun i σ H'=>bA H1 H'/\∃z u s4 s5,σ=[some (.ref p),some (.ref tl),some (.ref q1),some z,s4,s5]/\oG K H' z u/\iG u=true/\VM.runs es st.value=VM.runs (es.drop i) u/\Vatwvc.applyAll es st.value=Vatwvc.applyFrom i (es.drop i) u) ⟨bA.refl H1,x,st.value,none,none,rfl,h5.tups s1.tups,VM.gU hs.vv,rfl,rfl⟩ (fun i σ H' _ h=>hJ.of (h.1 _ _ hq1')) ?_ ?_⟩
  ·rintro i y1 t1 σ H' hy1 ht1 ⟨sm,z,u,s4,s5,rfl,hz,lu1,hrun,happ⟩;obtain⟨e,ee,ep,rfl,hep⟩:=Paired.at hes hy1;have hm:=fine e (bB ee);have hdr:es.drop i=e::es.drop (i+1):=by obtain⟨hi,rfl⟩:=aT.mp ee;exact bM hi
   have sT:=bA.upd (o:=.tup [.int (i:Nat),.ref ep]) ht1;have smT:=sm.trans sT;refine⟨t1,_,rfl,.of' aH,rfl,_,_,rfl,_,_,rfl,rfl,?_⟩;refine⟨_,rfl,_,rfl,ep,z,e,u,rfl,hep.same smT,hz.tups sT.tups,lu1,hm.1,hm.2,?_⟩;cases qa:dP e u with
   | none=>
    intro H2 s2;have hfail:=Pe hrun hdr qa;have hfar:uZ es st.value=i:=by
     unfold uZ;rw[happ,hdr];have:Vatwvc.applyFrom i (e::es.drop (i+1)) u=.error i:=by rw[Vatwvc.applyFrom,qa]
     rw[this]
    rw[hfail]at hk;have hk:fB st (c1 .rows [t])=.ok (st,[1,i]):=by rw[hk,<-hfar];rfl
    have sA:=(s1.trans smT).trans s2;refine⟨_,rfl,T.x_Inapplicable.2,fun _=>⟨_,rfl,(by show 2<=aU;decide),fun D hD=>?_⟩,fun z=>absurd rfl z⟩;exact(k.ok hk).look hs (sA.trans (bA.upd hD)) (dX.fresh sA hD) aH
   | some w1=>
    intro H2 m s2 hm2;refine⟨smT.trans s2,m,w1,_,_,rfl,hm2,(VM.nT.mp qa).2,?_,?_⟩
    ·rw[hrun,hdr];show(dP e u).bind _=_;rw[qa];rfl
    ·rw[happ,hdr,Vatwvc.applyFrom,qa]
  ·rintro σ H' ⟨sm,z,u,s4,s5,rfl,hz,lu1,hrun,happ⟩;rw[hl1,jT]at hrun happ;have hrun:VM.runs es st.value=some u:=hrun;have hfar:uZ es st.value=es.length:=by unfold uZ;rw[happ];rfl
   obtain⟨g,c,d⟩:=VM.lR.mp lu1;have c:Vatwva.count u<=120:=c;have d:Vatwva.deep u<=6:=d;have s1m:=s1.trans sm;refine⟨_,rfl,z,u,rfl,hz,d,by omega,fun H2 s2=>⟨_,rfl,?_⟩⟩;have s12:=s1m.trans s2;by_cases cv:Vatwva.isValue u=true
   ·have hmade:kP es st.value=some u:=by unfold kP;rw[hrun];exact if_pos cv
    have cd:=(yC lu1).mpr cv;refine mV (by rw[decide_eq_true cd];rfl) ?_;have k:=k.ok (x:=({st with value:=u,past:=st.past++[Vatwvc.turnedAll es st.value],future:=[]},[0,es.length])) (by rw[hk,hmade];rfl);refine⟨_,rfl,p,dx,_,rfl,s12 _ _ h1,rfl,_,rfl,p,lu,lr,_,_,us,rs,z,u,rfl,hd.same s12,hz.tups s2.tups,by omega,fun H3 lr' hd3 m3 e3=>?_⟩;have hst:=zO.deed (H:=H) (lr:=lr) (n:=n) (es:=es) hs.vv hs.vo hc1 hu (fun e he=>(fine e he).1) hmade hd3;obtain⟨dx3,x3,y3,xs3,ys3,g1,g2,g3,g4,g5,g6,_⟩:=id hd3.ex;have hq2:=(sm.trans s2) _ _ hq1';have hq3:=m3.1 q1 _ (kK hq2 (s12 _ _ h1) (by intro z;cases z)) (fun z=>by rw[z,h2]at hq1;cases hq1) (fun z=>by rw[z,h3]at hq1;cases hq1) hq2;refine⟨_,rfl,q1,_,rfl,.inl (hJ.of hq3),(by show 2<=aU;decide),fun D hD=>?_⟩;refine k _ D lu lr' (hst.same (bA.upd hD)) ((Lz s12).trans (m3.trans (Lz (bA.upd hD)))) (.inl rfl) (.inr (dX.fresh s12 e3)) (dX.fresh s12 (m3.2 _ hD)) (fun z=>by rw[z,g2]at hD;cases hD) (fun z=>by rw[z,g3]at hD;cases hD) ?_;rw[aH,hl1];rfl
   ·have hmade:kP es st.value=none:=by unfold kP;rw[hrun];exact if_neg cv
    refine pL (by rw[decide_eq_false (fun z=>cv ((yC lu1).mp z))];rfl) ?_;have hk:fB st (c1 .rows [t])=.ok (st,[1,es.length]):=by rw[hk,hmade,<-hfar];rfl
    refine⟨_,rfl,q1,_,rfl,.inl (hJ.of ((sm.trans s2) _ _ hq1')),(by show 2<=aU;decide),fun D hD=>?_⟩;refine(k.ok hk).look hs (s12.trans (bA.upd hD)) (dX.fresh s12 hD) ?_;rw[aH,hl1];rfl
end My
end
section
namespace My
open Vatwva (Text Name)
open Vatwvc (Edit State)
noncomputable def TC (t:bW):List Int:=t.map fun b=>(b.toNat:Int)
noncomputable def VY (l:List Int):bW:=l.map fun b=>sP b.toNat
noncomputable def pA (k:Nat):Nat:=if k=10 then 2 else if k=2\/k=8\/k=9\/k=11\/k=12\/k=13 then 0 else 1
noncomputable def xX:Nat->List bW->yS
 | 0=>c1 .value
 | 1=>c1 .other
 | 2=>fun _=>.showValue
 | 3=>c1 .edit
 | 4=>c1 .rows
 | 5=>c1 .try_
 | 6=>c1 .back
 | 7=>c1 .cost
 | 8=>fun _=>.diff
 | 9=>fun _=>.meet
 | 10=>fun ts=>.commute (ts.getD 0 []) (ts.getD 1 [])
 | 11=>fun _=>.undo
 | 12=>fun _=>.redo
 | _=>fun _=>.size
structure AS (c:List (List Int)) (k:Nat) (ts:List bW):Prop where
 eq:c=[(k:Int)]::ts.map TC
 lt:k < 14
 len:ts.length=pA k
 small:∀t∈ts,t.length<=6000
 of:zM c=some (xX k ts)
theorem B2 (h:kN z 8=true):0<=z/\z < 256:=by unfold kN at h;rw[aE,decide_eq_true_iff,decide_eq_true_iff]at h;exact⟨h.1,h.2⟩
theorem IP {t:List Int} (h:t.all (fun(z:Int)=>kN z 8)=true):TC (VY t)=t/\eM t=some (VY t)/\(VY t).length=t.length:=by
 rw[cA]at h;refine⟨?_,?_,aJ _⟩
 ·unfold TC VY;rw[cQ];refine(eQ fun z hz=>?_).trans (oB _);obtain⟨h1,h2⟩:=B2 (h z hz);show(((sP z.toNat).toNat:Nat):Int)=z;rw[UInt8.toNat_ofNat_of_lt' (show z.toNat < 256 by lia)]
  lia
 ·unfold eM;rw[if_pos]
  ·rfl
  ·unfold NeutralIO.bytes;rw[cA];intro z hz;obtain⟨h1,h2⟩:=B2 (h z hz);simp
   lia
theorem wV {k:Nat} {t:List Int} {f:bW->yS} (h:((t.all (fun(z:Int)=>kN z 8)) && decide (t.length<=6000))=true) (hk:k < 14) (ha:pA k=1) (hc:xX k=c1 f)
  (ho:∀u,eM t=some u->zM [[(k:Int)],t]=some (f u)):∃k' ts,AS [[(k:Int)],t] k' ts:=by
 rw[aE,decide_eq_true_iff]at h;obtain⟨b1,b2,b3⟩:=IP h.1;refine⟨k,[VY t],by rw[aP,b1];rfl,hk,by rw[ha];rfl,fun u hu=>?_,?_⟩
 ·obtain rfl:=bU.mp hu;rw[b3];exact h.2
 ·rw[ho _ b2,hc];rfl
theorem zQ {k:Nat} {f:yS} (hk:k < 14) (ha:pA k=0) (ho:zM [[(k:Int)]]=some (xX k [])):∃k' ts,AS [[(k:Int)]] k' ts:=⟨k,[],rfl,hk,(by rw[ha];rfl),(fun u hu=>nomatch hu),ho⟩
theorem Qz {k:Nat} {xs:List (List Int)} (hk:k < 14) (hl:xs.length=pA k) (h:oC ([(k:Int)]::xs)=true):∃k' ts,AS ([(k:Int)]::xs) k' ts:=by
 have o:∀(k:Nat) {xs:List (List Int)},xs.length=1->(∀t,oC ([(k:Int)]::[t])=true->∃k' ts,AS ([(k:Int)]::[t]) k' ts)->oC ([(k:Int)]::xs)=true->∃k' ts,AS ([(k:Int)]::xs) k' ts:=fun k xs e f=>by obtain⟨a,rfl⟩:=Hk.mp e;exact f a
 have n:∀(k:Nat) {xs:List (List Int)},xs.length=0->(∃k' ts,AS [[(k:Int)]] k' ts)->∃k' ts,AS ([(k:Int)]::xs) k' ts:=fun k xs e f=>by obtain rfl:=iW.mp e;exact f
 match k,hk with
 | 0,_=>exact o 0 hl (fun t h=>wV (k:=0) (f:=.value) h (by decide) rfl rfl fun u hu=>by show(eM _).map _=_;rw[hu];rfl) h
 | 1,_=>exact o 1 hl (fun t h=>wV (k:=1) (f:=.other) h (by decide) rfl rfl fun u hu=>by show(eM _).map _=_;rw[hu];rfl) h
 | 2,_=>exact n 2 hl (zQ (k:=2) (f:=.showValue) (by decide) rfl rfl)
 | 3,_=>exact o 3 hl (fun t h=>wV (k:=3) (f:=.edit) h (by decide) rfl rfl fun u hu=>by show(eM _).map _=_;rw[hu];rfl) h
 | 4,_=>exact o 4 hl (fun t h=>wV (k:=4) (f:=.rows) h (by decide) rfl rfl fun u hu=>by show(eM _).map _=_;rw[hu];rfl) h
 | 5,_=>exact o 5 hl (fun t h=>wV (k:=5) (f:=.try_) h (by decide) rfl rfl fun u hu=>by show(eM _).map _=_;rw[hu];rfl) h
 | 6,_=>exact o 6 hl (fun t h=>wV (k:=6) (f:=.back) h (by decide) rfl rfl fun u hu=>by show(eM _).map _=_;rw[hu];rfl) h
 | 7,_=>exact o 7 hl (fun t h=>wV (k:=7) (f:=.cost) h (by decide) rfl rfl fun u hu=>by show(eM _).map _=_;rw[hu];rfl) h
 | 8,_=>exact n 8 hl (zQ (k:=8) (f:=.diff) (by decide) rfl rfl)
 | 9,_=>exact n 9 hl (zQ (k:=9) (f:=.meet) (by decide) rfl rfl)
 | 10,_=>
  match xs,hl,h with
  | [t,u],_,h=>
   have h:((t.all (fun(z:Int)=>kN z 8) && decide (t.length<=6000)) && (u.all (fun(z:Int)=>kN z 8) && decide (u.length<=6000)))=true:=h;rw[aE,aE,aE,decide_eq_true_iff,decide_eq_true_iff]at h;obtain⟨b1,b2,b3⟩:=IP h.1.1;obtain⟨d1,d2,d3⟩:=IP h.2.1;refine⟨10,[VY t,VY u],by rw[aP,aP,b1,d1];rfl,by decide,rfl,fun z hz=>?_,?_⟩
   ·rcases aS.mp hz with rfl | hz
    ·rw[b3];exact h.1.2
    ·obtain rfl:=bU.mp hz;rw[d3];exact h.2.2
   ·show((eM t).bind fun x=>(eM u).map fun y=>Vatwvc.Call.commute x y)=_;rw[b2,d2];rfl
 | 11,_=>exact n 11 hl (zQ (k:=11) (f:=.undo) (by decide) rfl rfl)
 | 12,_=>exact n 12 hl (zQ (k:=12) (f:=.redo) (by decide) rfl rfl)
 | 13,_=>exact n 13 hl (zQ (k:=13) (f:=.size) (by decide) rfl rfl)
theorem Tj:∀k:Nat,k < 14->dI (k:Int)=some (0,pA k):=by decide
theorem Nv (h:FE dI (p::r)=some (c,t)) (hc:AS c k ts):p=(k:Int)/\kZ (pA k) r=some (ts.map TC,t):=by
 have h:(match dI p with
  | none=>none
  | some (n,k)=>if r.length < n then none else match kZ k (r.drop n)with
   | none=>none
   | some (xs,t)=>some ((p::r.take n)::xs,t))=some (c,t):=h
 cases hs:dI p with
 | none=>rw[hs]at h;cases h
 | some nm=>
  obtain⟨n,m⟩:=nm;rw[hs]at h;dsimp only at h;split at h
  ·cases h
  ·cases hr:kZ m (r.drop n)with
   | none=>rw[hr]at h;cases h
   | some xt=>obtain⟨xs,t'⟩:=xt;rw[hr]at h;cases h;have e:=hc.eq;rw[dE]at e;have ep:=(iU e.1).1;subst ep;rw[Tj k hc.lt]at hs;cases hs;exact⟨rfl,by rw[<-e.2];exact hr⟩
theorem ZO (h:kZ (k+1) r=some (xs,t)):∃(n:Nat) (r':List Int) (ys:List (List Int)),r=(n:Int)::r'/\n<=r'.length/\xs=r'.take n::ys/\kZ k (r'.drop n)=some (ys,t):=by
 have h:(match PyFlat.row r with
  | none=>none
  | some (x,s)=>match kZ k s with
   | none=>none
   | some (xs,t)=>some (x::xs,t))=some (xs,t):=h
 cases r with
 | nil=>cases h
 | cons z r'=>
  have hrow:PyFlat.row (z::r')=if 0<=z/\z.toNat<=r'.length then some (r'.take z.toNat,r'.drop z.toNat)else none:=rfl
  by_cases c:0<=z/\z.toNat<=r'.length
  ·rw[hrow,if_pos c]at h;dsimp only at h;cases hr:kZ k (r'.drop z.toNat)with
   | none=>rw[hr]at h;cases h
   | some xt=>obtain⟨ys,t'⟩:=xt;rw[hr]at h;cases h;exact⟨z.toNat,r',ys,by rw[Int.toNat_of_nonneg c.1],c.2,rfl,hr⟩
  ·rw[hrow,if_neg c]at h;cases h
theorem ZP (h:kZ 0 r=some (xs,t)):xs=[]/\t=r:=by cases h;exact⟨rfl,rfl⟩
theorem SD (h:lY dI f (p::r)=some cs):∃f' c t cs',FE dI (p::r)=some (c,t)/\lY dI f' t=some cs'/\cs=c::cs':=by
 cases f with
 | zero=>cases h
 | succ f=>
  have h:(match FE dI (p::r)with
   | none=>none
   | some (c,t)=>match lY dI f t with
    | none=>none
    | some cs=>some (c::cs))=some cs:=h
  cases hc:FE dI (p::r)with
  | none=>rw[hc]at h;cases h
  | some ct=>
   obtain⟨c,t⟩:=ct;rw[hc]at h;dsimp only at h;cases hs:lY dI f t with
   | none=>rw[hs]at h;cases h
   | some cs'=>rw[hs]at h;cases h;exact⟨f,c,t,cs',rfl,hs,rfl⟩
theorem YH (h:lY dI f []=some cs):cs=[]:=by cases f<;>cases h<;>rfl
theorem Pg (h:dI p=some (n,m)):∃k:Nat,k < 14/\p=(k:Int)/\n=0/\m=pA k:=by
 unfold dI at h
 have z:∀{k a b:Nat} {q:Int},k < 14->q=(k:Int)->pA k=b->some (0,b)=some (n,m)->∃k:Nat,k < 14/\q=(k:Int)/\n=0/\m=pA k:=fun hk e ha he=>by
  cases he;exact⟨_,hk,e,rfl,ha.symm⟩
 by_cases c0:p=0
 ·rw[if_pos c0]at h;exact z (a:=0) (k:=0) (by decide) c0 rfl h
 rw[if_neg c0]at h
 by_cases c1:p=1
 ·rw[if_pos c1]at h;exact z (a:=0) (k:=1) (by decide) c1 rfl h
 rw[if_neg c1]at h
 by_cases c2:p=2
 ·rw[if_pos c2]at h;exact z (a:=0) (k:=2) (by decide) c2 rfl h
 rw[if_neg c2]at h
 by_cases c3:p=3
 ·rw[if_pos c3]at h;exact z (a:=0) (k:=3) (by decide) c3 rfl h
 rw[if_neg c3]at h
 by_cases c4:p=4
 ·rw[if_pos c4]at h;exact z (a:=0) (k:=4) (by decide) c4 rfl h
 rw[if_neg c4]at h
 by_cases c5:p=5
 ·rw[if_pos c5]at h;exact z (a:=0) (k:=5) (by decide) c5 rfl h
 rw[if_neg c5]at h
 by_cases c6:p=6
 ·rw[if_pos c6]at h;exact z (a:=0) (k:=6) (by decide) c6 rfl h
 rw[if_neg c6]at h
 by_cases c7:p=7
 ·rw[if_pos c7]at h;exact z (a:=0) (k:=7) (by decide) c7 rfl h
 rw[if_neg c7]at h
 by_cases c8:p=8
 ·rw[if_pos c8]at h;exact z (a:=0) (k:=8) (by decide) c8 rfl h
 rw[if_neg c8]at h
 by_cases c9:p=9
 ·rw[if_pos c9]at h;exact z (a:=0) (k:=9) (by decide) c9 rfl h
 rw[if_neg c9]at h
 by_cases c10:p=10
 ·rw[if_pos c10]at h;exact z (a:=0) (k:=10) (by decide) c10 rfl h
 rw[if_neg c10]at h
 by_cases c11:p=11
 ·rw[if_pos c11]at h;exact z (a:=0) (k:=11) (by decide) c11 rfl h
 rw[if_neg c11]at h
 by_cases c12:p=12
 ·rw[if_pos c12]at h;exact z (a:=0) (k:=12) (by decide) c12 rfl h
 rw[if_neg c12]at h
 by_cases c13:p=13
 ·rw[if_pos c13]at h;exact z (a:=0) (k:=13) (by decide) c13 rfl h
 rw[if_neg c13]at h
 cases h
theorem Wf:∀{k:Nat} {xs:List (List Int)},k < 14->xs.length=pA k->pC ([(k:Int)]::xs)=[(k:Int)]::xs:=by
 have o:∀(k:Nat) {xs:List (List Int)},xs.length=1->(∀a,pC ([(k:Int)]::[a])=[(k:Int)]::[a])->pC ([(k:Int)]::xs)=[(k:Int)]::xs:=fun k xs h f=>by obtain⟨a,rfl⟩:=Hk.mp h;exact f a
 have n:∀(k:Nat) {xs:List (List Int)},xs.length=0->pC [[(k:Int)]]=[[(k:Int)]]->pC ([(k:Int)]::xs)=[(k:Int)]::xs:=fun k xs h f=>by obtain rfl:=iW.mp h;exact f
 intro k xs hk hl
 match k,hk with
 | 0,_=>exact o 0 hl fun _=>rfl
 | 1,_=>exact o 1 hl fun _=>rfl
 | 2,_=>exact n 2 hl rfl
 | 3,_=>exact o 3 hl fun _=>rfl
 | 4,_=>exact o 4 hl fun _=>rfl
 | 5,_=>exact o 5 hl fun _=>rfl
 | 6,_=>exact o 6 hl fun _=>rfl
 | 7,_=>exact o 7 hl fun _=>rfl
 | 8,_=>exact n 8 hl rfl
 | 9,_=>exact n 9 hl rfl
 | 10,_=>
  match xs,hl with
  | [_,_],_=>rfl
 | 11,_=>exact n 11 hl rfl
 | 12,_=>exact n 12 hl rfl
 | 13,_=>exact n 13 hl rfl
theorem Gm:∀{m:Nat} {r:List Int} {xs:List (List Int)} {t:List Int},kZ m r=some (xs,t)->xs.length=m
 | 0,_,_,_,h=>by rw[(ZP h).1];rfl
 | m+1,_,_,_,h=>by obtain⟨_,_,ys,_,_,rfl,h'⟩:=ZO h;rw[aK,Gm h']
theorem SB (h:FE dI (p::r)=some (c,t)):∃(k:Nat) (xs:List (List Int)),k < 14/\c=[(k:Int)]::xs/\xs.length=pA k:=by
 have h:(match dI p with
  | none=>none
  | some (n,k)=>if r.length < n then none else match kZ k (r.drop n)with
   | none=>none
   | some (xs,t)=>some ((p::r.take n)::xs,t))=some (c,t):=h
 cases hs:dI p with
 | none=>rw[hs]at h;cases h
 | some nm=>
  obtain⟨n,m⟩:=nm;rw[hs]at h;obtain⟨k,hk,rfl,rfl,rfl⟩:=Pg hs;dsimp only at h;rw[if_neg (Nat.not_lt_zero _)]at h;cases hr:kZ (pA k) (r.drop 0)with
  | none=>rw[hr]at h;cases h
  | some xt=>obtain⟨xs,t'⟩:=xt;rw[hr]at h;cases h;exact⟨k,xs,hk,rfl,Gm hr⟩
theorem OF:∀(cs:List (List (List Int))) {f:Nat} {l:List Int},lY dI f l=some cs->∀c∈cs,∃(k:Nat) (xs:List (List Int)),k < 14/\c=[(k:Int)]::xs/\xs.length=pA k
 | c::cs,f,l,h,x,hx=>by
  cases l with
  | nil=>cases YH h
  | cons p r=>
   obtain⟨f',c',t,cs',h1,h2,e⟩:=SD h;cases e;rcases aS.mp hx with rfl | hx
   ·exact SB h1
   ·exact OF cs h2 x hx
theorem Hf (cs:List (List (List Int))) (h:lY dI f l=some cs):cs.map pC=cs:=(eQ fun c hc=>by obtain⟨k,xs,hk,rfl,hl⟩:=OF cs h c hc;exact Wf hk hl).trans (oB _)
theorem Vz (hc:AS c k ts) (st:QU):iB st c=((nQ st (xX k ts)).1,zN (nQ st (xX k ts)).2):=by unfold iB;rw[hc.of]
theorem jD (h:fD x n f=.error m):m=n\/∃a,f a=.error m:=by
 cases x with
 | none=>cases h;exact .inl rfl
 | some a=>exact .inr ⟨a,h⟩
theorem Rj (h:fB st c=.error m):m=1\/m=5\/m=9:=by
 cases c with
 | value t=>rcases jD h with z | ⟨a,z⟩;exact .inl z;cases z
 | other t=>rcases jD h with z | ⟨a,z⟩;exact .inl z;cases z
 | showValue=>cases h
 | edit t=>
  rcases jD h with z | ⟨a,z⟩
  ·exact .inl z
  ·rcases jD z with z | ⟨a,z⟩;exact .inr (.inl z);cases z
 | rows t=>
  rcases jD h with z | ⟨a,z⟩
  ·exact .inl z
  ·split at z
   ·rcases jD z with z | ⟨a,z⟩;exact .inr (.inl z);cases z
   ·cases z
 | try_ t=>
  rcases jD h with z | ⟨a,z⟩
  ·exact .inl z
  ·split at z<;>cases z
 | back t=>
  rcases jD h with z | ⟨a,z⟩
  ·exact .inl z
  ·split at z
   ·cases z
   ·cases z;exact .inr (.inl rfl)
 | cost t=>rcases jD h with z | ⟨a,z⟩;exact .inl z;cases z
 | diff=>cases h
 | meet=>rcases jD h with z | ⟨a,z⟩;exact .inr (.inl z);cases z
 | commute t u=>
  rcases jD h with z | ⟨a,z⟩
  ·exact .inl z
  ·rcases jD z with z | ⟨a,z⟩
   ·exact .inl z
   ·split at z<;>cases z
 | undo=>
  rcases jD h with z | ⟨a,z⟩
  ·exact .inr (.inr z)
  ·rcases jD z with z | ⟨a,z⟩;exact .inr (.inr z);cases z
 | redo=>
  rcases jD h with z | ⟨a,z⟩
  ·exact .inr (.inr z)
  ·rcases jD z with z | ⟨a,z⟩;exact .inr (.inr z);cases z
 | size=>cases h
end My
end
section
namespace My
open PySem PySem.Spec PyProof.Rows L2
open PySem.W (Frag)
open Vatwva (Text Name)
open Vatwvc (Edit State Found cheaper andThen)
open VM (cG jY kG jJ uO kR LR dJ cU rG QI rN OX oX uP pR qN wF gT CL MM VC nB)
variable {P:Program} {w:World} {K:Frag} {mg:Str->Option Value} {base:Heap} {a:mF}
noncomputable def Ea:List Str:=["answer_value","answer_other","answer_show","answer_edit","answer_rows","answer_try","answer_back","answer_cost","answer_diff","answer_meet","answer_commute","answer_undo","answer_redo","answer_size"]
structure RS (P:dF) (w:eW) (K:aB) (mg:Str->Option Value) (a:mF):Prop where
 ne1:a.xInapplicable≠a.xUnreadable
 ne2:a.xNoDeed≠a.xUnreadable
 ne3:a.xNoDeed≠a.xInapplicable
 tab:∃kvs,xW P w K a.dCALLS kvs/\∀k:Nat,k < 14->∃t f,qP kvs (.inl (k:Int))=some (.ref t)/\(∀H:Hp,fK K H t [.ref f,.int (pA k:Nat)])/\mg (Ea.getD k "")=some (.ref f)
theorem Uc (T:iM K mg a) (B:sO P w K mg a):∀k,k < 14->mg (Ea.getD k "")=some (.ref f)->Ua P w K mg base 31 (.ref f) (qO a K (pA k) (xX k))
 | 0,_,h=>gY.fnv ((QN T).mono (by decide)) h
 | 1,_,h=>gY.fnv ((QM T).mono (by decide)) h
 | 2,_,h=>gY.fnv ((UK T).mono (by decide)) h
 | 3,_,h=>gY.fnv ((UG T B).mono (by decide)) h
 | 4,_,h=>gY.fnv ((UJ T B).mono (by decide)) h
 | 5,_,h=>gY.fnv ((XD T B).mono (by decide)) h
 | 6,_,h=>gY.fnv ((UD T B).mono (by decide)) h
 | 7,_,h=>gY.fnv ((UE T B).mono (by decide)) h
 | 8,_,h=>gY.fnv ((UF T B).mono (by decide)) h
 | 9,_,h=>gY.fnv ((UH T B).mono (by decide)) h
 | 10,_,h=>gY.fnv ((LF T B).mono (by decide)) h
 | 11,_,h=>gY.fnv ((UM T).mono (by decide)) h
 | 12,_,h=>gY.fnv ((UI T).mono (by decide)) h
 | 13,_,h=>gY.fnv ((UL T).mono (by decide)) h
 | _+14,hk,_=>absurd hk (by lia)
def Wx (a:mF) (K:aB) (H:Hp) (p lu lr:aQ) (n:Nat) (x:QU×Vatwvc.Answer) (Q:VK):Prop:=∀H' D lu' lr',zO a K H' p lu' lr' (n+1) x.1->Mv p lu lr H H'->(lu'=lu\/H lu'=none)->(lr'=lr\/H lr'=none)->H D=none->D≠lu'->D≠lr'->H' D=some (.lst ((zN x.2).map V.int))->Q (.ref D) H'
inductive LU (a:mF) (K:aB) (vs:List V) (H:Hp) (Q:VK) (E:XK):Prop
 | mk (p tl lu lr:aQ) (n:Nat) (st:QU) (k:Nat) (qs:List V) (ts:List bW):vs=[.ref p,.int (k:Nat),.ref tl]->zO a K H p lu lr n st->n<=10000->H tl=some (.lst qs)->Aw H qs ts->k < 14->ts.length=pA k->(∀t∈ts,t.length<=6000)->Wx a K H p lu lr n (nQ st (xX k ts)) Q->LU a K vs H Q E
theorem Bt (T:iM K mg a) (B:sO P w K mg a) (C:RS P w K mg a):gY P w K mg base 32 "answer_of" ["desk","number","texts"] (LU a K):=by
 refine kL T.f_answer_of ["desk","number","texts","answering"] fun vs H Q E h=>?_;obtain⟨p,tl,lu,lr,n,st,k,qs,ts,rfl,hs,hn,htl,hts,hk,hl,hb,kk⟩:=h;refine⟨rfl,fun nd _ _ _ _ _ hr=>?_⟩;intro X;refine⟨_,aI (cM (i:=3) nd rfl (bP rfl) (fN fV (BO (dN (v:=.ref a.dCALLS) (by rfl) T.d_CALLS rfl) (pv 1) (fun _ _=>rfl)) cB (fun _ _=>rfl))) (aN (Mf ⟨rfl,rfl,rfl⟩ (Vq (Ta (k:=31) ⟨rfl,rfl,rfl⟩ hr (pv 3) (aA (pv 0) (aA (pv 2) aD)))) (FY ⟨rfl,rfl,rfl⟩ rfl T.x_Unreadable.1 T.x_Unreadable.2 (fun e=>aN (bH (eL (aA (OU EY cB) aD)))) (FY ⟨rfl,rfl,rfl⟩ rfl T.x_Inapplicable.1 T.x_Inapplicable.2 (fun e=>aN (bH (eL (aA (OU EY cB) aD)))) (FY ⟨rfl,rfl,rfl⟩ rfl T.x_NoDeed.1 T.x_NoDeed.2 (fun e=>aN (bH (eL (aA (OU EY cB) aD)))) Cj))))),?_⟩;obtain⟨kvs,kd,tab⟩:=C.tab;obtain⟨t,fa,hval,htup,hmg⟩:=tab k hk;have hfn:=Uc (base:=base) T B k hk hmg;obtain⟨us,rs,hd,_⟩:=hs.ex;obtain⟨dx,x,y,xs,ys,h1,h2,h3,_⟩:=hd.ex;have refuse:∀(m:Nat),fB st (xX k ts)=.error m->∀H' D,bA H H'->H' D=none->Q (.ref D) (upd H' D (.lst [.int (-(m:Int))])):=fun m hm H' D sm hD=>by
  have e:nQ st (xX k ts)=(st,.refused m):=by unfold nQ;rw[hm]
  rw[e]at kk;have hDH:=dX.fresh sm hD;exact kk _ D lu lr ((hs.same (sm.trans (bA.upd hD))).up (wB _)) (Lz (sm.trans (bA.upd hD))) (.inl rfl) (.inl rfl) hDH (fun z=>by rw[z,h2]at hDH;cases hDH) (fun z=>by rw[z,h3]at hDH;cases hDH) aH
 refine⟨_,rfl,_,kvs,.inl (k:Int),.ref t,rfl,kd,rfl,hval,t,_,_,_,rfl,rfl,htup H,gC (j:=0) rfl,?_⟩;refine⟨_,rfl,_,⟨hfn⟩,_,rfl,_,rfl,p,tl,lu,lr,n,st,qs,ts,rfl,hs,hn,htl,hts,hl,hb,?_⟩;cases qd:fB st (xX k ts)with
 | ok x=>
  have e:nQ st (xX k ts)=(x.1,.told x.2):=by unfold nQ;rw[qd]
  rw[e]at kk;exact fun H' D lu' lr' a1 a2 a3 a4 a5 a6 a7 a8=>kk H' D lu' lr' a1 a2 a3 a4 a5 a6 a7 a8
 | error m=>
  intro H' sm;rcases Rj qd with rfl | rfl | rfl
  ·exact⟨_,rfl,T.x_Unreadable.2,fun _=>⟨_,rfl,(by show 1<=aU;decide),fun D hD=>refuse 1 qd H' D sm hD⟩,fun z=>absurd rfl z⟩
  ·exact⟨_,rfl,T.x_Inapplicable.2,fun z=>absurd z C.ne1,fun _=>⟨fun _=>⟨_,rfl,(by show 1<=aU;decide),fun D hD=>refuse 5 qd H' D sm hD⟩,fun z=>absurd rfl z⟩⟩
  ·exact⟨_,rfl,T.x_NoDeed.2,fun z=>absurd z C.ne2,fun _=>⟨fun z=>absurd z C.ne3,fun _=>⟨fun _=>⟨_,rfl,(by show 1<=aU;decide),fun D hD=>refuse 9 qd H' D sm hD⟩,fun z=>absurd rfl z⟩⟩⟩
inductive Cu (K:aB) (vs:List V) (H:Hp) (Q:VK) (E:XK):Prop
 | mk (a:aQ) (ns:List Int):vs=[.ref a]->hJ K H a (ns.map V.int)->XV ns=true->(∀(H':Hp) (p:aQ),H' p=some (.lst ((tW ns).map V.int))->Q (.ref p) H')->Cu K vs H Q E
theorem Ui (xs:List V) (i n:Nat) (h:i+n<=xs.length):CT xs (some (i:Int)) (some ((i+n:Nat):Int))=(xs.drop i).take n:=by unfold CT;rw[HT.RG,HT.RG,FD h,FD (bI (RM i n) h),Nat.add_sub_cancel_left]
theorem Iv (t:bW):cV t=(TC t).map V.int:=by unfold cV TC;rw[cQ];rfl
theorem zO.updl {H:Hp} {p lu lr G:aQ} {n:Nat} {st:QU} {xs ys:List V} (hG:H G=some (.lst xs)) (n1:G≠lu) (n2:G≠lr) (h:zO a K H p lu lr n st):zO a K (upd H G (.lst ys)) p lu lr n st:=by obtain⟨us,rs,hd,g2,g3,g4,g5⟩:=h.ex;obtain⟨dx,x,y,xs',ys',h1,h2',h3,h4,h5,h6,h7,h8⟩:=hd.ex;have tu:=oU (ys:=ys) hG;exact⟨⟨us,rs,⟨dx,x,y,xs',ys',by rw[bL (kK h1 hG (by intro z;cases z))];exact h1,by rw[bL n1.symm];exact h2',by rw[bL n2.symm];exact h3,h4,h5.tups tu,h6.tups tu,h7.tups tu,h8.tups tu⟩,g2,g3,g4,g5⟩,h.vv,h.vo⟩
inductive Ww (a:mF) (K:aB) (H:Hp) (cl:aQ) (ns:List Int) (m:Nat) (σ:L2.St) (H':Hp):Prop
 | mk (p lu lr G:aQ) (pl n f:Nat) (st:QU) (cs:List (List (List Int))) (gs:List Int) (s4 s5 s6 s7 s8:Option V):σ=[some (.ref cl),some (.ref p),some (.ref G),some (.int ((pl:Nat):Int)),s4,s5,s6,s7,s8]->bA H H'->zO a K H' p lu lr n st->G≠lu->G≠lr->(H p=none/\H lu=none/\H lr=none/\H G=none)->H' G=some (.lst (gs.map V.int))->lY dI f (ns.drop pl)=some cs->(∀c∈cs,oC c=true)->tW ns=gs++yM (zH iB st cs)->n+cs.length<=60->m=cs.length->Ww a K H cl ns m σ H'
theorem Jf (T:iM K mg a) (B:sO P w K mg a) (C:RS P w K mg a) (F:Ih K "answers" "answers" (top 138) f fd):vU P w K mg base (WV P w) 33 f fd ["calls"] (Cu K):=by
 refine F.okY (N:=["calls","desk","given","place","number","texts","count","start","answer"]) (IQ (by decide+kernel)).1 fun vs H Q E h=>?_;obtain⟨cl,ns,rfl,hcl,hask,k⟩:=h;refine⟨rfl,fun nd _ _ _ _ _ hr=>?_⟩;intro X;refine⟨_,aI (cM (i:=1) nd rfl (bP rfl) (Vm (Vf T B) T.k_Desk hr.m ⟨rfl,rfl,rfl⟩)) (aI (cM (i:=2) nd rfl (bP rfl) (eL aD)) (aI (cM (i:=3) nd rfl (bP rfl) cB) (aI (AD (gK ⟨rfl,rfl,rfl⟩) (dB OT (pv 3) (cY cW rfl T.n_len cE (aA (pv 0) aD)) (dL _)) (aI (cM (i:=4) nd rfl (bP rfl) (fN rD (pv 0) (pv 3) (fun _ _=>rfl))) (aI (Sz (i:=3) nd rfl (bP rfl) cB Rx) (aI (cM (i:=5) nd rfl (bP rfl) (eL aD)) (aI (pP (gK ⟨rfl,rfl,rfl⟩) rfl (Oy (by rfl) T.n_range (aA (fN fV (BO (dN (v:=.ref a.dCALLS) (by rfl) T.d_CALLS rfl) (pv 4) (fun _ _=>rfl)) cB (fun _ _=>rfl)) aD)) (fC (i:=6) nd rfl (bP rfl)) (aI (cM (i:=7) nd rfl (bP rfl) (kE uL (pv 3) cB)) (aI (cM (i:=3) nd rfl (bP rfl) (kE uL (pv 7) (fN rD (pv 0) (pv 3) (fun _ _=>rfl)))) (aN (dO (nM bG bR bS gI (pv 5) (aA (xE Vx (pv 0) (yG (pv 7)) (yG (pv 3))) aD))))))) (aI (cM (i:=8) nd rfl (bP rfl) (bC (Bt T B C) hr ⟨rfl,rfl,rfl⟩ (aA (pv 1) (aA (pv 4) (aA (pv 5) aD))))) (aI (dO (nM bG bR bS gI (pv 2) (aA (cY cW rfl T.n_len cE (aA (pv 8) aD)) aD))) (aN (dO (nM bG kF mE AB (pv 2) (aA (pv 8) aD))))))))))) (aN (bH (pv 2)))))),?_⟩;have hask':∃raw,lY dI ns.length ns=some raw/\(∀c∈raw,oC c=true)/\raw.length<=60/\tW ns=yM (zH iB WG raw)/\(tW ns).length<=10000000:=by
  unfold XV at hask;cases hc:lY dI ns.length ns with
  | none=>rw[hc]at hask;cases hask
  | some raw=>rw[hc]at hask;dsimp only at hask;rw[aE,aE,aE,aE]at hask;obtain⟨⟨⟨⟨_,_⟩,_⟩,h4⟩,h5⟩:=hask;have ew:raw.map pC=raw:=Hf raw hc;rw[ew]at h4;unfold VatwvcNeutral.asked at h4;rw[aE,aE,cA,decide_eq_true_iff,decide_eq_true_iff]at h4;refine⟨raw,rfl,h4.1,h4.2.2,?_,of_decide_eq_true h5⟩;unfold tW PyVatwvc.calls;rw[hc];dsimp only;rw[ew]
 obtain⟨raw,hraw,hall,hlen60,hans,hshort⟩:=hask';obtain⟨kvs,kd,tab⟩:=C.tab;have hnl:(ns.map V.int).length=ns.length:=aJ _;refine fun p dx hp hdx ne=>⟨p,dx,rfl,aH,fun H1 lu lr hd keep hlu hlr=>⟨rfl,?_⟩⟩;have s1:bA H H1:=fun b o e=>keep b o (dM e hp) (by rw[bL (dM e hp),bL (dM e hdx)];exact e);have hlu0:H lu=none:=dX.fresh (dC (bA.upd hdx) hp) hlu;have hlr0:H lr=none:=dX.fresh (dC (bA.upd hdx) hp) hlr;refine⟨aY _,fun G hG=>?_⟩;have hGH:=dX.fresh s1 hG;obtain⟨dx1,x1,y1,xs1,ys1,g1,g2,g3,_⟩:=id hd.ex;have vr:Vatwva.isValue (Vatwva.vRec .nil)=true:=by decide
 refine⟨Ww a K H cl ns,⟨raw.length,p,lu,lr,G,0,0,ns.length,WG,raw,[],none,none,none,none,none,rfl,s1.trans (bA.upd hG),⟨⟨[],[],hd.same (bA.upd hG),.nil _,.nil _,aR _,aR _⟩,vr,vr⟩,(fun z=>by rw[z,g2]at hG;cases hG),(fun z=>by rw[z,g3]at hG;cases hG),⟨hp,hlu0,hlr0,hGH⟩,aH,hraw,hall,hans,by lia,rfl⟩,?_⟩;clear hraw hall hans hlen60 g1 g2 g3 s1 hlu0 hlr0 hGH hlu hlr hp hdx ne hG keep hd;rintro m σ H' ⟨p,lu,lr,G,pl,n,f,st,cs,gs,s4,s5,s6,s7,s8,rfl,sm,hst,nG1,nG2,⟨hp,hlu,hlr,hGH⟩,hG,hcs,hall,hans,hn,rfl⟩;have hcl':hJ K H' cl (ns.map V.int):=bA.sqL sm hcl;refine⟨_,rfl,_,rfl,cl,_,rfl,.inl hcl',_,_,rfl,rfl,_,rfl,?_⟩;rw[hnl];by_cases hpl:pl < ns.length
 ·refine pL (decide_eq_true (by lia)) ?_;have hdr:ns.drop pl=ns[pl]::ns.drop (pl+1):=bM hpl;rw[hdr]at hcs;obtain⟨f',c,t,cs',hcall,hcs',rfl⟩:=SD hcs;obtain⟨k0,xs0,hk0,ec0,hl0⟩:=SB hcall;obtain⟨kn,ts,hc⟩:=Qz hk0 hl0 (ec0▸hall c aM);rw[<-ec0]at hc;obtain⟨ep,hrows⟩:=Nv hcall hc;obtain⟨t1,fa,hval,htup,hmg⟩:=tab kn hc.lt;refine⟨Ww a K H cl ns cs'.length,fun σ' H'' h=>⟨cs'.length,lI _,h⟩,?_⟩;have hget:(ns.map V.int)[pl]?=some (.int ((kn:Nat):Int)):=by rw[bX,bD hpl,ep];rfl
  refine⟨_,rfl,_,rfl,cl,_,_,_,rfl,rfl,hcl',gC hget,?_⟩;refine⟨_,rfl,_,_,rfl,rfl,?_⟩;refine⟨aY _,fun tl htl=>?_⟩;have hGtl:G≠tl:=dM hG htl;refine⟨_,rfl,_,kvs,.inl (kn:Int),.ref t1,rfl,kd,rfl,hval,t1,_,_,_,rfl,rfl,htup _,gC (j:=1) rfl,_,rfl,by lia,by unfold pA;split<;>(try split)<;>decide,Oe (lo:=0) (n:=pA kn) (fun j σ' H2=>bA H' H2/\∃plj s6 s7 qs,σ'=[some (.ref cl),some (.ref p),some (.ref G),some (.int ((plj:Nat):Int)),some (.int ((kn:Nat):Int)),some (.ref tl),s6,s7,s8]/\H2 tl=some (.lst qs)/\WY H2 tl qs (ts.take j)/\kZ (pA kn - j) (ns.drop plj)=some ((ts.drop j).map TC,t)) ⟨bA.upd htl,pl+1,s6,s7,[],rfl,aH,.nil,hrows⟩ ?_ ?_⟩
  ·rintro j σ' H2 hj ⟨sm2,plj,s6',s7',qs,rfl,htl2,hts2,hrw⟩;have e1:pA kn - j=(pA kn - (j+1))+1:=by lia
   rw[e1]at hrw;obtain⟨nn,r',ys,er,hnn,exs,hrw'⟩:=ZO hrw;have hjl:j < ts.length:=by rw[hc.len];exact hj
   have edr:ts.drop j=ts[j]::ts.drop (j+1):=bM hjl;rw[edr,aP,dE]at exs;have hplj:plj < ns.length:=by
    rcases Nat.lt_or_ge plj ns.length with z | z
    ·exact z
    ·rw[oN z]at er;cases er
   have hdr2:ns.drop plj=ns[plj]::ns.drop (plj+1):=bM hplj;rw[hdr2,dE]at er;obtain⟨er1,er2⟩:=er;have hrl:r'.length=ns.length - (plj+1):=by rw[<-er2,cX]
   have hcl2:=bA.sqL sm2 hcl';have hget2:(ns.map V.int)[plj]?=some (.int ((nn:Nat):Int)):=by rw[bX,bD hplj,er1];rfl
   refine⟨_,rfl,_,_,rfl,rfl,?_⟩;refine⟨_,rfl,_,rfl,_,rfl,cl,_,_,_,rfl,rfl,hcl2,gC hget2,_,_,rfl,rfl,?_⟩;refine⟨_,rfl,.inl ⟨rfl,_,hJ.of htl2⟩,_,rfl,_,rfl,_,rfl,_,rfl,_,rfl,cl,_,rfl,hcl2,fun q hq=>?_⟩;have sq:=bA.upd (o:=.lst (CT (ns.map V.int) (some ((plj:Int)+1)) (some ((plj:Int)+1+(nn:Nat))))) hq;have hqt:q≠tl:=fun z=>by rw[z,htl2]at hq;cases hq
   have ecut:CT (ns.map V.int) (some ((plj:Int)+1)) (some ((plj:Int)+1+(nn:Nat)))=cV ts[j]:=by have:=Ui (ns.map V.int) (plj+1) nn (by rw[hnl];lia);rw[show((plj+1:Nat):Int)=(plj:Int)+1 from rfl,show((plj+1+nn:Nat):Int)=(plj:Int)+1+(nn:Nat)from by lia]at this;rw[this,Iv,exs.1,<-rW,<-rX,er2]
   refine⟨tl,_,_,rfl,rfl,sq _ _ htl2,small (by rw[hts2.length,bK];have:=hc.len;unfold pA at this;split at this<;>(try split at this)<;>lia),?_⟩;refine⟨dC (sm2.trans sq) htl,plj+1+nn,some (.int (0+(j:Nat))),some (.int ((plj:Int)+1)),qs++[.ref q],by rw[WI (plj+1) nn];rfl,aH,?_,?_⟩
   ·rw[jC (bD hjl)];exact Paired.snoc (WY.upd (hts2.same sq)) ⟨q,rfl,hqt,by rw[bL hqt,aH,ecut]⟩
   ·have:pA kn - (j+1)=pA kn - (j+1):=rfl;rw[exs.2,<-hrw'];congr 1;rw[<-er2,List.drop_drop]
  ·rintro σ' H2 ⟨sm2,plj,s6',s7',qs,rfl,htl2,hts2,hrw⟩;rw[mO]at hrw;obtain⟨_,et⟩:=ZP hrw;rw[<-hc.len,cN]at hts2;refine⟨_,rfl,_,rfl,_,rfl,p,tl,lu,lr,n,st,kn,qs,ts,rfl,hst.same sm2,by lia,htl2,hts2.ts,hc.lt,hc.len,hc.small,fun H5 D lu' lr' hs5 m5 e1 e2 eD nD1 nD2 hD5=>?_⟩;have hstep:=Vz hc st;obtain⟨us,rs,hd,_⟩:=hst.ex;obtain⟨dx1,x1,y1,xs1,ys1,g1,g2,g3,_⟩:=hd.ex;have smH2:=sm.trans sm2;have hG2:=sm2 _ _ hG;have nGp:G≠p:=kK hG g1 (by intro z;cases z);have hG5:=m5.1 G _ nGp nG1 nG2 hG2;have nGD:D≠G:=fun z=>by rw[z,hG2]at eD;cases eD
   have nG1':G≠lu':=fun z=>by
    rcases e1 with q | q
    ·exact nG1 (z.trans q)
    ·rw[<-z,hG2]at q;cases q
   have nG2':G≠lr':=fun z=>by
    rcases e2 with q | q
    ·exact nG2 (z.trans q)
    ·rw[<-z,hG2]at q;cases q
   have hlu':H lu'=none:=by
    rcases e1 with q | q
    ·rw[q];exact hlu
    ·exact dX.fresh smH2 q
   have hlr':H lr'=none:=by
    rcases e2 with q | q
    ·rw[q];exact hlr
    ·exact dX.fresh smH2 q
   have smH5:bA H H5:=fun b o e=>m5.1 b o (dM e hp) (dM e hlu) (dM e hlr) (smH2 b o e);generalize hx5:zN (nQ st (xX kn ts)).2=an at hD5 hstep;have htold:yM (zH iB st (c::cs'))=((an.length:Int)::an)++yM (zH iB (nQ st (xX kn ts)).1 cs'):=by show yM ((iB st c).2::zH iB (iB st c).1 cs')=_;rw[hstep];unfold yM;rw[dY]
   rw[htold]at hans;have hlen:=congrArg sQ hans;rw[aC,aC,aK]at hlen;refine⟨_,rfl,.inl ⟨rfl,_,hJ.of hG5⟩,_,rfl,D,_,rfl,.inl (hJ.of hD5),G,_,_,rfl,rfl,hG5,MY (by rw[aJ];lia),?_⟩;refine⟨_,rfl,.inl ⟨rfl,_,hJ.of aH⟩,_,rfl,G,D,_,_,rfl,rfl,aH,by rw[bL nGD];exact hD5,big (by rw[aC,aJ,aJ,cS];lia),?_⟩;refine⟨p,lu',lr',G,plj,n+1,f',(nQ st (xX kn ts)).1,cs',gs++((an.length:Int)::an),_,_,_,_,_,rfl,dC (dC smH5 hGH) hGH,(hs5.updl hG5 nG1' nG2').updl aH nG1' nG2',nG1',nG2',⟨hp,hlu',hlr',hGH⟩,?_,?_,fun c' hc'=>hall c' (aL _ hc'),?_,?_,rfl⟩
   ·rw[aH,aW,aP,aJ,eY];rfl
   ·rw[<-et];exact hcs'
   ·rw[hans,eY]
   ·rw[aK]at hn;lia
 ·refine mV (decide_eq_false (by lia)) ?_;have hdr:ns.drop pl=[]:=oN (by lia);rw[hdr]at hcs;rw[YH hcs]at hans;refine⟨_,rfl,k H' G ?_⟩;rw[hG,hans];show some (HO.lst (gs.map V.int))=some (HO.lst ((gs++[]).map V.int));rw[cI]
theorem Zs (T:iM K mg a) (B:sO P w K mg a) (C:RS P w K mg a) (hmg:mg "answers"=some (.ref fa)):
  ∃fd:tU,(∀(s:aV) (us:List Value),us.length=(["calls"]:List Str).length->WK s fd ⟨us,[]⟩ ((["calls"]:List Str).zip us))/\∀base:gF,K.In base->base.Ns jU mg->vU P w K mg base (WV P w) 40 fa fd ["calls"] (Cu K):=by
 obtain⟨f,fd,hm,F⟩:=T.f_answers;rw[hmg]at hm;cases hm;refine⟨fd,fun s us hl=>?_,fun base _ _=>(Jf T B C F).mono (by decide)⟩;obtain⟨oc,od,kV,doc,pm,an,cdv,ct,osl,rfl,lk,hcd⟩:=F.ex;have h:WO (kO "answers" "answers" (pB (top 138)) (uW (top 138)) (fU (top 138)) .none kV doc pm an cdv ct) ⟨us,[]⟩=pure ((["calls"]:List Str).zip us):=match us,hl with
  | [_],_=>rfl
 exact .of_eq h
theorem Wd (m1:mg "set_here"=some (.ref f1)) (m2:mg "put_here"=some (.ref f2)) (m3:mg "take_here"=some (.ref f3)) (m4:mg "move_here"=some (.ref f4)) (m5:mg "add_here"=some (.ref f5)) (m6:mg "drop_here"=some (.ref f6)) (m7:mg "rename_here"=some (.ref f7)) (kf:xW P w K a.dCHANGES [(.inr "set",.ref f1),(.inr "put",.ref f2),(.inr "take",.ref f3),(.inr "move",.ref f4),(.inr "add",.ref f5),(.inr "drop",.ref f6),(.inr "rename",.ref f7)]) (n1:mg "back_of_set"=some (.ref g1)) (n2:mg "back_of_put"=some (.ref g2)) (n3:mg "back_of_take"=some (.ref g3)) (n4:mg "back_of_move"=some (.ref g4)) (n5:mg "back_of_add"=some (.ref g5)) (n6:mg "back_of_drop"=some (.ref g6)) (n7:mg "back_of_rename"=some (.ref g7)) (kg:xW P w K a.dBACKS [(.inr "set",.ref g1),(.inr "put",.ref g2),(.inr "take",.ref g3),(.inr "move",.ref g4),(.inr "add",.ref g5),(.inr "drop",.ref g6),(.inr "rename",.ref g7)]) (kt:xW P w K a.dFORMS [(.inr "set",.ref t1),(.inr "put",.ref t2),(.inr "take",.ref t3),(.inr "move",.ref t4),(.inr "add",.ref t5),(.inr "drop",.ref t6),(.inr "rename",.ref t7)]) (u1:∀H:Hp,fK K H t1 [.str "value"]) (u2:∀H:Hp,fK K H t2 [.str "place",.str "value"]) (u3:∀H:Hp,fK K H t3 [.str "place"]) (u4:∀H:Hp,fK K H t4 [.str "place",.str "place"]) (u5:∀H:Hp,fK K H t5 [.str "place",.str "name",.str "value"]) (u6:∀H:Hp,fK K H t6 [.str "name"]) (u7:∀H:Hp,fK K H t7 [.str "name",.str "name"]) (e1:∀H:Hp,fK K H a.dEMPTY_RECORD [.str "record",.ref b,.ref c]) (e2:∀H:Hp,fK K H b []) (e3:∀H:Hp,fK K H c []):sO P w K mg a:=⟨⟨f1,f2,f3,f4,f5,f6,f7,⟨m1,m2,m3,m4,m5,m6,m7⟩,kf⟩,⟨g1,g2,g3,g4,g5,g6,g7,⟨n1,n2,n3,n4,n5,n6,n7⟩,kg⟩,⟨t1,t2,t3,t4,t5,t6,t7,fun H=>⟨u1 H,u2 H,u3 H,u4 H,u5 H,u6 H,u7 H⟩,kt⟩,fun H=>(RK (l:=[]) (fun x hx=>by cases hx)).mpr ⟨a.dEMPTY_RECORD,b,c,[],rfl,e1 H,e2 H,e3 H,.nil⟩⟩
theorem Rc (ne1:a.xInapplicable≠a.xUnreadable) (ne2:a.xNoDeed≠a.xUnreadable) (ne3:a.xNoDeed≠a.xInapplicable)
  (kd:xW P w K a.dCALLS [(.inl 0,.ref t0),(.inl 1,.ref t1),(.inl 2,.ref t2),(.inl 3,.ref t3),(.inl 4,.ref t4),(.inl 5,.ref t5),(.inl 6,.ref t6),(.inl 7,.ref t7),(.inl 8,.ref t8),(.inl 9,.ref t9),(.inl 10,.ref t10),(.inl 11,.ref t11),(.inl 12,.ref t12),(.inl 13,.ref t13)])
  (m0:mg "answer_value"=some (.ref f0)) (u0:∀H:Hp,fK K H t0 [.ref f0,.int 1])
  (m1:mg "answer_other"=some (.ref f1)) (u1:∀H:Hp,fK K H t1 [.ref f1,.int 1])
  (m2:mg "answer_show"=some (.ref f2)) (u2:∀H:Hp,fK K H t2 [.ref f2,.int 0])
  (m3:mg "answer_edit"=some (.ref f3)) (u3:∀H:Hp,fK K H t3 [.ref f3,.int 1])
  (m4:mg "answer_rows"=some (.ref f4)) (u4:∀H:Hp,fK K H t4 [.ref f4,.int 1])
  (m5:mg "answer_try"=some (.ref f5)) (u5:∀H:Hp,fK K H t5 [.ref f5,.int 1])
  (m6:mg "answer_back"=some (.ref f6)) (u6:∀H:Hp,fK K H t6 [.ref f6,.int 1])
  (m7:mg "answer_cost"=some (.ref f7)) (u7:∀H:Hp,fK K H t7 [.ref f7,.int 1])
  (m8:mg "answer_diff"=some (.ref f8)) (u8:∀H:Hp,fK K H t8 [.ref f8,.int 0])
  (m9:mg "answer_meet"=some (.ref f9)) (u9:∀H:Hp,fK K H t9 [.ref f9,.int 0])
  (m10:mg "answer_commute"=some (.ref f10)) (u10:∀H:Hp,fK K H t10 [.ref f10,.int 2])
  (m11:mg "answer_undo"=some (.ref f11)) (u11:∀H:Hp,fK K H t11 [.ref f11,.int 0])
  (m12:mg "answer_redo"=some (.ref f12)) (u12:∀H:Hp,fK K H t12 [.ref f12,.int 0])
  (m13:mg "answer_size"=some (.ref f13)) (u13:∀H:Hp,fK K H t13 [.ref f13,.int 0])
  :RS P w K mg a:=⟨ne1,ne2,ne3,_,kd,fun k hk=>match k,hk with
 | 0,_=>⟨t0,f0,rfl,u0,m0⟩
 | 1,_=>⟨t1,f1,rfl,u1,m1⟩
 | 2,_=>⟨t2,f2,rfl,u2,m2⟩
 | 3,_=>⟨t3,f3,rfl,u3,m3⟩
 | 4,_=>⟨t4,f4,rfl,u4,m4⟩
 | 5,_=>⟨t5,f5,rfl,u5,m5⟩
 | 6,_=>⟨t6,f6,rfl,u6,m6⟩
 | 7,_=>⟨t7,f7,rfl,u7,m7⟩
 | 8,_=>⟨t8,f8,rfl,u8,m8⟩
 | 9,_=>⟨t9,f9,rfl,u9,m9⟩
 | 10,_=>⟨t10,f10,rfl,u10,m10⟩
 | 11,_=>⟨t11,f11,rfl,u11,m11⟩
 | 12,_=>⟨t12,f12,rfl,u12,m12⟩
 | 13,_=>⟨t13,f13,rfl,u13,m13⟩
 | _+14,hk=>absurd hk (by lia)⟩
end My
end
namespace PySem.W.Fast
def tw16123684750864254845:=0
def tw2535783248817901116:=0
def tw15294835008485515873:=0
def tw5137049589320487114:=0
def tw6103982775845352571:=0
def tw16750179613723766656:=0
def tw3622775805580260916:=0
def tw5136249724685217718:=0
def tw6393621484309112370:=0
def tw9799834562665604284:=0
def tw8131269292909612590:=0
def tw2714983859418678514:=0
def tw13478020212470188857:=0
def tw9834313633589521149:=0
def tw12244880713801409193:=0
def tw2851821197524197524:=0
def tw3352923742540925050:=0
def tw11297086953499539351:=0
def tw7888429459122836161:=0
def tw5378734241334545633:=0
def tw13917916084323779160:=0
def tw13253531234855203589:=0
def tw9030830889952951037:=0
def tw8625846485963487767:=0
def tw12199001068313901499:=0
def tw11983515473280205014:=0
def tw9233353566852606704:=0
def tw2977639601552543036:=0
def tw10434807443638679310:=0
def tw3607346839583946787:=0
def tw5146299013337944689:=0
def tw2982207498959237975:=0
def tw14819340854361289299:=0
def tw12339994768728820427:=0
def tw13862287419502307035:=0
def tw1110113840027346433:=0
def tw4818766298232071032:=0
def tw8417405676742121571:=0
def tw3623015832651631397:=0
def tw12994327014770655670:=0
def tw13813555279199501617:=0
def tw807791605612072125:=0
def tw14653637052603348536:=0
def tw11446076986212172341:=0
def tw13191606742295730974:=0
def tw7617957175110362601:=0
def tw6407661030171079965:=0
def tw13154181330842708430:=0
def tw2114583813850251637:=0
def tw16028632168478107739:=0
def tw8622314917229919650:=0
def tw9953001654091333169:=0
def tw9518960268035137487:=0
def tw1153411350848921625:=0
def tw1427169566735930194:=0
def tw17758870646995910264:=0
def tw8154257744875930485:=0
def tw12240962925586137766:=0
def tw8183903144245643839:=0
def tw12340158407901017906:=0
def tw6326079212266210343:=0
def tw7512971808975928966:=0
def tw12668765127656357059:=0
def tw11675939056232901933:=0
def tw17743176694463125483:=0
def tw9887278748627564585:=0
def tw18308243025403023246:=0
def tw1316251693539198519:=0
def tw6416124491364000510:=0
def tw49116197187557926:=0
def tw1864888461996071962:=0
def tw8483366785235999455:=0
def tw390694378842353838:=0
def tw3362497975451317587:=0
def tw10238365909654244563:=0
def tw13638195410042859071:=0
def tw6472674683068405250:=0
def tw17206417459010363436:=0
def tw17350674220194596776:=0
def tw16464702796863894176:=0
def tw14088274903440298547:=0
def tw8574681939048206957:=0
def tw12179102624238808660:=0
def tw15260190536189115860:=0
def tw5013623870398055871:=0
def tw3599395282535690188:=0
def tw14885553555286769598:=0
def tw8365698312600717029:=0
def tw7259145885703698704:=0
def tw17557133473097086394:=0
def tw4956477272594392714:=0
def tw16699669023330240332:=0
def tw17906178730819628760:=0
def tw7829289582394569062:=0
def tw10238464792449019532:=0
def tw10550972574399666686:=0
def tw1718284629330131926:=0
def tw18179268549759777625:=0
def tw2372237879093562495:=0
def tw8962828076254019351:=0
def tw15497008495366028431:=0
def tw6278763397090445616:=0
def tw9754952339684888366:=0
def tw14619782090117858054:=0
def tw16781936648208356667:=0
def tw6575254326956127677:=0
def tw588227681785845186:=0
def tw14381938627231376539:=0
def tw6883407607711443772:=0
def tw6007200514167936580:=0
def tw8212280487395973503:=0
def tw12298724497582924423:=0
def tw12984090421785335991:=0
def tw11099945046323075237:=0
def tw9326192415079042024:=0
def tw7088920605742135300:=0
def tw12032730748511875044:=0
def tw2494714616118670229:=0
def tw16403458854883572221:=0
def tw3032494616052832329:=0
def tw10642864563081514835:=0
def tw13450444364203838469:=0
def tw6148080263220445683:=0
def tw105779666460978021:=0
def tw132298128716751965:=0
def tw12168156174945968002:=0
def tw1910845052126720305:=0
def tw9042064680657248597:=0
def tw7213109201933414690:=0
def tw14548107257543683105:=0
def tw15194909480400595602:=0
def tw10160566288970787938:=0
def tw15160970871051365263:=0
def tw4492492236691961637:=0
def tw16115596021916129528:=0
def tw16203863945080972205:=0
def tw11824026229843601813:=0
def tw16357415868317774842:=0
def tw16944054627949416012:=0
def tw11275938386264607185:=0
def tw4005098364475632670:=0
def tw11550611129351818452:=0
def tw4651295115729951513:=0
def tw2375383698349282747:=0
def tw10570491666566770604:=0
def tw8786162184566010564:=0
def tw6823663397641936174:=0
def tw10803241835637194847:=0
def tw12613592846692514782:=0
def tw13951039005557146301:=0
def tw5257606666478816275:=0
def tw1374488743736321911:=0
def tw16121218844458728063:=0
def tw4636135131936891320:=0
def tw16623297875394220586:=0
def tw7882183748420225793:=0
def tw10804432925232302450:=0
def tw14353649899952875733:=0
def tw14452047754896912367:=0
def tw11614678708760984351:=0
def tw146915229575759338:=0
def tw903008465315524125:=0
def tw2698058730104096156:=0
def tw12759913836343724124:=0
def tw18439924001108130883:=0
def tw11633156312717891214:=0
def tw11918352146915774185:=0
def tw11564238973737142714:=0
def tw13975600604533856948:=0
def tw3904316546637899695:=0
def tw4199314156329911405:=0
def tw13637921326047496150:=0
def tw12569654150282537694:=0
def tw6296196842211706066:=0
def tw3218944282426575575:=0
def tw6053131115165140802:=0
def tw7470211129147565609:=0
def tw17394662746045226341:=0
def tw9911190268507137611:=0
def tw2143889319162590844:=0
def tw8824493322664234144:=0
def tw16387135725580121682:=0
def tw8445957066408563476:=0
def tw13249491904076729490:=0
def tw17477676075131153278:=0
def tw17408463618795342804:=0
def tw11609060863221477863:=0
def tw9336511173937482772:=0
def tw10867887325314324928:=0
def tw7269665988653249799:=0
def tw5078030330796501971:=0
def tw5765253076556826018:=0
def tw14917473839784222525:=0
def tw3723981218708782226:=0
def tw8316422495293317056:=0
def tw4449509886469712423:=0
def tw6678409940900644286:=0
def tw6104883859140301568:=0
def tw13938756086727151911:=0
def tw17653146894177108150:=0
def tw2978863199745690951:=0
def tw7623807575430384754:=0
def tw3107422818347181541:=0
def tw2465042839709034178:=0
def tw2456801575729429282:=0
def tw17421703655092894786:=0
def tw6004747364400936226:=0
def tw584139534532608192:=0
def tw85853889789888876:=0
def tw10474138451326907314:=0
def tw1134734006910086959:=0
def tw14829758628501533574:=0
def tw11359194200959804468:=0
def tw11864806649709865971:=0
def tw5945443301654163347:=0
def tw6810598182242666936:=0
def tw137692369913826783:=0
def tw17215232541219090846:=0
def tw3026713536896974241:=0
def tw17811430935738121696:=0
def tw15311619603574417468:=0
def tw14801626588430624588:=0
def tw18112683380986274516:=0
def tw12732486675257755031:=0
def tw5118343328197067688:=0
def tw5821961608923135154:=0
def tw18344458721921292460:=0
def tw6084357974678395030:=0
def tw3678411419728092863:=0
def tw12772255576218807736:=0
def tw16497349634469476296:=0
def tw263368479605081220:=0
def tw2034624664514456118:=0
def tw9987721819778724758:=0
def tw14189401941474860581:=0
def tw16383192044505967505:=0
def tw16921230566593793304:=0
def tw18426523624862689198:=0
def tw16829599035685973938:=0
def tw18090367014157315969:=0
def tw17547692008548095881:=0
def tw17215199047499752826:=0
def tw5922284811821965752:=0
def tw1264018142722083361:=0
def tw5833258462695138244:=0
def tw430742260986085154:=0
def tw1447788459138908428:=0
def tw4868872610941069390:=0
def tw18265293131743054897:=0
def tw8142198917263172145:=0
def tw2207741289001216594:=0
def tw12501485194055212044:=0
def tw11989618635171517824:=0
def tw8379114014072791248:=0
def tw16052450728065433767:=0
def tw9624773504809568996:=0
def tw8658256004109013357:=0
def tw14314855010286796687:=0
def tw3960700348735403616:=0
def tw3987696064491653290:=0
def tw7389791072042483123:=0
def tw18085134987542629836:=0
def tw15762331482229943916:=0
def tw18272171749763800858:=0
def tw14945341814406721400:=0
def tw4588850962867037695:=0
def tw10373113511314243502:=0
def tw1198252858410660161:=0
def tw3636620449267437021:=0
def tw8981324433467479871:=0
def tw17269424773651826048:=0
def tw5809696446673121097:=0
def tw7395444379402862656:=0
def tw3075074910166988237:=0
def tw14228036522623264084:=0
def tw16702201801709371987:=0
def tw12375107678369949354:=0
def tw13863753138159786841:=0
def tw11018380180137252461:=0
def tw16931000412290788612:=0
def tw5083094387751510227:=0
def tw1192954350793850915:=0
def tw12084312179042408899:=0
def tw11288555700085975732:=0
def tw14059220386628357788:=0
def tw11282303674223154066:=0
def tw13821361499497002796:=0
def tw1275624029567047748:=0
def tw10390856636439212508:=0
def tw13404544093351074959:=0
def tw9780595705943611166:=0
def tw5635920854166674696:=0
def tw1286063399032969169:=0
def tw13339311252052288548:=0
def tw3420626758838845948:=0
def tw7936973487699187652:=0
def tw2035830799264826235:=0
def tw1647174474559548525:=0
def tw17115819299250396044:=0
def tw4186915632738002577:=0
def tw14102612063361120553:=0
end PySem.W.Fast
open PySem PySem.W PyProof.Rows
set_option maxHeartbeats 0 in
theorem PySem.Challenge.cw_valueedits_s01_answers_holds : PySem.Challenge.rw_valueedits_s01_answers.Holds := by
 w_on;k_headS;(case hw=>exact⟨[.list [.int 2]],by decide+kernel,by decide+kernel⟩)
 k_fillS
 refine L2.Pt (r:=PySem.Challenge.rw_valueedits_s01_answers) (k:=40) (K:=PySem.Challenge.cw_valueedits_s01_answers_holds.heap_1) (CX:=fun w=>L2.WV PySem.Challenge.rw_valueedits_s01_answers.prog w) (ps:=["calls"]) (sp:=fun w=>My.Cu (PySem.Challenge.cw_valueedits_s01_answers_holds.heap_1 w.params)) (by decide+kernel) rfl rfl ⟨rfl,by decide,by decide⟩ (fun w h Y=>PySem.W.kIn_of Y) ?F ?S (fun _ _ _ _ _ z=>by obtain⟨_,_,_,_,_,_,_,_,_,_,_,_,z⟩:=z;exact z)
 case F=>
  intro w mg fa h Y KX G hmg
  have full:∃a,My.iM (PySem.Challenge.cw_valueedits_s01_answers_holds.heap_1 w.params) mg a/\My.sO PySem.Challenge.rw_valueedits_s01_answers.prog w (PySem.Challenge.cw_valueedits_s01_answers_holds.heap_1 w.params) mg a/\My.RS PySem.Challenge.rw_valueedits_s01_answers.prog w (PySem.Challenge.cw_valueedits_s01_answers_holds.heap_1 w.params) mg a:=by
   refine' ⟨⟨24,37,50,348,499,581,755,56,247,475,696,872⟩,?zzT,?zzB,?zzC⟩
   (case zzT=>
    constructor
    all_goals first
     | (refine' My.Xv KX G ?zze ?zzl ?zzc ?zzk;(case zze=>k_is);(case zzl=>k_is);(case zzc=>k_is);(case zzk=>k_is))
     | (refine' PySem.W.mg_of KX G ?zze;(case zze=>k_is))
     | (refine' My.Xt KX G ?zze;(case zze=>k_is))
     | (refine' My.Xu KX G ?zze ?zzr;(case zze=>k_is);(case zzr=>exact⟨_,rfl⟩))
     | (refine' ⟨PySem.W.mg_of KX G ?zze,?zzq⟩;(case zze=>k_is);(case zzq=>kernel_rfl))
     | (refine' My.Va ?zzq1 ?zzq2 ?zzq3 ?zzq4 ?zzq5;(case zzq1=>k_is);(case zzq2=>k_is);(case zzq3=>k_is);(case zzq4=>k_is);(case zzq5=>k_is))
     | (refine' My.Uz ?zzq1 ?zzq2 ?zzq3 ?zzq4 ?zzq5 ?zzq6 ?zzq7;(case zzq1=>k_is);(case zzq2=>k_is);(case zzq3=>k_is);(case zzq4=>k_is);(case zzq5=>k_is);(case zzq6=>k_is);(case zzq7=>k_is))
     | (unfold L2.nR;k_is)
     | (refine' L2.Dk.mk ?zzq1 ?zzq2 ?zzq3 ?zzq4;(case zzq1=>k_is);(case zzq2=>k_is);(case zzq3=>k_is);(case zzq4=>k_is)))
   (case zzB=>
    refine' My.Wd ?zzm1 ?zzm2 ?zzm3 ?zzm4 ?zzm5 ?zzm6 ?zzm7 ?zzkf ?zzn1 ?zzn2 ?zzn3 ?zzn4 ?zzn5 ?zzn6 ?zzn7 ?zzkg ?zzkt ?zzu1 ?zzu2 ?zzu3 ?zzu4 ?zzu5 ?zzu6 ?zzu7 ?zze1 ?zze2 ?zze3
    all_goals try (refine' PySem.W.mg_of KX G ?zze;(case zze=>k_is))
    (case zzkf=>(refine' L2.KZ ?zzhl ?zzhx ?zzhd ?zzhe ?zzhn ?zznm;(case zzhl=>k_is);(case zzhx=>exact⟨rfl,rfl,rfl⟩);(case zzhd=>rfl);(case zzhe=>repeat first | exact .nil | refine' .cons (L2.FS _ _) rfl rfl ?_);(case zzhn=>decide);(case zznm=>rfl)))
    (case zzkg=>(refine' L2.KZ ?zzhl ?zzhx ?zzhd ?zzhe ?zzhn ?zznm;(case zzhl=>k_is);(case zzhx=>exact⟨rfl,rfl,rfl⟩);(case zzhd=>rfl);(case zzhe=>repeat first | exact .nil | refine' .cons (L2.FS _ _) rfl rfl ?_);(case zzhn=>decide);(case zznm=>rfl)))
    (case zzkt=>(refine' L2.KZ ?zzhl ?zzhx ?zzhd ?zzhe ?zzhn ?zznm;(case zzhl=>k_is);(case zzhx=>exact⟨rfl,rfl,rfl⟩);(case zzhd=>rfl);(case zzhe=>repeat first | exact .nil | refine' .cons (L2.FS _ _) rfl rfl ?_);(case zzhn=>decide);(case zznm=>rfl)))
    (case zze1=>(intro H;refine' L2.Bo ?zzhl ?zzhc ?zzhd ?zzhz ?zzhv _;(case zzhl=>k_is);(case zzhc=>exact⟨rfl,rfl⟩);(case zzhd=>rfl);(case zzhz=>decide);(case zzhv=>first | exact .nil | exact .cons ⟨_,rfl⟩ .nil | exact .cons ⟨_,rfl⟩ (.cons ⟨_,rfl⟩ .nil) | exact .cons rfl (.cons ⟨_,rfl⟩ .nil) | exact .cons ⟨_,rfl⟩ (.cons ⟨_,rfl⟩ (.cons ⟨_,rfl⟩ .nil)) | exact .cons ⟨_,rfl⟩ (.cons rfl (.cons rfl .nil)))))
    all_goals (intro H;refine' L2.Bo ?zzhl ?zzhc ?zzhd ?zzhz ?zzhv _;(case zzhl=>k_is);(case zzhc=>exact⟨rfl,rfl⟩);(case zzhd=>rfl);(case zzhz=>decide);(case zzhv=>first | exact .nil | exact .cons ⟨_,rfl⟩ .nil | exact .cons ⟨_,rfl⟩ (.cons ⟨_,rfl⟩ .nil) | exact .cons rfl (.cons ⟨_,rfl⟩ .nil) | exact .cons ⟨_,rfl⟩ (.cons ⟨_,rfl⟩ (.cons ⟨_,rfl⟩ .nil)) | exact .cons ⟨_,rfl⟩ (.cons rfl (.cons rfl .nil)))))
   (case zzC=>
    refine' My.Rc ?zzy1 ?zzy2 ?zzy3 ?zzkz ?zzx0 ?zzz0 ?zzx1 ?zzz1 ?zzx2 ?zzz2 ?zzx3 ?zzz3 ?zzx4 ?zzz4 ?zzx5 ?zzz5 ?zzx6 ?zzz6 ?zzx7 ?zzz7 ?zzx8 ?zzz8 ?zzx9 ?zzz9 ?zzx10 ?zzz10 ?zzx11 ?zzz11 ?zzx12 ?zzz12 ?zzx13 ?zzz13
    (case zzy1=>decide)
    (case zzy2=>decide)
    (case zzy3=>decide)
    all_goals try (refine' PySem.W.mg_of KX G ?zze;(case zze=>k_is))
    (case zzkz=>(refine' L2.KZ ?zzhl ?zzhx ?zzhd ?zzhe ?zzhn ?zznm;(case zzhl=>k_is);(case zzhx=>exact⟨rfl,rfl,rfl⟩);(case zzhd=>rfl);(case zzhe=>repeat first | exact .nil | refine' .cons (L2.YT _ _) rfl rfl ?_);(case zzhn=>decide);(case zznm=>rfl)))
    all_goals (intro H;refine' L2.Bo ?zzhl ?zzhc ?zzhd ?zzhz ?zzhv _;(case zzhl=>k_is);(case zzhc=>exact⟨rfl,rfl⟩);(case zzhd=>rfl);(case zzhz=>decide);(case zzhv=>first | exact .nil | exact .cons ⟨_,rfl⟩ .nil | exact .cons ⟨_,rfl⟩ (.cons ⟨_,rfl⟩ .nil) | exact .cons rfl (.cons ⟨_,rfl⟩ .nil) | exact .cons ⟨_,rfl⟩ (.cons ⟨_,rfl⟩ (.cons ⟨_,rfl⟩ .nil)) | exact .cons ⟨_,rfl⟩ (.cons rfl (.cons rfl .nil)))))
  obtain⟨a,T,B,C⟩:=full
  exact My.Zs T B C hmg
 case S=>
  intro w H xs a hO hwi hask hx
  cases hx with
  | cons h1 h2=>
   cases h2
   cases h1 with
   | lst hs ha=>
    have e:=L2.Lq a.1 _ ha
    subst e
    exact⟨_,a.1,rfl,hs,hask,fun H' p hp=>.lst (L2.hJ.of hp) (L2.Ll _)⟩
