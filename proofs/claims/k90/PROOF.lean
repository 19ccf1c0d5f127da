import PyProof.Rows.All
import Wide.All
import OpenK.AllK
import Wide.FinOn
import PySem.Challenge.RW_dotscreen_k90_whole_never_lost
import Lean
import PyProof.EqAt
import PyProof.EqKinds
import PyProof.TupleCall
import PyProof.CompFree
import PyProof.StationsW
import PyProof.ExcClass3
import PyProof.Cells
import PyProof.PassesOwn
import PyProof.RangeIter
import PyProof.TableTree
import PyProof.ZipIter
import PyProof.Draws
import PyProof.TupleIter
import PyProof.EnumMake
import PyProof.EnumStmt
import KE.KDictList
import PyProof.Rows.SortWalk
import KE.KRevIter
import PyProof.CollectIter
import KE.KRevSl
import KE.KMinKey
import KE.KLam
import PyProof.DictIter
import PyProof.AttrMiss
import PyProof.IsiH_list
import PyProof.CollectWalk
import KE.KDictOf
import PyProof.DictCopy
import PyProof.FactsAll.tuple_1
import PyProof.FactsAll.dict_3
import PyProof.DictItems
import KE.KIntText
import PyProof.StrBlock2
import PyProof.Rows.StrMul
import PySem.SetOps
import PySem.Builtin.Tuple.Common
import PyProof.Rows.SetFrom
import PyProof.SetRoads
import PyProof.WalksS
import KE.KItemsList
import PySem.Str
import PyProof.StrBlockL
import KE.IntTextText
import KE.IntBitsLaws
import PyProof.FitsBits
import PyProof.Rows.InDataRows
import KE.KNestM
open PySem renaming wpAny_bind->aa,Addr->ae,wpAny_pure->af,wpAny->ag,model->ah,Program->ak,starEach->ao,mainGlobals->au,Scope->az,tupleKind->aA,cellsFrom->aB,wpAny_truthy_bool->aD,wpAny_field->aE,wpAny_holding->aI,compareOp->aJ,wpAny_seqItems->aK,wpAny_mono->aM,wpAny_Call_Name_kw->aN,wpAny_callSpecial?_slot->aO,wpAny_newObj_type->aR,binaryOp->aV,attributeBase->aX,backTo->bf,wpAny_call_entry->bg,swapsWith->bh,wpAny_setField_rec->bj,sysModules->bo,IsPair->bq,wpAny_passesOwn->bu,bootBuiltins->bB,behindInMarks->bC,wpAny_tryCatch->bD,FuncData->bF,keywordEach->bH,codeAny->bI,assignEach->bJ,codeAny_builtin->bO,recursionLimit->bQ,codeAny_call_builtin->bU,Paired->bW,wpAny_standAt->b7,plainId_quiet->b8,letOwnedTupleGo->cu,holding->cx,wpAny_letGo->cz,sliceBounds->cA,ClassData->cC,wpAny_typeOf->cE,wpAny_setField->cF,wpAny_pyIter_enum->cG,wpAny_dictEntries->cH,foldedSetIterable->cJ,codeAny_mono->cO,Keyword->cP,cLine->cT,wpAny_rule->cV,rawInt->cW,pyNext->cX,wpAny_updateSeq_pair->de,sizeLine_eq->df,backToKw->dt,wpAny_execs_nil->dB,IsZip->dG,wpAny_letOwnedTupleGo_enum->dM,tupleKind_room_in1->dN,reduceHash->dQ,wpAny_pyIter_list->eu,storedH->eA,argBest->eE,CmpOp->eF,wpAny_onRaise->eG,wpAny_getItem_list_slice->eI,wpAny_comprehension_free->eJ,assign->eP,wpAny_pyNext_tuple_item->eT,wpAny_pyNext_enum_itemD->eU,wpAny_pyNext_tuple_end->eY,wpAny_pyNext_range_end->eZ,wpAny_pyNext_list_item->e8,wpAny_pyNext_enum_endD->fb,wpAny_pyIter_tupleiter->fg,wpAny_pyIter_rangeiter->fh,wpAny_call->fi,wpAny_Name->fj,IsPart->fq,wpAny_updateSeq->fu,Draws->fE,wpAny_pyNext_list_end->fF,wpAny_notOrdered_dict->fG,wpAny_isTrue_Compare1->fH,builtinLookup_eq_fast->fJ,wpAny_of_eq->fN,wpAny_loadName_local->fO,newFunctionEnv->fP,IsRangeIter->fV,seqItems?->fX,callerA->fZ,PassesOwn->f',DictEntry->gu,wpAny_loadName_free->gw,swappedStores->gB,evalPart_none->gG,wpAny_pyIter_tuple->gL,wpAny_pyIter_range->gM,wpAny_Constant_int->gN,typeLookup->gO,sub_AttributeError->gP,getattributeRaised->gU,closureFor->gV,call_meets->gW,wpAny_sequenceKey->hJ,valueAt->hU,hashInt->ib,BindsTo->iA,wpAny_pyIter_zip->iC,wpAny_isInstance->iD,wpAny_execs_cons->iE,noFill_tuple_add->iG,checkBuiltinCall->iI,Result->iM,seqIndex_of->iO,wpAny_stack_any->iQ,wpAny_specialOf->iS,typeLookup_type->iT,pushCells_keeps->iV,standAt->i6,wpAny_Compare1->i9,typeIs_int->jt,pyIter->jA,firstArgMember->jH,entryOfKey->jI,bindL->jL,bindC->jM,atKey->jN,IsEnum->jQ,Code->jT,wpAny_attempt->jX,swapsWithSole->j3,sub_enumerate->j4,signature?_of->j6,seq_tuple_add->j7,methodCallPos->j',intBits_le_64->ku,checkTypeCall->kA,call_list_seq->kB,getMethod->kO,Arguments->kR,setItem->kT,isTrue->kZ,cellOf->lg,entryFor->lL,callWith->lM,Meets->lQ,GenState->lR,preSum->l4,argsOk->ma,Walks->mG
open PyProof.Rows renaming AllBare->dI,envOfC->eO,subscriptTail_builtinR->fk,IntsAre->gr,subscriptTail->gD,IsTup->gK,seqObj->gR,args_tuple_getitem->gX,get?_update_seq->iX,slicePart_none->jy,reads_tuple_at->jz,boot_range->jJ,boot_enumerate->jK,Subscript_->jO,tupleItemsOf_->jZ,reads_list_at->j8,Constant_none->kF,Call_->mI
open PySem.Value renaming ref->ka,none->Ka,int->ja,type->Ja,str->Ha,bool->Ga,float->Kb,isStrOf->jb
open Sum renaming inl->Jb,inr->Hb
open PySem renaming mem_of_lookup->Kc,Within->jc
open Ne renaming symm->Jd
open PySem.Calls renaming spliced_cons->Ke,spliced_nil->je,Name_function_global->Je,loadGlobal_builtin->He,callWith_builtin->Ge,evalArgs_plain->Kf
open PySem.Builtin.Range renaming rangeSize->jf,rangeFitsLong->Jf,small->Hf
open PyProof.Rows renaming slot_tuple_getitem->gf,callWith_type1->Gf,callWith_builtin1->kg
open True renaming intro->Kg
open PySem.Around renaming under_plainId->jg,under->Jg
open False renaming elim->Hg
open PySem.F renaming plain_min_loop->Gg,slot_list_getattribute->kh,slot_tuple_iterator_next->Kh,entry_min_loop->jh,slot_zip_next->Jh,slot_dict_update->Hh,args_tuple_add_2->gh,entry_tuple_add->Gh,slot_tuple_add->ki,args_tuple_iterator_next_1->Ki,entry_tuple_iterator_next->ji,entry_enumerate_new->Ji,called_enumerate->Hi,args_zip_next_1->gi
open PySem.Builtin.Slice renaming slicePlaces->Gi,sliceAdjust->kj,sliceApplied->Kj
open PySem.Str renaming ofString->jj,ofString_eq_toList->Jj
open PySem.Builtin.Tuple renaming tupleHashOf->Hj,tupleExact->gj,tupleItemsOf->Gj
open PySem.Obj renaming mapFields->Kk,mapSeq->jk,data_mapFields->Jk,isFreed_of_fields->Hk,data_mapDictKeys->Gk
open PySem.Builtin.List renaming listTooLong->Kl
open ForInStep renaming yield->jl
open PySem.Builtin.SmallTypes renaming nextOf->Jl,ownedTupleIsFree->Hl,ownedTupleHandOut->Km
open PySem.Heap.SameBut renaming update->jm
open PySem.Shared renaming heap->Hn
open PySem.NameKind renaming free->Gn,cell->ko
open PySem.Builtin.Dict renaming updateFrom->Jo,entriesForEmpty->Ho,selfAndRest->Go,addKeywords->Kp,mergeDict->jp,quietEq->Jp
open PySem.PyData renaming eqv->Gp,depthAll->Kq,canLay0->jq,depth->Jq,canLayAll0->Hq,eqvAll->Gq
set_option maxHeartbeats 4000000
open PySem.Heap renaming get?_push_of_some->wa,lt_size->ua,get?_push_size->wb,size_push->vg,get?_update_other->uj,get?_update_self->Xp,get?_none_of_le->WE,SameBut->Hd,NewAttrErr->Gd,ExtBut->ke
open Bool renaming and_eq_true->Wa,false_ne_true->Uh,noConfusion->xj,false_eq_true->Uk,or_eq_true->vn,not_eq_true'->Wq,and_eq_true_iff->Wy,true_eq_false->WG
open List renaming getElem?_eq_some_iff->xa,mem_cons->Xa,getElem?_eq_getElem->va,getElem?_map->Wb,map_cons->xb,getElem?_append_left->Xb,lookup_cons->vb,size_toArray->wc,length_map->Wc,replicate->xc,range->uc,length_cons->Uc,mem_singleton->vc,not_mem_nil->Vc,mem_map->ud,getElem?_append_right->We,nil_append->Xe,mem_of_getElem?->ue,map_map->Ue,mem_cons_of_mem->Ve,mem_append_right->xf,mem_append->Xf,getD_eq_getElem?_getD->Uf,mem_cons_self->xg,length_append->Xg,ext_getElem?->Vg,foldl_cons->Wh,getElem?_eq_none->Xh,append_assoc->uh,length_nil->vh,map_append->Vh,take_of_length_le->xi,getD->Xi,map_nil->Ui,mem_append_left->wj,getElem?_mapIdx->Wj,mem_range->Xj,replicate_succ->Vj,append_nil->xk,nodup_cons->Xk,getElem?_take_of_lt->uk,getElem_mem->vk,eq_of_mem_replicate->Vk,getElem?_set_ne->Wl,drop_zero->Ul,nodup_append->Vl,take_succ_cons->Wm,drop_succ_cons->xm,getElem?_set_self->Xm,sum_cons->Um,length_take->Vm,eq_nil_of_length_eq_zero->Wo,getElem?_replicate->xo,getElem?_range->Xo,all_eq_true->uo,take_length->Uo,set_cons_succ->Wp,length_replicate->xp,flatten_cons->Vp,mem_of_mem_take->xq,mapM_cons->Xq,mem_flatMap->vq,map_reverse->xr,length_pos_iff->Xr,find?_cons->ur,getElem?_drop->Ur,set_cons_zero->Xs,reverse_cons->Vs,mem_zipIdx_iff_getElem?->Wt,cons_append->Ut,lookup->Vt,length->wu,getElem_of_mem->xu,drop_eq_getElem_cons->Wv,getElem?_zip_eq_some->xv,take_left'->Xv,length_mapIdx->Uv,getElem?_cons_succ->vv,take_add_one->ww,getElem_cons_zero->Uw,any_cons->vw,zipIdx_cons->Vw,filter_cons->wx,mem_reverse->xx,flatten_replicate_singleton->Xx,mem_filter->ux,range_succ->Xy,filterMap_cons->Vy,length_flatMap->xz,flatMap_append->Xz,map_take->UA,getElem?_inj->wB,length_range->WB,mem_or_eq_of_mem_set->xB,length_drop->UB,getElem?_cons_zero->wC,of_mem_zip->xC,forIn_cons->XC,range_succ_eq_map->wD,length_pos_of_mem->WD,length_singleton->xD,forIn_nil->XD,mem_iff_getElem?->vD,getElem?_reverse->VD,take_zero->wE,getElem?_modify->XE,map->uE,getElem?_zipIdx->UE,map_drop->VE,length_reverse->WF,map_congr_left->XF,mem_filterMap->vF,any_map->wG,map_set->xG,drop_length->xI,foldl->XI,cons->Jm,zipIdx_nil->Hm,sum_append->Gm,map_const'->Kn,length_zip->jn,tail_cons->Jn
open Nat renaming le_refl->Ua,ne_of_lt->Ub,lt_of_lt_of_le->Xd,le_trans->Wf,lt_succ_self->Wi,lt_irrefl->ui,pow_le_pow_right->ul,ne_of_gt->um,mod_eq_of_lt->wn,zero_le->Wn,lt_trans->Xn,mod_lt->Vn,le_of_eq->vo,div_add_mod->Up,lt_succ_of_lt->wq,zero_add->uq,mul_comm->uv,mul_mod->Ww,min_eq_right->Wx,le_of_lt->Ux,sub_zero->Vx,min_le_left->wy,min_eq_left->xy,mul_le_mul_right->uy,le_succ->vz,eq_zero_or_pos->WA,pow_succ->vB,mul_add_mod->uC,add_mul->VC,div_mul_le_self->uF,add_zero->XG,lt_trichotomy->XH,le_of_not_lt->wI,le_add_right->WI,two_pow_pos->Kr,div_le_self->jr
open Option renaming bind_eq_some_iff->ub,map_eq_some_iff->Wd,map_some->vf,bind_some->xh,isSome_iff_exists->xn,getD_some->Uq,bind_eq_bind->Xu,join_some->VB,isSome_some->VF,toList_some->uG,isSome_map->xH,getD_none->VH,some->gb,pure_def->Gb
open Function renaming comp_def->Xc,comp_apply->uu,comp->vE
open PySem.W renaming findIn->Ud,kitOne->uf,subIn->Vf,emptyDict->wg,keepIn->Wg,fnOf->ug,instObj->Ug,kia_one->Vi,mg_of->wl,codeIn->Xl,nsIn->Vq,kla_obj->Vr,specialIn->Us,typeIn->wt,plainGet->Xt,clsIn->vt,makesIn->Uu,takesIn->Vu,hasDictIn->Vv,plainGet_of->Wz,lookIn->uz,callWith_K->wA,mg_none_of->xA,mroIn->uA,methodObj->vA,plainOver->VA,isFn->XB,makes_of->uB,takerIn->WC,cellsFrom_some->vC,kla_fn->uD,tabObj->UD,looks_findIn->xE,callWith_K0->wF,make_core->VG,kitx_list->wH,kitx_dict->WH,handedIn->vH,Frag->Jc,CodeHd->Hc,Looks->gc,InitBack->Gc,OpenLaw->Kd,kitCls->jd
open Int renaming eq_ofNat_of_zero_le->Vd,toNat_natCast->Uj,emod_lt_of_pos->Vo,mul_comm->Wr,emod_nonneg->Ws,add_mul->Wu,le_ediv_iff_mul_le->xw,mul_add->Xw,mul_le_mul_of_nonneg_right->Uy,mul_le_mul_of_nonneg_left->vy,le_refl->Vz,fdiv_eq_ediv_of_nonneg->XA,natCast_mul->UC,natAbs_natCast->UG,zero_add->vG,neg_mul->uH,one_mul->UH,le_antisymm->Ko,ediv_nonneg->jo
open Array renaming length_toList->wm,eq_empty_of_size_eq_zero->vx,toList_append->xF,toList->UF
open Prod renaming snd->wo,fst->ut,ext->Uz,mk->kr
set_option Elab.async false
set_option linter.all false
set_option tactic.hygienic false
set_option maxRecDepth 100000
set_option genSizeOf false
set_option genSizeOfSpec false
set_option bootstrap.genMatcherCode false
theorem OB.e2{α β}{p:α->β->Prop}{G:Prop}(h:∃ a b,p a b)(k:∀ a b,p a b->G):G:=h.elim fun a h=>Exists.elim h (k a)
theorem OB.e3{α β γ}{p:α->β->γ->Prop}{G:Prop}(h:∃ a b c,p a b c)(k:∀ a b c,p a b c->G):G:=h.elim fun a h=>OB.e2 h (k a)
theorem OB.e4{α β γ δ}{p:α->β->γ->δ->Prop}{G:Prop}(h:∃ a b c d,p a b c d)(k:∀ a b c d,p a b c d->G):G:=h.elim fun a h=>OB.e3 h (k a)
theorem OB.e5{α β γ δ ε}{p:α->β->γ->δ->ε->Prop}{G:Prop}(h:∃ a b c d e,p a b c d e)(k:∀ a b c d e,p a b c d e->G):G:=h.elim fun a h=>OB.e4 h (k a)
theorem OB.e6{α β γ δ ε ζ}{p:α->β->γ->δ->ε->ζ->Prop}{G:Prop}(h:∃ a b c d e f,p a b c d e f)(k:∀ a b c d e f,p a b c d e f->G):G:=h.elim fun a h=>OB.e5 h (k a)
theorem OB.a2{A B G:Prop}(h:A/\B)(k:A->B->G):G:=k h.1 h.2
theorem OB.a3{A B C G:Prop}(h:A/\B/\C)(k:A->B->C->G):G:=OB.a2 h.2 (k h.1)
theorem OB.a4{A B C D G:Prop}(h:A/\B/\C/\D)(k:A->B->C->D->G):G:=OB.a3 h.2 (k h.1)
theorem OB.a5{A B C D E G:Prop}(h:A/\B/\C/\D/\E)(k:A->B->C->D->E->G):G:=OB.a4 h.2 (k h.1)
theorem OB.a6{A B C D E F G:Prop}(h:A/\B/\C/\D/\E/\F)(k:A->B->C->D->E->F->G):G:=OB.a5 h.2 (k h.1)
theorem OB.a7{A B C D E F H G:Prop}(h:A/\B/\C/\D/\E/\F/\H)(k:A->B->C->D->E->F->H->G):G:=OB.a6 h.2 (k h.1)
theorem OB.a8{A B C D E F H I G:Prop}(h:A/\B/\C/\D/\E/\F/\H/\I)(k:A->B->C->D->E->F->H->I->G):G:=OB.a7 h.2 (k h.1)
theorem OB.a9{A B C D E F H I J G:Prop}(h:A/\B/\C/\D/\E/\F/\H/\I/\J)(k:A->B->C->D->E->F->H->I->J->G):G:=OB.a8 h.2 (k h.1)
open Lean in
local macro_rules|`(tactic|obtain⟨$ps,*⟩:=$e:term)=>do
 let mut xs:Array Term:=#[]
 let mut po:Array (TSyntax `tactic):=#[]
 for p in ps.getElems do
  let q:=p.raw[0][0][0]
  let i:=q[0].getId
  unless p.raw[0][0].getNumArgs==1&&p.raw[1].getNumArgs==0 do Macro.throwUnsupported
  let x:=mkIdent (.mkSimple s!"o{xs.size}'")
  if q.isOfKind `Lean.Parser.Tactic.rcasesPat.ignore then xs:=xs.push x
  else if q.isOfKind `Lean.Parser.Tactic.rcasesPat.tuple then
   xs:=xs.push x
   let qs:TSyntaxArray `Lean.Parser.Tactic.rcasesPatLo:=⟨q[1].getSepArgs.toList.map (⟨·⟩)⟩
   po:=po.push (<-`(tactic|obtain⟨$qs,*⟩:=$x:ident))
  else if q.isOfKind `Lean.Parser.Tactic.rcasesPat.one&&q[0].isIdent then
   if i==`rfl then
    xs:=xs.push x
    po:=po.push (<-`(tactic|first|subst $x:ident|cases $x:ident))
   else xs:=xs.push ⟨q[0]⟩
  else Macro.throwUnsupported
 let n:=xs.size
 if e.raw.isIdent&& !xs.any (·.raw.getId==e.raw.getId) then po:=#[(<-`(tactic|try clear $(⟨e.raw⟩):ident))]++po
 let f (c:String)(k:Nat):Term:=⟨mkIdent (if c=="e"&&k==1 then `Exists.elim else .str `OB s!"{c}{k}")⟩
 let mut al:Array (TSyntax `Lean.Parser.Tactic.tacticSeq):=#[]
 for k in [0:n] do
  if k<7&&n-k<10&&1<n then
   let y:=xs.extract k n
   let t<-if k==0 then `($(f "a" n) $e fun $xs* =>?_) else if n-k==1 then `($(f "e" k) $e fun $xs* =>?_) else
    let x:=xs.extract 0 k
    `($(f "e" k) $e fun $x* r=>$(f "a" (n-k)) r fun $y* =>?_)
   al:=al.push (<-`(tacticSeq|refine $t;$[$po]*))
 al:=al.push (<-`(tacticSeq|rcases $e:term with⟨$ps,*⟩))
 `(tactic|first $[|$al]*)
namespace PySem.W.Fast
def tw11559815739027949514:=0
def tw17331276103396932613:=0
def tw2165657256609204082:=0
def tw13662146024163584697:=0
def tw10950367396364700244:=0
def tw2280222521460160544:=0
def tw16517953664314824938:=0
def tw17192780269909545336:=0
def tw2892743643122748543:=0
def tw6484212682564403773:=0
def tw910449987181194314:=0
def tw17894658425213529456:=0
def tw7387332975743926738:=0
def tw10355292365558856446:=0
def tw11559242675432924362:=0
def tw4720028378418225114:=0
def tw10328610269260016218:=0
def tw3731100644181466271:=0
def tw3095549423716095176:=0
def tw10605456895041053320:=0
def tw1731116585981890706:=0
def tw11457833870173160629:=0
def tw14217843025523933092:=0
def tw1224311661365250874:=0
def tw5965739993291768220:=0
def tw14388327453742204319:=0
def tw1293520661766960843:=0
def tw3112186520056635802:=0
def tw16616053184685065989:=0
def tw16486484986452584642:=0
def tw9344906382882270570:=0
def tw7120885081700193402:=0
def tw3574006292151955016:=0
def tw410460278655473417:=0
def tw13511850965274980755:=0
def tw16414993573412779920:=0
def tw11939348762191241712:=0
def tw7942178504771396839:=0
def tw18386553868297489505:=0
def tw16815213294529482616:=0
def tw2926086124054530138:=0
def tw16346746141990306539:=0
def tw16417723131159764956:=0
def tw6402596380543551452:=0
def tw10396006997621909848:=0
def tw9994402056130966897:=0
def tw18238697445601044978:=0
def tw8432208034265818741:=0
def tw3633068642572493613:=0
def tw11663836000038929073:=0
def tw16587819489317561940:=0
def tw3780161268426011848:=0
def tw9916794653125541159:=0
def tw7341833840292610332:=0
def tw15114283377604976573:=0
def tw8255630486361679258:=0
def tw12693887212039507314:=0
def tw10709472134532979386:=0
def tw864854342208516654:=0
def tw18131731386327098980:=0
def tw3251210169067557464:=0
def tw17280754181059885909:=0
def tw3498198417795336421:=0
def tw15122633920732799470:=0
def tw17081341116531462112:=0
def tw1167132438152085414:=0
def tw18102560991290129425:=0
def tw11320800298454168058:=0
def tw12765398154199835529:=0
def tw11551860995918963131:=0
def tw8057154158541693295:=0
def tw8807974734885566009:=0
def tw15355205052522976687:=0
def tw9382232724339748345:=0
def tw11678722538965255369:=0
def tw11513078708426984367:=0
def tw6575109459373660441:=0
def tw6044764339570062288:=0
def tw9648852515559257075:=0
def tw12286501817675304869:=0
def tw15941992889398016050:=0
def tw6887677176517570375:=0
def tw9284670164304232604:=0
def tw18338432856272309697:=0
def tw17878140469137039817:=0
def tw14603648310611927581:=0
def tw304405195998456371:=0
def tw9966796668870769346:=0
def tw716188431407628508:=0
def tw2912746176941415177:=0
def tw5945093524511817813:=0
def tw9464608311770033502:=0
def tw16972410287735527243:=0
def tw17703785707192629023:=0
def tw5587339652169527709:=0
def tw15206416149136214282:=0
def tw3156661770664167446:=0
def tw17424128448870747757:=0
def tw10115851714963871609:=0
def tw1550544470378515821:=0
def tw9703067846338504524:=0
def tw17710281510050880397:=0
def tw13851796525131932646:=0
def tw9162637616738174624:=0
def tw2050169678725749925:=0
def tw5807504594154203388:=0
def tw7355584995893332524:=0
def tw12844479900144200188:=0
def tw18240605254067071422:=0
def tw3515759421708925655:=0
def tw260505178396239700:=0
def tw8155727970618421185:=0
def tw14246025181256207027:=0
def tw6430394335088103483:=0
def tw11584757844042934154:=0
def tw6364944292398709225:=0
def tw17937974385686525263:=0
def tw964623740317120790:=0
def tw3670233683514615493:=0
def tw12002318500785375210:=0
def tw4811893273115130790:=0
def tw4282973625136440402:=0
def tw11291599841214235554:=0
def tw5098685410462931073:=0
def tw4421821155864910772:=0
def tw10202716165464781157:=0
def tw5727102578065408747:=0
def tw10737479069371118585:=0
def tw12796471839617785656:=0
def tw15988526029460274327:=0
def tw17871331086540138051:=0
def tw17230019877449371821:=0
def tw15115753174732662758:=0
def tw3137949467009136146:=0
def tw12655695247945230201:=0
def tw11638666130395898611:=0
def tw12515980125182606411:=0
def tw18343837009481482392:=0
def tw1295758554243860769:=0
def tw12298180737981128772:=0
def tw12589218797813143199:=0
def tw721938671735158885:=0
def tw9167017196762617866:=0
def tw6701140751707006410:=0
def tw9207807222786188923:=0
def tw3447197897687916699:=0
def tw11723165780904940866:=0
def tw14800460892740963917:=0
def tw14728983812107460638:=0
def tw17272137006687214064:=0
def tw5951209053036655261:=0
def tw9644479594161670332:=0
def tw8689192393644286727:=0
def tw12871122675243125572:=0
def tw16481929029662976871:=0
def tw3508314128338356606:=0
def tw3826128450228557283:=0
def tw9228603409742596873:=0
def tw14269502111592647724:=0
def tw14445648591685571603:=0
def tw10768889533661134041:=0
def tw2412143524872839693:=0
def tw1308113771333867938:=0
def tw17373914195962880964:=0
def tw8103625175752476077:=0
def tw15640338161824300241:=0
def tw15699761068515581621:=0
def tw11770134247587668932:=0
def tw14792897268888490522:=0
def tw18141337561959286093:=0
def tw4145349847376036950:=0
def tw15366026911110061746:=0
def tw14480495729291985307:=0
def tw3944109625329218062:=0
def tw15767487257139107478:=0
def tw13208085171001198895:=0
def tw16221700444696356817:=0
def tw11031022771899058706:=0
def tw1946749985510654177:=0
def tw3539786319372255983:=0
def tw13060203115629089814:=0
def tw15181843445662122195:=0
def tw16886630223058784181:=0
def tw5525630213770955489:=0
def tw4718984088646211706:=0
def tw13929184310782037296:=0
def tw13917521425948475684:=0
def tw16561878368694812720:=0
def tw280117104011678957:=0
def tw12393305521409501463:=0
def tw6615526527012489276:=0
def tw16467818758384856504:=0
def tw756758974370918508:=0
def tw3291147544396284325:=0
def tw7772239212819394903:=0
def tw3630567562685187236:=0
def tw17013770976059635333:=0
def tw15841574841928829318:=0
def tw15501541728423106687:=0
def tw3834613449593659963:=0
def tw8312584584757820556:=0
def tw6949325628278945104:=0
def tw12747386024405648113:=0
def tw5543571618688240345:=0
def tw11010105368319890306:=0
def tw4127861193157961188:=0
def tw1252803735624987319:=0
def tw15764703284388289734:=0
def tw15697445285343296458:=0
def tw18290385588439983685:=0
def tw4802816288444226352:=0
def tw9399043451232222903:=0
def tw17585779955809185106:=0
def tw16078127272430186122:=0
def tw2303598887774036048:=0
def tw2216503885836549441:=0
def tw9955006582054654234:=0
def tw8031433477378842880:=0
def tw15315148364525306801:=0
def tw12214585977592658604:=0
def tw17237155228029091619:=0
def tw16290582636915357119:=0
def tw4740953703862880840:=0
def tw15583106708914381504:=0
def tw11516883968984382990:=0
def tw3722857664428284240:=0
def tw12260376571573433014:=0
def tw1895383164226198514:=0
def tw2293841749383304733:=0
def tw2131875024585713866:=0
def tw11615757522662111163:=0
def tw4704871774552864682:=0
def tw1506722625262542604:=0
def tw11702556204884961614:=0
def tw8860401869542754153:=0
def tw6110862711056382768:=0
def tw5220209336464952829:=0
def tw3974893646269683096:=0
def tw14717726265284623564:=0
def tw7688827322936239700:=0
def tw16968270385329170143:=0
def tw16722120121023306844:=0
def tw3056854800345483465:=0
def tw2011070384403982553:=0
def tw750311911491577433:=0
def tw16808618459977579080:=0
def tw9532165171775234541:=0
def tw4710266852598988551:=0
def tw7449805373296481710:=0
def tw508031936238726940:=0
def tw15609329491788562809:=0
def tw2908244689000260062:=0
def tw841117360909071093:=0
def tw14976505046800383723:=0
def tw5941603579244167571:=0
def tw13332406468694680879:=0
def tw2419877581727754585:=0
def tw15130850032139160582:=0
def tw14425450636515812360:=0
def tw3236455799248777225:=0
def tw3098004193169090570:=0
def tw8258861963577859109:=0
def tw3902468141415798859:=0
def tw1150581537612546321:=0
def tw11300386848489624325:=0
def tw6961651703995650532:=0
def tw17200698474890837370:=0
def tw10093104665034730857:=0
def tw14047569889545138071:=0
def tw16207806366970686165:=0
def tw1636096584887785939:=0
def tw15029456212813690868:=0
def tw6556722604064832066:=0
def tw2082733920112706898:=0
def tw18158910813371741:=0
def tw2635049243973463385:=0
def tw15583678166339123140:=0
def tw12427974549556751877:=0
def tw16205854728543942532:=0
def tw15180096708876134668:=0
def tw2648627416387416547:=0
def tw8361637480176058626:=0
def tw9488120500374453693:=0
def tw3777930328435211964:=0
def tw4679522082812019174:=0
def tw11194127872956718829:=0
def tw13167720520766237806:=0
def tw11909671365949984591:=0
def tw600387460199157118:=0
def tw13926941154305751984:=0
def tw1895387338217746728:=0
def tw14229777448537144042:=0
def tw4896450127547649051:=0
def tw9038666305664989239:=0
def tw2963221560842184685:=0
def tw15979776191348045130:=0
def tw16265541930424316784:=0
def tw5098966041648795251:=0
def tw3204072574081609122:=0
def tw13930052369223033962:=0
def tw13339558073290905877:=0
def tw16504401999420897996:=0
def tw15341501631185887084:=0
def tw2129806065878757966:=0
def tw9081371731501959477:=0
def tw12817905643677242351:=0
def tw2728864373094664399:=0
def tw5270966768624111782:=0
def tw16826067045065363872:=0
def tw14173205332210357055:=0
def tw7030883001765030916:=0
def tw15607744807366252618:=0
def tw7870027751272661305:=0
def tw8557421626691513816:=0
def tw14203228156440580972:=0
def tw11833418617766472863:=0
def tw11194636927364615140:=0
def tw16041508929461448602:=0
def tw12518106495444418887:=0
def tw8642291155108007389:=0
def tw12121527020747118095:=0
def tw7978359956064473467:=0
def tw6113490858190491771:=0
def tw4069536657907067013:=0
def tw3077965214978148656:=0
def tw15157739170336849172:=0
def tw9297623117386592849:=0
def tw4975230291369380402:=0
def tw788311717871287600:=0
def tw2166932624292290748:=0
def tw17330022561911567347:=0
def tw1597502697318808946:=0
def tw3068515881811205679:=0
def tw10076583484644621174:=0
def tw14605682644141938273:=0
def tw2605712834752191221:=0
def tw15784011215690760486:=0
end PySem.W.Fast
section
namespace L2
open PySem PySem.Spec PyProof.Rows
noncomputable abbrev Key:=Sum Int Str
noncomputable def sZ:Key->Value->Bool
 |.inl k,v=>Value.isInt k v
 |.inr x,v=>jb x v
noncomputable def GR(w:World):Key->Int
 |.inl k=>ib k
 |.inr x=>hashStr w x
theorem Qj:∀{k:Key}{v:Value},sZ k v=true->(∃ i t,k=Jb i/\v=ja i t)\/(∃ x t,k=Hb x/\v=Ha x t)
 |.inl i,v,h=>by
  obtain⟨t,e⟩:=Value.isInt_shape (k:=i) (v:=v) h;exact .inl ⟨i,t,rfl,e⟩
 |.inr x,v,h=>by
  obtain⟨t,e⟩:=Value.isStrOf_shape (x:=x) (v:=v) h;exact .inr ⟨x,t,rfl,e⟩
theorem ZbV(i:Int)(t:Tok):sZ (.inl i) (.int i t)=true:=by simp[sZ,Value.isInt]
theorem QbX(x:Str)(t:Tok):sZ (.inr x) (.str x t)=true:=by simp[sZ,jb]
theorem ycY(a b:Int):decide ((Jb a:Key)=Jb b)=(a==b):=by
 by_cases e:a=b
 ·subst e;simp
 ·have h:¬(Jb a:Key)=Jb b:=λq=>e (Jb.inj q);rw[decide_eq_false h];exact(beq_eq_false_iff_ne.mpr e).symm
theorem yc6(a b:Str):decide ((Hb a:Key)=Hb b)=decide (a=b):=by
 by_cases e:a=b
 ·subst e;simp
 ·have h:¬(Hb a:Key)=Hb b:=λq=>e (Hb.inj q);rw[decide_eq_false h,decide_eq_false e]
theorem qc5(a:Int)(b:Str):decide ((Jb a:Key)=Hb b)=false:=decide_eq_false (λq=>nomatch q)
theorem zc0(a:Str)(b:Int):decide ((Hb a:Key)=Jb b)=false:=decide_eq_false (λq=>nomatch q)
noncomputable def ze(prog:ak)(w:World):PySem.KeyKind prog w Key where
 is:=sZ
 hash:=GR w
 inj:=λv a b ha hb=>by
  rcases Qj ha with ⟨i,t,rfl,rfl⟩|⟨x,t,rfl,rfl⟩
  ·rcases Qj hb with ⟨j,u,rfl,e⟩|⟨y,u,rfl,e⟩
   ·injection e with e1 _;rw[e1]
   ·exact nomatch e
  ·rcases Qj hb with ⟨j,u,rfl,e⟩|⟨y,u,rfl,e⟩
   ·exact nomatch e
   ·injection e with e1 _;rw[e1]
 byValue:=λk v h=>by
  rcases Qj h with ⟨i,t,rfl,rfl⟩|⟨x,t,rfl,rfl⟩ <;> rfl
 pyHash:=λhv h=>by
  rcases Qj hv with ⟨i,t,rfl,rfl⟩|⟨x,t,rfl,rfl⟩
  ·exact wpAny_pyHash_int h
  ·exact wpAny_pyHash_str h
 eqBool:=λhu hv h=>by
  rcases Qj hu with ⟨i,t,rfl,rfl⟩|⟨x,t,rfl,rfl⟩
  ·rcases Qj hv with ⟨j,u,rfl,rfl⟩|⟨y,u,rfl,rfl⟩
   ·rw[ycY] at h;exact wpAny_eqBool_int h
   ·rw[qc5] at h;exact SeqAt.EqAt.int_str i t y u _ _ _ _ h
  ·rcases Qj hv with ⟨j,u,rfl,rfl⟩|⟨y,u,rfl,rfl⟩
   ·rw[zc0] at h;exact SeqAt.EqAt.str_int x t j u _ _ _ _ h
   ·rw[yc6] at h;exact wpAny_eqBool_str h
 «strs»:=λk x t v h=>by
  rcases Qj h with ⟨i,u,rfl,e⟩|⟨y,u,rfl,e⟩
  ·exact nomatch e
  ·injection e with e1 _
   subst e1;cases v <;> rfl
theorem Qbm(prog:ak)(w:World)(i:Int)(t:Tok):(ze prog w).is (.inl i) (.int i t)=true:=ZbV i t
theorem Qbj(prog:ak)(w:World)(x:Str)(t:Tok):(ze prog w).is (.inr x) (.str x t)=true:=QbX x t
inductive V where
 |bG|bl (b:Bool)|int (i:Int)|str (x:Str)|Cf (b:Array UInt8)|rh (b:UInt64)|ref (a:ae)|ty (n:String)
 deriving DecidableEq
noncomputable def RelV:V->Value->Prop
 |.bG,u=>u=Ka
 |.bl b,u=>u=Ga b
 |.int i,u=>∃ t,u=ja i t
 |.str x,u=>∃ t,u=Ha x t
 |.Cf b,u=>∃ t,u=Value.bytes b t
 |.rh b,u=>∃ t,u=Kb b t
 |.ref a,u=>u=ka a
 |.ty n,u=>u=Ja n
noncomputable abbrev Vals:List V->List Value->Prop:=bW RelV
theorem Vals.length{xs:List V}{us:List Value}(r:Vals xs us):xs.length=us.length:=bW.length r
theorem Vals.get:∀{xs:List V}{us:List Value}{i:Nat}{x:V},Vals xs us->xs[i]?=some x->∃ u,us[i]?=some u/\RelV x u
 |_,_,_,_,.nil,e=>by simp at e
 |_,_,0,_,.cons r _,e=>by simp at e;subst e;exact⟨_,rfl,r⟩
 |_,_,i+1,x,.cons _ t,e=>by
  obtain⟨u,h1,h2⟩:=Vals.get (i:=i) (x:=x) t (by simpa using e);exact⟨u,by simpa using h1,h2⟩
theorem Vals.set{x:V}{u:Value}(r:RelV x u):∀{xs:List V}{us:List Value}(i:Nat),Vals xs us->Vals (xs.set i x) (us.set i u)
 |_,_,_,.nil=>.nil
 |_,_,0,.cons _ t=>.cons r t
 |_,_,i+1,.cons q t=>.cons q (Vals.set r i t)
theorem Vals.append:∀{xs ys:List V}{us ws:List Value},Vals xs us->Vals ys ws->Vals (xs++ys) (us++ws)
 |_,_,_,_,.nil,s=>s
 |_,_,_,_,.cons r t,s=>.cons r (Vals.append t s)
theorem Vals.take:∀{xs:List V}{us:List Value}(n:Nat),Vals xs us->Vals (xs.take n) (us.take n)
 |_,_,0,_=>.nil
 |_,_,_+1,.nil=>.nil
 |_,_,n+1,.cons r t=>.cons r (Vals.take n t)
theorem Vals.drop:∀{xs:List V}{us:List Value}(n:Nat),Vals xs us->Vals (xs.drop n) (us.drop n)
 |_,_,0,r=>r
 |_,_,_+1,.nil=>.nil
 |_,_,n+1,.cons _ t=>Vals.drop n t
noncomputable def ir:Option V->Option Value->Prop
 |some v,some u=>RelV v u
 |none,none=>True
 |_,_=>False
noncomputable def KV{κ:Type}:List (κ×V)->List (κ×Value)->Prop:=bW λ(p:κ×V)(q:κ×Value)=>p.1=q.1/\RelV p.2 q.2
noncomputable def kV:Key->V
 |.inl i=>.int i
 |.inr x=>.str x
inductive HO where
 |lst (xs:List V)
 |tup (xs:List V)
 |dK (kvs:List (Key×V))|dT (kvs:List (List Key×V))
 |set (S:Int->Bool) (n:Nat)
 |ins (C dx:ae) (fs:List (Str×V))
 |own (x:ae)
 |xd (fs:List (Str×V))
 |met (f x:ae)
 |FR (lo hi:Int)
 |eQ (o:Obj) (u:HO)
 |rL (ps:Array Value)
 |ext (φ:Heap->Prop)
noncomputable abbrev Hp:=ae->Option HO
noncomputable def upd(H:Hp)(a:ae)(o:HO):Hp:=λb=>if b=a then some o else H b
theorem qd{H:Hp}{a:ae}{o:HO}:upd H a o a=some o:=by unfold upd;rw[if_pos rfl]
theorem qc{H:Hp}{a b:ae}{o:HO}(h:b≠a):upd H a o b=H b:=by unfold upd;rw[if_neg h]
theorem PH{H:Hp}{a b:ae}{o u:HO}(h:H a=some o)(h':H b=some u)(d:o≠u):a≠b:=by
 intro e;subst e;rw[h] at h';exact d (gb.inj h')
theorem yf{H:Hp}{a b:ae}{o:HO}(h:H a=some o)(h':H b=none):a≠b:=by
 intro e;subst e;rw[h] at h';cases h'
section
variable (P:ak) (w:World)
noncomputable def ba(H:Hp)(h:Heap)(a:ae):HO->Prop
 |.lst xs=>xs.length<=sizeLine/\∃(av:List Value)(n:Nat),Vals xs av/\h.get? a=some {cls:=.type "list",data:=.seq av.toArray n}
 |.tup xs=>xs.length<=sizeLine/\∃ av:List Value,Vals xs av/\gK h a av.toArray
 |.dK kvs=>kvs.length<=sizeLine/\(a==bo)=false/\∃ vs,KV kvs vs/\h.DictOf (ze P w) a vs
 |.dT kvs=>kvs.length<=sizeLine/\(a==bo)=false/\∃ xs:List (List Key×ae×Value),
   bW (λ(p:List Key×V)(q:List Key×ae×Value)=>p.1=q.1/\H q.2.1=some (.tup (p.1.map kV))/\RelV p.2 q.2.2) kvs xs /\
   ∃ o es ep,h.get? a=some o/\o.ExactDict/\o.data=.dict es ep/\es.toList=xs.map (jI (aA (ze P w)))/\(xs.map (·.1)).Nodup
 |.set S n=>h.SetOf (intKind P w) a S n
 |.ins C dx fs=>H dx=some (.own a)/\fs.length<=1000/\dx≠a/\h.get? a=some (Ug C dx) /\
   ∃ mA,h.Ns1 dx mA/\(∀ f,ir (fs.lookup f) (mA f))/\jc mA (fs.map (·.1))
 |.own _=>∃ o,h.get? a=some o
 |.xd fs=>∃ mA,h.Ns1 a mA/\∀ f,ir (fs.lookup f) (mA f)
 |.FR lo hi=>∃ t u v,h.get? a=some {cls:=.type "range",data:=.fields #[.int lo t,.int hi u,.int 1 v]}
 |.eQ o u=>h.get? a=some o/\ba H h a u
 |.rL ps=>h.get? a=some {cls:=.none,data:=.fields ps}
 |.met f x=>h.get? a=some (vA (.ref f) (.ref x))
 |.ext φ=>φ h/\(∃ o,h.get? a=some o)/\∀ h1 h2:Heap,φ h1->(∀ o,h1.get? a=some o->h2.get? a=some o)->φ h2
noncomputable def fB(H:Hp)(h:Heap):Prop:=∀ a o,H a=some o->ba P w H h a o
end
section
variable {P:ak} {w:World} {H H':Hp} {h h':Heap} {a:ae} {o:HO}
theorem ba.lt(x:ba P w H h a o):a<h.objs.size:=by
 cases o with
 |lst xs=>obtain⟨_,_,_,_,e⟩:=x;exact ua e
 |tup xs=>obtain⟨_,_,_,p⟩:=x;exact p.lt
 |dK kvs=>obtain⟨_,_,_,_,o,_,_,e,_⟩:=x;exact ua e
 |dT kvs=>obtain⟨_,_,_,_,o,_,_,e,_⟩:=x;exact ua e
 |set S n=>obtain⟨o,_,_,_,e,_⟩:=x;exact ua e
 |ins C dx fs=>obtain⟨_,_,_,e,_⟩:=x;exact ua e
 |own y=>obtain⟨_,e⟩:=x;exact ua e
 |xd fs=>obtain⟨_,⟨_,_,_,e,_⟩,_⟩:=x;exact ua e
 |FR lo hi=>obtain⟨_,_,_,e⟩:=x;exact ua e
 |eQ ob u=>obtain⟨e,_⟩:=x;exact ua e
 |rL ps=>exact ua (show h.get? a=some _ from x)
 |met f y=>exact ua (show h.get? a=some _ from x)
 |ext φ=>obtain⟨_,⟨_,e⟩,_⟩:=x;exact ua e
theorem bW.rW{α β:Type}{F G:α->β->Prop}:∀{l₁:List α}{l₂:List β},bW F l₁ l₂->(∀ a b,F a b->G a b)->bW G l₁ l₂
 |_,_,.nil,_=>.nil
 |_,_,.cons r t,f=>.cons (f _ _ r) (bW.rW t f)
theorem ba.jw(x:ba P w H h a o)(k:∀ b u,(b=a\/H b=some (.own a))->h.get? b=some u->h'.get? b=some u)
  (ho:∀ b,H b=some (.own a)->H' b=some (.own a)) (ht:∀ b xs,H b=some (.tup xs)->H' b=some (.tup xs)):ba P w H' h' a o:=by
 induction o with
 |lst xs=>obtain⟨z,av,n,r,e⟩:=x;exact⟨z,av,n,r,k _ _ (.inl rfl) e⟩
 |tup xs=>obtain⟨z,av,r,ob,e,c⟩:=x;exact⟨z,av,r,ob,k _ _ (.inl rfl) e,c⟩
 |dK kvs=>obtain⟨z,y,vs,r,ob,es,ep,e,c⟩:=x;exact⟨z,y,vs,r,ob,es,ep,k _ _ (.inl rfl) e,c⟩
 |dT kvs =>
  obtain⟨z,y,xs,r,ob,es,ep,e,c⟩:=x;exact⟨z,y,xs,bW.rW r λp q z=>⟨z.1,ht _ _ z.2.1,z.2.2⟩,ob,es,ep,k _ _ (.inl rfl) e,c⟩
 |set S n=>obtain⟨ob,es,ep,t,e,c⟩:=x;exact⟨ob,es,ep,t,k _ _ (.inl rfl) e,c⟩
 |ins C dx fs =>
  obtain⟨d,z,ne,e,mA,⟨od,es,ep,e2,c⟩,r⟩:=x;exact⟨ho _ d,z,ne,k _ _ (.inl rfl) e,mA,⟨od,es,ep,k _ _ (.inr d) e2,c⟩,r⟩
 |own y=>obtain⟨ob,e⟩:=x;exact⟨ob,k _ _ (.inl rfl) e⟩
 |xd fs=>obtain⟨mA,⟨od,es,ep,e,c⟩,r⟩:=x;exact⟨mA,⟨od,es,ep,k _ _ (.inl rfl) e,c⟩,r⟩
 |FR lo hi=>obtain⟨t,u,v,e⟩:=x;exact⟨t,u,v,k _ _ (.inl rfl) e⟩
 |eQ ob u ih=>obtain⟨e,q⟩:=x;exact⟨k _ _ (.inl rfl) e,ih q⟩
 |rL ps =>
  have e:h.get? a=some {cls:=.none,data:=.fields ps}:=x;show h'.get? a=some {cls:=.none,data:=.fields ps};exact k a _ (.inl rfl) e
 |met f y =>
  have e:h.get? a=some (vA (.ref f) (.ref y)):=x;show h'.get? a=some (vA (.ref f) (.ref y));exact k a _ (.inl rfl) e
 |ext φ=>obtain⟨p,⟨o,e⟩,st⟩:=x;exact⟨st _ _ p λo q=>k _ _ (.inl rfl) q,⟨o,k _ _ (.inl rfl) e⟩,st⟩
theorem fB.lt(x:fB P w H h)(e:H a=some o):a<h.objs.size:=(x a o e).lt
theorem fB.fresh(x:fB P w H h)(e:h.objs.size<=a):H a=none:=by
 cases q:H a with
 |none=>rfl
 |some u=>exact absurd (Xd (x.lt q) e) (ui _)
theorem fB.kept(x:fB P w H h)(k:∀ b u,h.get? b=some u->h'.get? b=some u):fB P w H h':=λa o e =>
 (x a o e).jw (λb u _ q=>k b u q) (λ_ q=>q) λ_ _ q=>q
theorem fB.laid(x:fB P w H h)(k:∀ b u,h.get? b=some u->h'.get? b=some u)(hp:h.objs.size<=a)(new:ba P w (upd H a o) h' a o):fB P w (upd H a o) h':=λb u e=>by
 have hn:=x.fresh hp;by_cases hb:b=a
 ·subst hb;rw[qd] at e;cases e;exact new
 ·rw[qc hb] at e;exact(x b u e).jw (λc v _ q=>k c v q) (λc q=>by rw[qc (yf q hn)];exact q) λc xs q=>by rw[qc (yf q hn)];exact q
end
noncomputable def Rd(H:Hp)(a:ae)(u:HO):Prop:=H a=some u\/∃ o,H a=some (.eQ o u)
theorem Rd.of{H:Hp}{a:ae}{u:HO}(h:H a=some u):Rd H a u:=.inl h
theorem Rd.ok{P:ak}{w:World}{H:Hp}{h:Heap}{a:ae}{u:HO}(r:Rd H a u)(x:fB P w H h):ba P w H h a u:=by
 rcases r with r|⟨o,r⟩
 ·exact x a u r
 ·obtain⟨_,q⟩:=x a _ r;exact q
noncomputable def CA:Option HO->Prop
 |some (.lst _)=>True
 |some (.dK _)=>True
 |some (.dT _)=>True
 |some (.set _ _)=>True
 |some (.ins _ _ _)=>True
 |some (.ext _)=>True
 |_=>False
section
variable {P:ak} {w:World} {H:Hp} {h h':Heap} {x e:ae} {o':HO}
theorem fB.write(ok:fB P w H h)(mu:CA (H x))(he:e=x\/H e=some (.own x))(k:∀ b u,b≠e->h.get? b=some u->h'.get? b=some u)(tY:∃ u,h'.get? e=some u)
  (new:ba P w (upd H x o') h' x o'):fB P w (upd H x o') h':=λb u q=>by
 have ny:∀ c y,H c=some (.own y)->c≠x:=λc y r z=>by subst z;rw[r] at mu;exact mu
 have GJ:∀ c xs,H c=some (.tup xs)->c≠x:=λc xs r z=>by subst z;rw[r] at mu;exact mu
 by_cases hb:b=x
 ·subst hb;rw[qd] at q;cases q;exact new
 ·rw[qc hb] at q;by_cases sH:b=e
  ·have q':H b=some (.own x):=by
    rcases he with z|z
    ·exact absurd (sH.trans z) hb
    ·rw[sH];exact z
   rw[q] at q';cases q';obtain⟨v,hv⟩:=tY;exact⟨v,by rw[sH];exact hv⟩
  ·refine(ok b u q).jw (λc v hc r=>k c v ?_ r) (λc r=>by rw[qc (ny c b r)];exact r) λc xs r=>by rw[qc (GJ c xs r)];exact r
   rcases hc with rfl|hc
   ·exact sH
   ·rintro rfl
    rcases he with z|z
    ·exact ny c b hc z
    ·rw[hc] at z;cases z;exact hb rfl
end
structure Un (fs ex:List ae) (H H':Hp) (h h':Heap):Prop where
 keep:∀ b o,h.get? b=some o->H b=none->b∉fs->b∉ex->h'.get? b=some o
 slot:∀ b o,h.get? b=some o->H b=none->b∈fs->b∉ex->∃ sl,h'.get? b=some {o with slots:=sl}
 free:∀ b o,h.get? b=some o->H b=none->b∉ex->H' b=none
 there:∀ b o,h.get? b=some o->b∉ex->∃ o',h'.get? b=some o'
 jY:∀ b xs,H b=some (.tup xs)->H' b=some (.tup xs)
 jG:∀ b o u,H b=some (.eQ o u)->H' b=some (.eQ o u)
 j0:∀ b ps,H b=some (.rL ps)->∃ more,H' b=some (.rL (ps++more))
section
variable {fs Iq ex o8:List ae} {H H1 H2:Hp} {h h1 h2 h':Heap} {a x e:ae} {o:HO}
theorem Un.any(u:Un fs ex H H1 h h1){b:ae}{ob:Obj}(q:h.get? b=some ob)(n:H b=none)(hx:b∉ex):∃ sl,h1.get? b=some {ob with slots:=sl}:=by
 by_cases hb:b∈fs
 ·exact u.slot b ob q n hb hx
 ·exact⟨ob.slots,u.keep b ob q n hb hx⟩
theorem Un.kept(k:∀ b u,h.get? b=some u->h'.get? b=some u):Un fs ex H H h h' :=
 ⟨λb ob q _ _ _=>k b ob q,λb ob q _ _ _=>⟨ob.slots,k b ob q⟩,λ_ _ _ n _=>n,λb ob q _=>⟨ob,k b ob q⟩,λ_ _ q=>q,λ_ _ _ q=>q,λ_ ps q=>⟨#[],by rw[q];simp⟩⟩
theorem Un.refl:Un fs ex H H h h:=Un.kept λ_ _ q=>q
theorem Un.laid(k:∀ b u,h.get? b=some u->h'.get? b=some u)(hp:h.objs.size<=a)(hn:H a=none):Un fs ex H (upd H a o) h h' where
 keep:=λb u q _ _ _=>k b u q
 slot:=λb u q _ _ _=>⟨u.slots,k b u q⟩
 free:=λb u q n _=>by rw[qc (Ub (Xd (ua q) hp))];exact n
 there:=λb u q _=>⟨u,k b u q⟩
 jY:=λb xs q=>by rw[qc (yf q hn)];exact q
 jG:=λb u xs q=>by rw[qc (yf q hn)];exact q
 j0:=λb ps q=>⟨#[],by rw[qc (yf q hn),q];simp⟩
theorem Un.write(mu:CA (H x))(he:e=x\/H e=some (.own x))(k:∀ b u,b≠e->h.get? b=some u->h'.get? b=some u)(tY:∃ u,h'.get? e=some u):Un fs ex H (upd H x o) h h':=by
 have hx:∀ b,H b=none->b≠x:=λb n z=>by subst z;rw[n] at mu;exact mu
 have hb:∀ b,H b=none->b≠e:=λb n z=>by
  subst z
  rcases he with r|r
  ·exact hx b n r
  ·rw[n] at r;cases r
 have hm:∀ b u,H b=some u->¬ CA (some u)->b≠x:=λb u q nm z=>by subst z;rw[q] at mu;exact nm mu
 refine⟨λb u q n _ _=>k b u (hb b n) q,λb u q n _ _=>⟨u.slots,k b u (hb b n) q⟩,λb u q n _=>by rw[qc (hx b n)];exact n,λb u q _=>?_,
  λb xs q=>by rw[qc (hm b _ q λz=>z)];exact q,λb u xs q=>by rw[qc (hm b _ q λz=>z)];exact q,λb ps q=>⟨#[],by rw[qc (hm b _ q λz=>z),q];simp⟩⟩
 by_cases sH:b=e
 ·subst sH;exact tY
 ·exact⟨u,k b u sH q⟩
end
noncomputable def C4(h:Heap)(H:Hp):List ae:=(uc h.objs.size).filter λa=>(H a).isSome
noncomputable def oi(h:Heap)(H:Hp):Heap:=PySem.W.hideAll h (C4 h H)
theorem ZbM(h:Heap)(H:Hp):(oi h H).objs.size=h.objs.size:=PySem.W.hideAll_size _ _
theorem zce{h:Heap}{H:Hp}{b:ae}{o:Obj}(e:h.get? b=some o)(n:H b=none):(oi h H).get? b=some o :=
 PySem.W.hideAll_get _ e λhm=>by
  have q:(H b).isSome=true:=(ux.mp hm).2;rw[n] at q;simp at q
theorem qcw{h:Heap}{H:Hp}{b:ae}{o:Obj}(e:(oi h H).get? b=some o):h.get? b=some o/\H b=none:=by
 have e':h.get? b=some o:=PySem.W.of_hideAll (C4 h H) e;refine⟨e',?_⟩;cases q:H b with
 |none=>rfl
 |some x =>
  have hm:b∈C4 h H:=ux.mpr ⟨Xj.mpr (ua e'),by simp[q]⟩;have z:(oi h H).get? b=none:=PySem.W.hideAll_none (C4 h H) hm;rw[z] at e;cases e
structure Mod (K:Jc) (mg:Str->Option Value) (base:Heap):Prop where
 AW:K.In base
 glob:base.Ns au mg
 blt:∃ mb,base.Ns builtinsNs mb/\∀ x:Str,x≠"__name__"->mb x=bB x
 nolimit:base.NoLimit
structure Cx where
 prog:ak
 w:World
 K:Jc
 mg:Str->Option Value
 base:Heap
 A:Around
 N:List Str
 s₀:Shared
 H₀:Hp
 env:Env
 outer:List Env
 stack:List Env
 ex:List ae
 fn:Str->Bool
 calm:Bool
 pn:List (ae×Obj)
 xe:Value->Shared->Prop
noncomputable def mS(l:List Env):List ae:=l.filterMap (·.frame)
noncomputable abbrev Cx.fs(X:Cx):List ae:=mS X.outer
noncomputable def Py(sc:az)(x:Str):Prop:=sc.names.lookup x=some .local\/sc.names.lookup x=some .cell\/sc.names.lookup x=some .free
noncomputable def Loc(sc:az)(x:Str):Prop:=sc.names.lookup x=some .local\/sc.names.lookup x=some .cell
noncomputable def Look(env:Env)(h:Heap)(m:Str->Option Value)(x:Str)(u:Value):Prop :=
 (env.kindOf x=some .local/\m x=some u)\/((env.kindOf x=some .cell\/env.kindOf x=some .free)/\∃ c,env.cells.lookup x=some c/\h.IsCell c (some u))
structure Cx.Ok (X:Cx):Prop where
 mod:Mod X.K X.mg X.base
 kind:X.env.scope.kind=.function
 glob:X.env.globals=au
 blt:X.env.builtins=builtinsNs
 above:X.s₀.heap.objs.size<=X.env.locals
 inj:∀ x y c,X.env.cells.lookup x=some c->X.env.cells.lookup y=some c->x=y
 has:∀ x,(X.env.kindOf x=some .cell\/X.env.kindOf x=some .free)->∃ c,X.env.cells.lookup x=some c
 IP:∀ x c,X.fn x=true->X.env.cells.lookup x=some c->X.s₀.heap.objs.size<=c
 hd:X.calm=true->X.A.handled=none
 frames:X.A.frames=some X.stack
 FF:X.stack=X.outer\/(X.stack=X.env::X.outer/\X.env.frame=some X.env.locals)
 exf:∀ b∈X.ex,b≠X.env.locals/\∀ x c,X.env.cells.lookup x=some c->c≠b
 bs:∀ b o,X.base.get? b=some o->X.s₀.heap.get? b=some o/\X.H₀ b=none
 sP:X.base.objs.size<=X.s₀.heap.objs.size
 rV:∀ b o,X.base.get? b=some o->b∉X.ex
 BK:∀ b∈X.ex,b∉X.fs
 jF:X.s₀.heap.FunFrames X.base X.outer
 BI:∀ b∈X.fs,X.H₀ b=none
structure Inv (X:Cx) (pins:List (ae×Obj)) (σ:List (Option V)) (H:Hp) (s:Shared):Prop where
 ok:X.Ok
 os:s.os=X.s₀.os
 bare:dI s.gens
 base:Un X.fs X.ex X.H₀ H X.s₀.heap s.heap
 loc:∃ m,s.heap.Ns X.env.locals m/\∀(i:Nat)(x:Str)(v:V),X.N[i]?=some x->σ[i]?=some (some v)->Py X.env.scope x->∃ u,RelV v u/\Look X.env s.heap m x u
 cell:∀ x c,X.env.cells.lookup x=some c->∃ v,s.heap.IsCell c v
 free:H X.env.locals=none
 ie:∀ x c,X.env.cells.lookup x=some c->H c=none
 pin:∀ p∈X.pn++pins,s.heap.get? p.1=some p.2/\H p.1=none/\p.1≠X.env.locals/\p.1∉X.fs/\∀ v,p.2.data≠.cell v
 aL:fB X.prog X.w H s.heap
 len:σ.length=X.N.length
section
variable {X:Cx} {pins:List (ae×Obj)} {σ:List (Option V)} {H H':Hp} {s:Shared} {h':Heap}
theorem Cx.Ok.GN(ok:X.Ok){b:ae}{o:Obj}(e:X.base.get? b=some o):b∉X.fs:=λhb=>by
 have:=(ok.jF.mem hb).1;rw[e] at this;cases this
theorem Inv.bs(I:Inv X pins σ H s):∀ b o,X.base.get? b=some o->s.heap.get? b=some o/\H b=none:=λb o e =>
 ⟨I.base.keep b o (I.ok.bs b o e).1 (I.ok.bs b o e).2 (I.ok.GN e) (I.ok.rV b o e),I.base.free b o (I.ok.bs b o e).1 (I.ok.bs b o e).2 (I.ok.rV b o e)⟩
theorem Inv.bk(I:Inv X pins σ H s):∀ b o,X.base.get? b=some o->s.heap.get? b=some o:=λb o e=>(I.bs b o e).1
theorem Inv.mod(I:Inv X pins σ H s):Mod X.K X.mg X.base:=I.ok.mod
theorem Inv.iB(I:Inv X pins σ H s):X.K.In s.heap:=I.ok.mod.AW.keeps I.bk
theorem Inv.nolimit(I:Inv X pins σ H s):s.heap.NoLimit:=I.ok.mod.nolimit.keeps I.bk
theorem Inv.lt(I:Inv X pins σ H s):X.env.locals<s.heap.objs.size:=let ⟨_,hn,_⟩:=I.loc;hn.lt
theorem Inv.sz(I:Inv X pins σ H s):X.s₀.heap.objs.size<=s.heap.objs.size:=Wf I.ok.above (Ux I.lt)
theorem Inv.GL(I:Inv X pins σ H s){a:ae}(h:s.heap.objs.size<=a):a∉X.fs:=λhb=>by
 obtain⟨_,o,ho,_⟩:=I.ok.jF.mem hb;exact absurd (Xd (ua ho) (Wf I.sz h)) (ui _)
theorem Inv.sN(I:Inv X pins σ H s):∀ x c,X.env.cells.lookup x=some c->c≠X.env.locals:=λx c e z=>by
 obtain⟨v,o,ho,hd⟩:=I.cell x c e;obtain⟨m,⟨o',es,ep,kx,sC,_⟩,_⟩:=I.loc;rw[z,kx] at ho;cases ho;rw[sC] at hd;cases hd
theorem Inv.jF(I:Inv X pins σ H s):s.heap.FunFrames X.base X.outer:=by
 have all:∀(l:List Env),(∀ b∈mS l,b∈X.fs)->X.s₀.heap.FunFrames X.base l->s.heap.FunFrames X.base l:=by
  intro l
  induction l with
  |nil=>intro _ _;trivial
  |cons env r ih =>
   intro hs hl;obtain⟨hk,⟨L,o,hf,hn,ho,hd⟩,hr⟩:=hl;have hL:L∈X.fs:=hs L (by unfold mS;rw[Vy,hf];exact xg);obtain⟨sl,e⟩:=I.base.slot L o ho (I.ok.BI L hL) hL λz=>I.ok.BK L z hL;exact⟨hk,⟨L,_,hf,hn,e,hd⟩,ih (λb hb=>hs b (by unfold mS;rw[Vy,hf];exact Ve _ hb)) hr⟩
 exact all X.outer (λ_ hb=>hb) I.ok.jF
theorem Inv.stack(I:Inv X pins σ H s):s.heap.FunFrames X.base X.stack:=by
 rcases I.ok.FF with e|⟨e,hf⟩
 ·rw[e];exact I.jF
 ·rw[e];obtain⟨m,hn,_⟩:=I.loc;refine .cons (by rw[I.ok.kind];decide) hf hn ?_ I.jF;exact WE (Wf I.ok.sP I.ok.above)
theorem Inv.iF(I:Inv X pins σ H s):∀ b∈mS X.stack,b∈X.env.locals::X.fs:=λb hb=>by
 rcases I.ok.FF with e|⟨e,hf⟩
 ·rw[e] at hb;exact Ve _ hb
 ·rw[e] at hb;unfold mS at hb;rw[Vy,hf] at hb;exact hb
theorem Inv.kS(I:Inv X pins σ H s):∀ b∈mS X.stack,H b=none:=λb hb=>by
 rcases Xa.mp (I.iF b hb) with e|hb
 ·rw[e];exact I.free
 ·obtain⟨_,o,ho,_⟩:=I.ok.jF.mem hb;exact I.base.free b o ho (I.ok.BI b hb) λz=>I.ok.BK b z hb
theorem Inv.step{g':Array lR}{t':Nat}{d':Drawn}{ch:List ae}(I:Inv X pins σ H s)
  (n9:∀ b∈ch,(b∈X.ex\/X.s₀.heap.objs.size<=b)/\b≠X.env.locals/\(∀ x c,X.env.cells.lookup x=some c->c≠b)/\∀ p∈X.pn++pins,p.1≠b)
  (keep:∀ b o,b≠X.env.locals->b∉X.fs->b∉ch->s.heap.get? b=some o->H b=none->h'.get? b=some o)
  (slot:∀ b o,b≠X.env.locals->b∈X.fs->b∉ch->s.heap.get? b=some o->H b=none->∃ sl,h'.get? b=some {o with slots:=sl}) (free:∀ b o,b∉ch->s.heap.get? b=some o->H b=none->H' b=none)
  (there:∀ b o,b∉ch->s.heap.get? b=some o->∃ o',h'.get? b=some o')
  (jY:∀ b xs,H b=some (.tup xs)->H' b=some (.tup xs)) (jG:∀ b o u,H b=some (.eQ o u)->H' b=some (.eQ o u)) (j0:∀ b ps,H b=some (.rL ps)->∃ more,H' b=some (.rL (ps++more)))
  (ns:∀ m,s.heap.Ns X.env.locals m->h'.Ns X.env.locals m) (aL:fB X.prog X.w H' h') (hg:dI g') :
  Inv X pins σ H' {s with heap:=h',gens:=g',drawn:=d',toks:=t'}:=by
 have Nh:∀ b o,X.s₀.heap.get? b=some o->b≠X.env.locals:=λb o e=>Ub (Xd (ua e) I.ok.above);have Ds:∀ b o,X.s₀.heap.get? b=some o->b∉X.ex->b∉ch:=λb o e hx hb=>by
  rcases(n9 b hb).1 with z|z
  ·exact hx z
  ·exact absurd (Xd (ua e) z) (ui _)
 have cellK:∀ x c,X.env.cells.lookup x=some c->∀ v,s.heap.IsCell c v->h'.IsCell c v:=λx c e v ⟨o,ho,hd⟩=>by
  have AK:c∉ch:=λz=>(n9 c z).2.2.1 x c e rfl;by_cases hc:c∈X.fs
  ·obtain⟨sl,q⟩:=slot c o (I.sN x c e) hc AK ho (I.ie x c e);exact⟨_,q,hd⟩
  ·exact⟨o,keep c o (I.sN x c e) hc AK ho (I.ie x c e),hd⟩
 refine⟨I.ok,I.os,hg,⟨λb o e n hb hx=>?_,λb o e n hb hx=>?_,λb o e n hx=>?_,λb o e hx=>?_,λb xs e=>jY b xs (I.base.jY b xs e),λb o xs e=>jG b o xs (I.base.jG b o xs e),λb ps e=>?_⟩,?_,λx c e=>?_,?_,λx c e=>?_,λp hp=>?_,aL,I.len⟩
 ·exact keep b o (Nh b o e) hb (Ds b o e hx) (I.base.keep b o e n hb hx) (I.base.free b o e n hx)
 ·obtain⟨sl,e1⟩:=I.base.slot b o e n hb hx;obtain⟨tN,e2⟩:=slot b _ (Nh b o e) hb (Ds b o e hx) e1 (I.base.free b o e n hx);exact⟨tN,e2⟩
 ·obtain⟨o',e1⟩:=I.base.there b o e hx;exact free b o' (Ds b o e hx) e1 (I.base.free b o e n hx)
 ·obtain⟨o',e1⟩:=I.base.there b o e hx;exact there b o' (Ds b o e hx) e1
 ·obtain⟨m1,e1⟩:=I.base.j0 b ps e;obtain⟨m2,e2⟩:=j0 b _ e1;exact⟨m1++m2,by rw[e2,Array.append_assoc]⟩
 ·obtain⟨m,hn,hl⟩:=I.loc;refine⟨m,ns m hn,λi x v e1 e2 e3=>?_⟩;obtain⟨u,r,l⟩:=hl i x v e1 e2 e3;refine⟨u,r,?_⟩
  rcases l with l|⟨k,c,e,z⟩
  ·exact .inl l
  ·exact .inr ⟨k,c,e,cellK x c e _ z⟩
 ·obtain⟨v,z⟩:=I.cell x c e;exact⟨v,cellK x c e v z⟩
 ·obtain⟨m,⟨o,_,_,ho,_⟩,_⟩:=I.loc;exact free _ o (λz=>(n9 _ z).2.1 rfl) ho I.free
 ·obtain⟨v,o,ho,hd⟩:=I.cell x c e;exact free c o (λz=>(n9 c z).2.2.1 x c e rfl) ho (I.ie x c e)
 ·obtain⟨e,n,ne,nf,d⟩:=I.pin p hp;have AK:p.1∉ch:=λz=>(n9 p.1 z).2.2.2 p hp rfl;exact⟨keep p.1 p.2 ne nf AK e n,free p.1 p.2 AK e n,ne,nf,d⟩
theorem Inv.un{t':Nat}(I:Inv X pins σ H s)(u:Un X.fs [] H H' s.heap h')(aL:fB X.prog X.w H' h'):Inv X pins σ H' {s with heap:=h',toks:=t'}:=by
 obtain⟨m,⟨o,es,ep,ho,r⟩,_⟩:=id I.loc;obtain⟨sl,hL⟩:=u.any ho I.free (by simp);exact I.step (g':=s.gens) (d':=s.drawn) (ch:=[]) (λ_ z=>nomatch z) (λb o _ hb _ e n=>u.keep b o e n hb (by simp)) (λb o _ hb _ e n=>u.slot b o e n hb (by simp)) (λb o _ e n=>u.free b o e n (by simp)) (λb o _ e=>u.there b o e (by simp)) u.jY u.jG u.j0 (λm' hm=>by
  obtain⟨o',Iu,Iy,kx,r'⟩:=hm;rw[ho] at kx;cases kx;exact⟨_,Iu,Iy,hL,r'⟩) aL I.bare
theorem Inv.call{g':Array lR}{t':Nat}{d':Drawn}{ch:List ae}(I:Inv X pins σ H s)(u:Un (mS X.stack) ch H H' s.heap h')(aL:fB X.prog X.w H' h')(hg:dI g')
  (n9:∀ b∈ch,(b∈X.ex\/X.s₀.heap.objs.size<=b)/\b≠X.env.locals/\(∀ x c,X.env.cells.lookup x=some c->c≠b)/\∀ p∈X.pn++pins,p.1≠b) :
  Inv X pins σ H' {s with heap:=h',gens:=g',drawn:=d',toks:=t'}:=by
 obtain⟨m,⟨o,es,ep,ho,r⟩,_⟩:=id I.loc;obtain⟨sl,hL⟩:=u.any ho I.free λz=>(n9 _ z).2.1 rfl;exact I.step (ch:=ch) n9 (λb o hL hb hc e n=>u.keep b o e n (λz=>(Xa.mp (I.iF b z)).elim hL hb) hc) (λb o _ _ hc e n=>u.any e n hc) (λb o hc e n=>u.free b o e n hc) (λb o hc e=>u.there b o e hc) u.jY u.jG u.j0 (λm' hm=>by
  obtain⟨o',Iu,Iy,kx,r'⟩:=hm;rw[ho] at kx;cases kx;exact⟨_,Iu,Iy,hL,r'⟩) aL hg
theorem Inv.turned{t':Nat}{it:ae}(I:Inv X pins σ H s)(k:∀ b o,b≠it->s.heap.get? b=some o->h'.get? b=some o)(hn:H it=none)(hL:it≠X.env.locals)
  (h1:it∈X.ex\/X.s₀.heap.objs.size<=it) (h2:∀ x c,X.env.cells.lookup x=some c->c≠it) (h3:∀ p∈X.pn++pins,p.1≠it):Inv X pins σ H {s with heap:=h',toks:=t'}:=by
 have Ng:∀ b u,H b=some u->b≠it:=λb u e z=>by rw[z,hn] at e;cases e
 refine I.step (g':=s.gens) (d':=s.drawn) (ch:=[it]) (λb hb=>?_) (λb o _ _ hc e _=>k b o (λz=>hc (by simp[z])) e) (λb o _ _ hc e _=>⟨o.slots,k b o (λz=>hc (by simp[z])) e⟩) (λ_ _ _ _ n=>n)
  (λb o hc e=>⟨o,k b o (λz=>hc (by simp[z])) e⟩) (λ_ _ e=>e) (λ_ _ _ e=>e) (λb ps e=>⟨#[],by rw[e];simp⟩) (λm hm=>?_) (λb u e=>?_) I.bare
 ·have e:b=it:=by simpa using hb
  subst e;exact⟨h1,hL,h2,h3⟩
 ·obtain⟨o,es,ep,ho,r⟩:=hm;exact⟨o,es,ep,k _ o (Jd hL) ho,r⟩
 ·refine(I.aL b u e).jw (λc v hc q=>k c v ?_ q) (λ_ q=>q) λ_ _ q=>q
  rcases hc with z|z
  ·rw[z];exact Ng b u e
  ·exact Ng c _ z
theorem Inv.tok(I:Inv X pins σ H s)(t:Nat):Inv X pins σ H {s with toks:=t}:=I.un (h':=s.heap) (t':=t) Un.refl I.aL
theorem Inv.kept{t':Nat}(I:Inv X pins σ H s)(k:∀ b u,s.heap.get? b=some u->h'.get? b=some u):Inv X pins σ H {s with heap:=h',toks:=t'}:=I.un (Un.kept k) (I.aL.kept k)
theorem Inv.laid{a:ae}{o:HO}{t':Nat}(I:Inv X pins σ H s)(k:∀ b u,s.heap.get? b=some u->h'.get? b=some u)(hp:s.heap.objs.size<=a)(new:ba X.prog X.w (upd H a o) h' a o) :
  Inv X pins σ (upd H a o) {s with heap:=h',toks:=t'}:=I.un (Un.laid k hp (I.aL.fresh hp)) (I.aL.laid k hp new)
theorem Inv.write{x e:ae}{o:HO}{t':Nat}(I:Inv X pins σ H s)(mu:CA (H x))(he:e=x\/H e=some (.own x))(k:∀ b u,b≠e->s.heap.get? b=some u->h'.get? b=some u)(tY:∃ u,h'.get? e=some u)
  (new:ba X.prog X.w (upd H x o) h' x o):Inv X pins σ (upd H x o) {s with heap:=h',toks:=t'}:=I.un (Un.write mu he k tY) (I.aL.write mu he k tY new)
theorem Inv.pins_of{pT:List (ae×Obj)}(I:Inv X pins σ H s)(h:∀ p∈pT,s.heap.get? p.1=some p.2/\H p.1=none/\p.1≠X.env.locals/\p.1∉X.fs/\∀ v,p.2.data≠.cell v):Inv X pT σ H s :=
 ⟨I.ok,I.os,I.bare,I.base,I.loc,I.cell,I.free,I.ie,λp hp=>(Xf.mp hp).elim (λz=>I.pin p (wj _ z)) (h p),I.aL,I.len⟩
theorem MF{N:List Str}(hN:N.Nodup){i j:Nat}{x:Str}(a:N[i]?=some x)(b:N[j]?=some x):i=j:=by
 obtain⟨h1,e1⟩:=xa.mp a;obtain⟨h2,e2⟩:=xa.mp b;exact(List.getElem_inj hN).mp (e1.trans e2.symm)
theorem ZbX{M:Model}{A:Around}{E:Value->Shared->Prop}{i:Nat}{x:Str}{v:V}{u:Value}{Q:Unit->Shared->Prop}(I:Inv X pins σ H s)(hN:X.N.Nodup)(hi:X.N[i]?=some x)(hx:Loc X.env.scope x)(r:RelV v u)
  (h:∀ s',Inv X pins (σ.set i (some v)) H s'->(∃ a,Hd a s.heap s'.heap/\(a=X.env.locals\/X.env.cells.lookup x=some a))->Q () s') (hf:X.fn x=true\/X.env.scope.names.lookup x=some .local:=by first|exact .inl rfl|exact .inr rfl|assumption):ag M A (storeName X.env x u) Q E s:=by
 obtain⟨m,hn,hl⟩:=id I.loc;have HU:(X.env.scope.kind == .class||(X.env.scope.kind == .module&&X.env.locals != X.env.globals))=false:=by rw[I.ok.kind];rfl
 have NI:i<σ.length:=by rw[I.len];exact(xa.mp hi).1
 have sN:=I.sN;have tracked:∀{a:ae}{h':Heap},(∃ o,s.heap.get? a=some o/\H a=none)->Hd a s.heap h'->fB X.prog X.w H h':=λ{a h'} ha hs b ob e=>by
  obtain⟨_,_,jD⟩:=ha;refine(I.aL b ob e).jw (λc w' hc q=>(hs.2 c ?_).trans q) (λ_ q=>q) λ_ _ q=>q;rintro rfl
  rcases hc with rfl|hc
  ·rw[jD] at e;cases e
  ·rw[jD] at hc;cases hc
 rcases hx with hk|hk
 ·refine wpAny_storeName_local hk hn (λh' hn' hs=>?_) HU;obtain⟨oL,_,_,hoL,_⟩:=id hn;refine h _ ⟨I.ok,I.os,I.bare,⟨λb o e n hb hx=>?_,λb o e n hb hx=>?_,I.base.free,λb o e hx=>?_,I.base.jY,I.base.jG,I.base.j0⟩,⟨_,hn',λj y v' e1 e2 e3=>?_⟩,λy c e=>?_,I.free,I.ie,λp hp=>?_,tracked ⟨oL,hoL,I.free⟩ hs,by simpa using I.len⟩ ⟨_,hs,.inl rfl⟩
  ·exact(hs.2 b (Ub (Xd (ua e) I.ok.above))).trans (I.base.keep b o e n hb hx)
  ·obtain⟨sl,e1⟩:=I.base.slot b o e n hb hx;exact⟨sl,(hs.2 b (Ub (Xd (ua e) I.ok.above))).trans e1⟩
  ·obtain⟨o',e1⟩:=I.base.there b o e hx;exact⟨o',(hs.2 b (Ub (Xd (ua e) I.ok.above))).trans e1⟩
  ·by_cases hj:j=i
   ·subst hj;rw[hi] at e1;cases e1;rw[Xm NI] at e2;cases e2;exact⟨u,r,.inl ⟨hk,by simp⟩⟩
   ·rw[Wl (Jd hj)] at e2;obtain⟨u',r',q⟩:=hl j y v' e1 e2 e3;refine⟨u',r',?_⟩
    rcases q with ⟨k,e⟩|⟨k,c,e,z⟩
    ·refine .inl ⟨k,?_⟩;have:y≠x:=λe=>hj (MF hN e1 (e ▸ hi));simp[this,e]
    ·exact .inr ⟨k,c,e,z.sameBut hs (sN y c e)⟩
  ·obtain⟨w',z⟩:=I.cell y c e;exact⟨w',z.sameBut hs (sN y c e)⟩
  ·obtain⟨e,n,ne,nf,d⟩:=I.pin p hp;exact⟨(hs.2 p.1 ne).trans e,n,ne,nf,d⟩
 ·have HL:X.fn x=true:=by
   rcases hf with z|z
   ·exact z
   ·rw[z] at hk;cases hk
  obtain⟨c,hc⟩:=I.ok.has x (.inl hk);obtain⟨w',z⟩:=I.cell x c hc;refine wpAny_storeName_cell I.ok.kind hk hc z (λh' cQ hs=>?_);obtain⟨oc,NB,Ht⟩:=id z;refine h {s with heap:=h'} ⟨I.ok,I.os,I.bare,⟨λb o e n hb hx=>?_,λb o e n hb hx=>?_,I.base.free,λb o e hx=>?_,I.base.jY,I.base.jG,I.base.j0⟩,⟨m,hn.sameBut hs (Jd (sN x c hc)),λj y v' e1 e2 e3=>?_⟩,λy c' e=>?_,I.free,I.ie,λp hp=>?_,tracked ⟨oc,NB,I.ie x c hc⟩ hs,by simpa using I.len⟩ ⟨c,hs,.inr hc⟩
  ·exact(hs.2 b (Ub (Xd (ua e) (I.ok.IP x c HL hc)))).trans (I.base.keep b o e n hb hx)
  ·obtain⟨sl,e1⟩:=I.base.slot b o e n hb hx;exact⟨sl,(hs.2 b (Ub (Xd (ua e) (I.ok.IP x c HL hc)))).trans e1⟩
  ·obtain⟨o',e1⟩:=I.base.there b o e hx;exact⟨o',(hs.2 b (Ub (Xd (ua e) (I.ok.IP x c HL hc)))).trans e1⟩
  ·by_cases hj:j=i
   ·subst hj;rw[hi] at e1;cases e1;rw[Xm NI] at e2;cases e2;exact⟨u,r,.inr ⟨.inl hk,c,hc,cQ⟩⟩
   ·rw[Wl (Jd hj)] at e2;obtain⟨u',r',q⟩:=hl j y v' e1 e2 e3;refine⟨u',r',?_⟩
    rcases q with q|⟨k,c',e,z'⟩
    ·exact .inl q
    ·refine .inr ⟨k,c',e,z'.sameBut hs ?_⟩;rintro rfl;exact hj (MF hN e1 (I.ok.inj _ _ _ e hc ▸ hi))
  ·by_cases oY:c'=c
   ·subst oY;exact⟨_,cQ⟩
   ·obtain⟨w2,z2⟩:=I.cell y c' e;exact⟨w2,z2.sameBut hs oY⟩
  ·obtain⟨e,n,ne,nf,d⟩:=I.pin p hp;refine⟨(hs.2 p.1 ?_).trans e,n,ne,nf,d⟩;intro q;rw[q,NB] at e;have q':oc=p.2:=gb.inj e;exact d w' (by rw[<- q'];exact Ht)
theorem Zb3{M:Model}{A:Around}{E:Value->Shared->Prop}{i:Nat}{x:Str}{v:V}{u:Value}{Q:Unit->Shared->Prop}(I:Inv X pins σ H s)(hN:X.N.Nodup)(hi:X.N[i]?=some x)(hx:Loc X.env.scope x)(r:RelV v u)
  (h:∀ s',Inv X pins (σ.set i (some v)) H s'->Q () s') (hf:X.fn x=true\/X.env.scope.names.lookup x=some .local:=by first|exact .inl rfl|exact .inr rfl|assumption):ag M A (storeName X.env x u) Q E s :=
 ZbX I hN hi hx r (λs' I' _=>h s' I') hf
theorem Inv.rl{s':Shared}{ch:List ae}(I:Inv X pins σ H s)(ho:s'.os=s.os)(u:Un (mS X.stack) ch H H' s.heap s'.heap)(aL:fB X.prog X.w H' s'.heap)(hg:dI s'.gens)
  (n9:∀ b∈ch,(b∈X.ex\/X.s₀.heap.objs.size<=b)/\b≠X.env.locals/\(∀ x c,X.env.cells.lookup x=some c->c≠b)/\∀ p∈X.pn++pins,p.1≠b):Inv X pins σ H' s':=by
 obtain⟨h',g',d',t',o'⟩:=s';have e:o'=s.os:=ho;subst e;exact I.call (g':=g') (t':=t') (d':=d') u aL hg n9
end
noncomputable abbrev XK:=Value->Option ae->Hp->Prop
noncomputable abbrev St:=List (Option V)
noncomputable abbrev VK:=V->Hp->Prop
noncomputable abbrev TE:=St->Hp->VK->Prop
noncomputable abbrev TT:=St->Hp->(Bool->Hp->Prop)->Prop
noncomputable abbrev TA:=St->Hp->(List V->Hp->Prop)->Prop
structure Ends where
 nx:St->Hp->Prop
 rt:VK
 bk:St->Hp->Prop:=λ_ _=>False
 ct:St->Hp->Prop:=λ_ _=>False
noncomputable abbrev TS:=Ends->St->Hp->Prop
noncomputable def EP(X:Cx)(pins:List (ae×Obj))(σ:St)(Q:VK)(u:Value)(s':Shared):Prop:=∃ v H',Inv X pins σ H' s'/\RelV v u/\Q v H'
noncomputable def TP(X:Cx)(pins:List (ae×Obj))(σ:St)(Q:Bool->Hp->Prop)(b:Bool)(s':Shared):Prop:=∃ H',Inv X pins σ H' s'/\Q b H'
noncomputable def AP(X:Cx)(pins:List (ae×Obj))(σ:St)(Q:List V->Hp->Prop)(us:List Value)(s':Shared):Prop:=∃ vs H',Inv X pins σ H' s'/\Vals vs us/\Q vs H'
noncomputable def SP(X:Cx)(pins:List (ae×Obj))(D:Ends)(f:Flow)(s':Shared):Prop :=
 match f with
 |.next=>∃ σ' H',Inv X pins σ' H' s'/\D.nx σ' H'
 |.brk=>∃ σ' H',Inv X pins σ' H' s'/\D.bk σ' H'
 |.cont=>∃ σ' H',Inv X pins σ' H' s'/\D.ct σ' H'
 |.ret u=>∃ v σ' H',Inv X pins σ' H' s'/\RelV v u/\D.rt v H'
noncomputable def PE(X:Cx)(e:Expr)(t:TE):Prop :=
 ∀(pins:List (ae×Obj)) (s:Shared) (σ:St) (H:Hp) (Q:VK),Inv X pins σ H s->t σ H Q->ag (ah X.prog X.w) X.A (eval e X.env) (EP X pins σ Q) X.xe s
noncomputable def PT(X:Cx)(e:Expr)(t:TT):Prop :=
 ∀(pins:List (ae×Obj)) (s:Shared) (σ:St) (H:Hp) (Q:Bool->Hp->Prop),Inv X pins σ H s->t σ H Q->ag (ah X.prog X.w) X.A (kZ e X.env (eval e X.env)) (TP X pins σ Q) X.xe s
noncomputable def PW(X:Cx)(e:Expr)(t:TT):Prop :=
 ∀(whole:Sem Value)(pins:List (ae×Obj)) (s:Shared) (σ:St) (H:Hp) (Q:Bool->Hp->Prop),Inv X pins σ H s->t σ H Q->ag (ah X.prog X.w) X.A (kZ e X.env whole) (TP X pins σ Q) X.xe s
theorem PW.pt{X:Cx}{e:Expr}{t:TT}(h:PW X e t):PT X e t:=h _
noncomputable def PA(X:Cx)(es:List Expr)(t:TA):Prop :=
 ∀(pos:Pos)(pins:List (ae×Obj)) (s:Shared) (σ:St) (H:Hp) (Q:List V->Hp->Prop),Inv X pins σ H s->t σ H Q->ag (ah X.prog X.w) X.A (spliced (bf pos (ao es X.env))) (AP X pins σ Q) X.xe s
noncomputable def PS(X:Cx)(st:Stmt)(t:TS):Prop :=
 ∀(pins:List (ae×Obj)) (s:Shared) (σ:St) (H:Hp) (D:Ends),Inv X pins σ H s->t D σ H->ag (ah X.prog X.w) X.A (exec st X.env) (SP X pins D) X.xe s
noncomputable def iu(X:Cx)(st:List Stmt)(t:TS):Prop :=
 ∀(pins:List (ae×Obj)) (s:Shared) (σ:St) (H:Hp) (D:Ends),Inv X pins σ H s->t D σ H->ag (ah X.prog X.w) X.A (execs st X.env) (SP X pins D) X.xe s
theorem bc{α:Type}{t:Sem α}{Q Q':α->Shared->Prop}{M:Model}{A:Around}{E:Value->Shared->Prop}{s:Shared}(h:ag M A t Q E s)(hQ:∀ a s,Q a s->Q' a s):ag M A t Q' E s:=aM h hQ λ_ _ x=>x
section
variable {X:Cx}
theorem bin{a b:Expr}{ta tb:TE}(ha:PE X a ta)(hb:PE X b tb){pins:List (ae×Obj)}{s:Shared}{σ:St}{H:Hp}{R:V->V->Hp->Prop}(I:Inv X pins σ H s)(h:ta σ H λx H1=>tb σ H1 λy H2=>R x y H2)
  {α:Type} {Q:α->Shared->Prop} {f:Value->Value->Sem α}
  (hf:∀ v u s2 x y H2,Inv X pins σ H2 s2->RelV x v->RelV y u->R x y H2->ag (ah X.prog X.w) X.A (f v u) Q X.xe s2) :
  ag (ah X.prog X.w) X.A (eval a X.env) (λv s₁=>ag (ah X.prog X.w) X.A (eval b X.env) (λu s₂=>ag (ah X.prog X.w) X.A (f v u) Q X.xe s₂) X.xe s₁) X.xe s:=by
 refine bc (ha pins s σ H _ I h) λv s1 ⟨x,H1,I1,r1,q1⟩=>?_;refine bc (hb pins s1 σ H1 _ I1 q1) λu s2 ⟨y,H2,I2,r2,q2⟩=>?_;exact hf v u s2 x y H2 I2 r1 r2 q2
noncomputable def Fs(i:Nat):TE:=λσ H Q=>∃ v,σ[i]?=some (some v)/\Q v H
noncomputable def tC(v:V):TE:=λ_ H Q=>Q v H
theorem KC{i:Nat}{x:Str}{pos:Pos}(hN:X.N[i]?=some x)(hv:Py X.env.scope x)(hd:(x==("__debug__":Str))=false:=by decide)(ky:(x==("__classdict__":Str))=false:=by decide):PE X (.Name x pos) (Fs i):=by
 intro pins s σ H Q I h;obtain⟨v,e,h⟩:=h;obtain⟨m,hn,hl⟩:=I.loc;obtain⟨u,r,l⟩:=hl i x v hN e hv;have fin:EP X pins σ Q u s:=⟨v,H,I,r,h⟩
 rcases l with ⟨hk,hm⟩|⟨hk,c,hc,lJ⟩
 ·exact fj (fO I.ok.kind hk hn hm fin) hd
 ·rcases hk with hk|hk
  ·exact fj (wpAny_loadName_cell I.ok.kind hk hc lJ fin) hd
  ·exact fj (gw I.ok.kind hk hc lJ fin ky) hd
theorem N4{i j pos}:PE X (.Constant (.int i) j pos) (tC (.int i)):=λ_ _ _ H _ I h=>gN ⟨.int i,H,I.tok _,⟨_,rfl⟩,h⟩
theorem Dc{b j pos}:PE X (.Constant (.bool b) j pos) (tC (.bl b)):=λ_ _ _ H _ I h=>Constant_bool ⟨.bl b,H,I,rfl,h⟩
theorem QcR{j pos}:PE X (.Constant .none j pos) (tC .bG):=λ_ _ _ H _ I h=>kF ⟨.bG,H,I,rfl,h⟩
theorem QcT{x j pos}:PE X (.Constant (.str x) j pos) (tC (.str x)):=λ_ _ _ H _ I h=>Calls.Constant_str ⟨.str x,H,I.tok _,⟨_,rfl⟩,h⟩
noncomputable def Gl(X:Cx)(x:Str):Prop:=X.env.kindOf x=some .globalImplicit
theorem EH{E:Value->Shared->Prop}{pins:List (ae×Obj)}{s:Shared}{σ:St}{H:Hp}{x:Str}{u:Value}{pos:Pos}{Q:Value->Shared->Prop}(I:Inv X pins σ H s)(hg:Gl X x)(hm:X.mg x=some u)(h:Q u s)
  (hd:(x==("__debug__":Str))=false:=by decide):ag (ah X.prog X.w) X.A (eval (.Name x pos) X.env) Q E s :=
 Je I.ok.kind hg (Calls.loadGlobal_global (by rw[I.ok.glob];exact I.mod.glob.keeps I.bk) hm h) hd
theorem YI{E:Value->Shared->Prop}{pins:List (ae×Obj)}{s:Shared}{σ:St}{H:Hp}{x:Str}{u:Value}{pos:Pos}{Q:Value->Shared->Prop}(I:Inv X pins σ H s)(hg:Gl X x)(hm:X.mg x=none)(hv:bB x=some u)(h:Q u s)
  (hn:x≠"__name__":=by decide) (hd:(x==("__debug__":Str))=false:=by decide):ag (ah X.prog X.w) X.A (eval (.Name x pos) X.env) Q E s:=by
 obtain⟨mb,h1,h2⟩:=I.mod.blt;exact Je I.ok.kind hg (He (by rw[I.ok.glob];exact I.mod.glob.keeps I.bk) hm (by rw[I.ok.blt];exact h1.keeps I.bk) ((h2 x hn).trans hv) h) hd
theorem GH{x:Str}{v:V}{u:Value}{pos:Pos}(hg:Gl X x)(hm:X.mg x=some u)(r:RelV v u)(hd:(x==("__debug__":Str))=false:=by decide):PE X (.Name x pos) (tC v) :=
 λ_ _ _ H _ I h=>EH I hg hm ⟨v,H,I,r,h⟩ hd
theorem Ycr{x:Str}{v:V}{u:Value}{pos:Pos}(hg:Gl X x)(hm:X.mg x=none)(hv:bB x=some u)(r:RelV v u)(hn:x≠"__name__":=by decide)(hd:(x==("__debug__":Str))=false:=by decide):PE X (.Name x pos) (tC v) :=
 λ_ _ _ H _ I h=>YI I hg hm hv ⟨v,H,I,r,h⟩ hn hd
variable {a b:Expr} {ta tb:TE} {pos:Pos}
noncomputable def PC(X:Cx)(op:eF)(a b:Expr)(t:TE):Prop :=
 ∀(pins:List (ae×Obj)) (s:Shared) (σ:St) (H:Hp) (Q:VK),Inv X pins σ H s->t σ H Q ->
  ag (ah X.prog X.w) X.A (eval a X.env) (λv s₁=>ag (ah X.prog X.w) X.A (eval b X.env) (λu s₂=>ag (ah X.prog X.w) X.A (aJ op v u) (EP X pins σ Q) X.xe s₂) X.xe s₁) X.xe s
theorem O0(b:Expr){op:eF}(h:op≠.In)(h2:op≠.NotIn):bC op b=false:=by
 have e1:(op==eF.In)=false:=by cases op <;> first|rfl|exact absurd rfl h
 have e2:(op==eF.NotIn)=false:=by cases op <;> first|rfl|exact absurd rfl h2
 cases b <;> simp[bC,e1,e2]
noncomputable def vY(ta:TE):TE:=λσ H Q=>ta σ H λx H1=>Q (.bl (!decide (x=.bG))) H1
theorem RelV.none_iff{x:V}{v:Value}(r:RelV x v):(v==Ka)=decide (x=.bG):=by
 cases x with
 |bG=>cases r;rfl
 |bl _=>cases r;rfl
 |int _=>obtain⟨t,rfl⟩:=r;rfl
 |str _=>obtain⟨t,rfl⟩:=r;rfl
 |Cf _=>obtain⟨t,rfl⟩:=r;rfl
 |rh _=>obtain⟨t,rfl⟩:=r;rfl
 |ref _=>cases r;rfl
 |ty _=>cases r;rfl
theorem ML{j pos'}(ha:PE X a ta):PC X .IsNot a (.Constant .none j pos') (vY ta):=by
 intro pins s σ H Q I h;refine bc (ha pins s σ H _ I h) λv s1 ⟨x,H1,I1,r1,q1⟩=>?_;exact kF (isnot_none_gen ⟨.bl _,H1,I1,by rw[r1.none_iff];rfl,q1⟩)
noncomputable def tB(t:TE):TT:=λσ H Q=>t σ H λx H1=>∃ c,x=.bl c/\Q c H1
theorem KA{op:eF}{t:TE}(h:PC X op a b t)(h1:bC op b=false:=by first|exact O0 _ (by decide) (by decide)|rfl):PE X (.Compare a [op] [b] pos) t:=λpins s σ H Q I hw=>i9 (h pins s σ H Q I hw) h1
theorem LL{op:eF}{t:TE}(h:PC X op a b t)(h1:bC op b=false:=by first|exact O0 _ (by decide) (by decide)|rfl):PT X (.Compare a [op] [b] pos) (tB t):=by
 intro pins s σ H Q I hw;refine fH (bc (h pins s σ H _ I hw) λv s1 h1=>bc h1 λu s2 h2=>bc h2 λc s3 ⟨x,H1,I1,r1,q1⟩=>?_) h1;obtain⟨d,rfl,q⟩:=q1;cases r1;exact aD ⟨H1,I1,q⟩
theorem ZcW{e:Expr}{t:TE}(h:PE X e t)(he:∀ whole,kZ e X.env whole=(do let v<-whole;i6 e.pos;cx [v] (truthy v)):=by intro _;rfl):PT X e (tB t):=by
 intro pins s σ H Q I hw;refine isTrue_plain (bc (h pins s σ H _ I hw) λv s1 ⟨x,H1,I1,r1,q1⟩=>?_) (he _);obtain⟨d,rfl,q⟩:=q1;cases r1;exact aD ⟨H1,I1,q⟩
variable {tA C6:TT} {rest:List Expr}
noncomputable def FC(t u:TT):TT:=λσ H Q=>t σ H λc H1=>if c=true then u σ H1 Q else Q false H1
noncomputable def tOr(t u:TT):TT:=λσ H Q=>t σ H λc H1=>if c=true then Q true H1 else u σ H1 Q
noncomputable def Fx(t:TT):TT:=λσ H Q=>t σ H λc H1=>Q (!c) H1
theorem qcE(ha:PT X a tA):PW X (.BoolOp .And [a] pos) tA:=by
 intro wh pins s σ H Q I h;refine isTrue_and (bc (ha pins s σ H Q I h) λc s1 e=>?_);cases c with
 |true=>exact isTrue_and_nil e
 |false=>exact e
theorem Zc2(ha:PT X a tA):PW X (.BoolOp .Or [a] pos) tA:=by
 intro wh pins s σ H Q I h;refine isTrue_or (bc (ha pins s σ H Q I h) λc s1 e=>?_);cases c with
 |false=>exact isTrue_or_nil e
 |true=>exact e
theorem Zda(ha:PT X a tA)(hb:PW X (.BoolOp .And (b::rest) pos) C6):PW X (.BoolOp .And (a::b::rest) pos) (FC tA C6):=by
 intro wh pins s σ H Q I h;refine isTrue_and (bc (ha pins s σ H _ I h) λc s1 ⟨H1,I1,q1⟩=>?_);cases c with
 |true=>exact hb wh pins s1 σ H1 Q I1 q1
 |false=>exact⟨H1,I1,q1⟩
theorem Ac(ha:PT X a tA)(hb:PW X (.BoolOp .Or (b::rest) pos) C6):PW X (.BoolOp .Or (a::b::rest) pos) (tOr tA C6):=by
 intro wh pins s σ H Q I h;refine isTrue_or (bc (ha pins s σ H _ I h) λc s1 ⟨H1,I1,q1⟩=>?_);cases c with
 |true=>exact⟨H1,I1,q1⟩
 |false=>exact hb wh pins s1 σ H1 Q I1 q1
theorem qc8(ha:PT X a tA):PT X (.UnaryOp .Not a pos) (Fx tA):=by
 intro pins s σ H Q I h;exact isTrue_not (ha pins s σ H (λc H1=>Q (!c) H1) I h)
noncomputable def wN(ta tb:TE):TE:=λσ H Q=>ta σ H λx H1=>∃ c,x=.bl c/\if c=true then tb σ H1 Q else Q (.bl false) H1
noncomputable def Fw(ta tb:TE):TE:=λσ H Q=>ta σ H λx H1=>∃ c,x=.bl c/\if c=true then Q (.bl true) H1 else tb σ H1 Q
noncomputable def vX(ta:TE):TE:=λσ H Q=>ta σ H λx H1=>∃ c,x=.bl c/\Q (.bl (!c)) H1
theorem P7{op}{t:TE}(h:PE X a t):PE X (.BoolOp op [a] pos) t:=λpins s σ H Q I hw=>BoolOp_one (h pins s σ H Q I hw)
theorem yc3(ha:PE X a ta)(hb:PE X (.BoolOp .And (b::rest) pos) tb):PE X (.BoolOp .And (a::b::rest) pos) (wN ta tb):=by
 intro pins s σ H Q I h;refine BoolOp_and (bc (ha pins s σ H _ I h) λv s1 ⟨x,H1,I1,r1,q1⟩=>?_);obtain(⟨c,rfl,q1⟩):=q1;cases r1;refine aD ?_;cases c with
 |true=>exact hb pins s1 σ H1 Q I1 q1
 |false=>exact⟨.bl false,H1,I1,rfl,q1⟩
theorem Aj(ha:PE X a ta)(hb:PE X (.BoolOp .Or (b::rest) pos) tb):PE X (.BoolOp .Or (a::b::rest) pos) (Fw ta tb):=by
 intro pins s σ H Q I h;refine BoolOp_or (bc (ha pins s σ H _ I h) λv s1 ⟨x,H1,I1,r1,q1⟩=>?_);obtain(⟨c,rfl,q1⟩):=q1;cases r1;refine aD ?_;cases c with
 |false=>exact hb pins s1 σ H1 Q I1 q1
 |true=>exact⟨.bl true,H1,I1,rfl,q1⟩
theorem YcY(ha:PE X a ta):PE X (.UnaryOp .Not a pos) (vX ta):=by
 intro pins s σ H Q I h;refine UnaryOp_ (bc (ha pins s σ H _ I h) λv s1 ⟨x,H1,I1,r1,q1⟩=>?_);obtain(⟨c,rfl,q1⟩):=q1;cases r1;exact not_of (aD ⟨.bl (!c),H1,I1,rfl,q1⟩)
noncomputable def tIf(t:TT)(ta tb:TE):TE:=λσ H Q=>t σ H λc H1=>if c=true then ta σ H1 Q else tb σ H1 Q
theorem Yci{c:Expr}(hc:PT X c tA)(ha:PE X a ta)(hb:PE X b tb):PE X (.IfExp c a b pos) (tIf tA ta tb):=by
 intro pins s σ H Q I h;refine wpAny_IfExp (bc (hc pins s σ H _ I h) λd s1 ⟨H1,I1,q1⟩=>?_);cases d with
 |true=>exact ha pins s1 σ H1 Q I1 q1
 |false=>exact hb pins s1 σ H1 Q I1 q1
end
noncomputable def fK(K:Jc)(H:Hp)(a:ae)(xs:List V):Prop :=
 Rd H a (.lst xs) \/
  ∃(o:Obj)(av:Array Value)(n:Nat),K.lookup a=some o/\o.cls=.type "list"/\o.dict=none/\o.data=.seq av n/\av.size<=sizeLine/\Vals xs av.toList
noncomputable def gA(K:Jc)(H:Hp)(a:ae)(xs:List V):Prop :=
 Rd H a (.tup xs) \/
  ∃(o:Obj)(av:Array Value)(n:Nat),K.lookup a=some o/\o.cls=.type "tuple"/\o.data=.seq av n/\av.size<=sizeLine/\Vals xs av.toList
noncomputable def IV:Value->Option V
 |.none=>some .bG
 |.bool b=>some (.bl b)
 |.int i _=>some (.int i)
 |.str x _=>some (.str x)
 |.bytes b _=>some (.Cf b)
 |.float b _=>some (.rh b)
 |.ref a=>some (.ref a)
 |.type n=>some (.ty n)
 |_=>none
theorem RelV.abs{x:V}{u:Value}(r:RelV x u):IV u=some x:=by
 cases x with
 |bG=>cases r;rfl
 |bl _=>cases r;rfl
 |int _=>obtain⟨t,rfl⟩:=r;rfl
 |str _=>obtain⟨t,rfl⟩:=r;rfl
 |Cf _=>obtain⟨t,rfl⟩:=r;rfl
 |rh _=>obtain⟨t,rfl⟩:=r;rfl
 |ref _=>cases r;rfl
 |ty _=>cases r;rfl
theorem RelV.inj{x y:V}{u:Value}(r:RelV x u)(q:RelV y u):x=y:=gb.inj (r.abs.symm.trans q.abs)
theorem Vals.inj:∀{xs ys:List V}{us:List Value},Vals xs us->Vals ys us->xs=ys
 |_,_,_,.nil,.nil=>rfl
 |_,_,_,.cons r t,.cons r' t'=>by rw[r.inj r',Vals.inj t t']
section
variable {X:Cx} {pins:List (ae×Obj)} {σ:St} {H:Hp} {s:Shared} {a:ae} {xs ys:List V}
theorem fK.of{K:Jc}(h:H a=some (.lst xs)):fK K H a xs:=.inl (.inl h)
theorem gA.of{K:Jc}(h:H a=some (.tup xs)):gA K H a xs:=.inl (.inl h)
theorem Inv.list(I:Inv X pins σ H s)(h:fK X.K H a xs):∃ av:List Value,Vals xs av/\PlainL s.heap a av.toArray/\xs.length<=sizeLine:=by
 rcases h with h|⟨o,av,n,hk,hc,hd,hs,hz,r⟩
 ·obtain⟨z,av,n,r,e⟩:=h.ok I.aL;exact⟨av,r,⟨_,n,e,rfl,rfl,rfl⟩,z⟩
 ·refine⟨av.toList,r,⟨o,n,I.iB a o hk,hc,hd,by simpa using hs⟩,?_⟩;have e:=r.length;simp only[wm] at e
  lia
theorem Inv.tuple(I:Inv X pins σ H s)(h:gA X.K H a xs):∃ av:List Value,Vals xs av/\gK s.heap a av.toArray/\xs.length<=sizeLine:=by
 rcases h with h|⟨o,av,n,hk,hc,hs,hz,r⟩
 ·obtain⟨z,av,r,p⟩:=h.ok I.aL;exact⟨av,r,p,z⟩
 ·refine⟨av.toList,r,⟨o,I.iB a o hk,hc,n,by simpa using hs⟩,?_⟩;have e:=r.length;simp only[wm] at e
  lia
theorem Inv.list_inj(I:Inv X pins σ H s)(h:fK X.K H a xs)(h':fK X.K H a ys):xs=ys:=by
 obtain⟨av,r,⟨o,n,e,_,_,d⟩,_⟩:=I.list h;obtain⟨its',r',⟨o',n',e',_,_,d'⟩,_⟩:=I.list h';rw[e] at e';cases e';rw[d] at d';injection d' with d1 _
 have:av=its':=by simpa using congrArg UF d1
 subst this;exact r.inj r'
theorem Inv.tuple_inj(I:Inv X pins σ H s)(h:gA X.K H a xs)(h':gA X.K H a ys):xs=ys:=by
 obtain⟨av,r,⟨o,e,_,n,d⟩,_⟩:=I.tuple h;obtain⟨its',r',⟨o',e',_,n',d'⟩,_⟩:=I.tuple h';rw[e] at e';cases e';rw[d] at d';injection d' with d1 _
 have:av=its':=by simpa using congrArg UF d1
 subst this;exact r.inj r'
end
section
variable {X:Cx} {st:Stmt} {rest:List Stmt} {t u:TS} {e:Expr} {te:TE} {pos:Pos}
noncomputable def Lq:TS:=λD σ H=>D.nx σ H
noncomputable def Fu(t u:TS):TS:=λD σ H=>t {D with nx:=u D} σ H
theorem YcE:iu X [] Lq:=λ_ _ σ H _ I h=>dB ⟨σ,H,I,h⟩
theorem ycg(h1:PS X st t)(h2:iu X rest u):iu X (st::rest) (Fu t u):=by
 intro pins s σ H D I h;refine iE (bc (h1 pins s σ H {D with nx:=u D} I h) λf s1 q=>?_);cases f with
 |next =>
  obtain⟨σ',H',I',q⟩:=q;exact h2 pins s1 σ' H' D I' q
 |ret v=>exact q
 |brk=>exact q
 |cont=>exact q
theorem Zcr(h1:PS X st t):iu X [st] t:=by
 intro pins s σ H D I h;refine iE (bc (h1 pins s σ H D I h) λf s1 q=>?_);cases f with
 |next=>exact dB q
 |ret v=>exact q
 |brk=>exact q
 |cont=>exact q
theorem QcE:PS X (.Pass pos) Lq:=λ_ _ σ H _ I h=>wpAny_Pass ⟨σ,H,I,h⟩
theorem Inv.quiet{pins:List (ae×Obj)}{σ:St}{H:Hp}{s:Shared}(I:Inv X pins σ H s):interactive X.env=false:=by simp[interactive,I.ok.kind]
noncomputable def v9(te:TE):TS:=λD σ H=>te σ H λ_ H1=>D.nx σ H1
theorem ZcB(he:PE X e te)(hs:bh e none pos.line X.env=pure false:=by rfl):PS X (.Expr e pos) (v9 te):=by
 intro pins s σ H D I h;exact wpAny_Expr_any (bc (he pins s σ H _ I h) λv s1 ⟨x,H1,I1,r1,q1⟩=>⟨σ,H1,I1,q1⟩) I.quiet hs
noncomputable def Fv(te:TE):TS:=λD σ H=>te σ H D.rt
theorem Ms(he:PE X e te):PS X (.Return (some e) pos) (Fv te):=by
 intro pins s σ H D I h;exact wpAny_Return_some (bc (he pins s σ H _ I h) λv s1 ⟨x,H1,I1,r1,q1⟩=>⟨x,σ,H1,I1,r1,q1⟩)
noncomputable def Fz(c:TT)(t u:TS):TS:=λD σ H=>c σ H λb H1=>if b=true then t D σ H1 else u D σ H1
theorem Ad{c:Expr}{a b:List Stmt}{tc:TT}(hc:PT X c tc)(ha:iu X a t)(hb:iu X b u):PS X (.If c a b pos) (Fz tc t u):=by
 intro pins s σ H D I h;refine wpAny_If (bc (hc pins s σ H _ I h) λd s1 ⟨H1,I1,q1⟩=>?_);cases d with
 |true=>exact ha pins s1 σ H1 D I1 q1
 |false=>exact hb pins s1 σ H1 D I1 q1
end
noncomputable abbrev TG:=V->St->Hp->(St->Hp->Prop)->Prop
noncomputable abbrev rz:=List V->St->Hp->(St->Hp->Prop)->Prop
noncomputable def PG(X:Cx)(target:Expr)(t:TG):Prop :=
 ∀(pins:List (ae×Obj)) (s:Shared) (σ:St) (H:Hp) (v:V) (u:Value) (Q:St->Hp->Prop),Inv X pins σ H s->RelV v u->t v σ H Q ->
  ag (ah X.prog X.w) X.A (eP target X.env u) (λ_ s'=>∃ σ' H',Inv X pins σ' H' s'/\Q σ' H') X.xe s
noncomputable def oj(X:Cx)(ts:List Expr)(t:rz):Prop :=
 ∀(pins:List (ae×Obj)) (s:Shared) (σ:St) (H:Hp) (vs:List V) (us:List Value) (Q:St->Hp->Prop),Inv X pins σ H s->Vals vs us->t vs σ H Q ->
  ag (ah X.prog X.w) X.A (assignInOrder ((bJ ts X.env).map (·.2)) us) (λ_ s'=>∃ σ' H',Inv X pins σ' H' s'/\Q σ' H') X.xe s
noncomputable abbrev sU:=V->V->V->Hp->(Hp->Prop)->Prop
noncomputable def Cz(X:Cx)(t:sU):Prop :=
 ∀(pins:List (ae×Obj)) (s:Shared) (σ:St) (H:Hp) (o i v:V) (ov iv u:Value) (Q:Hp->Prop),Inv X pins σ H s->RelV o ov->RelV i iv->RelV v u->t o i v H Q ->
  ag (ah X.prog X.w) X.A (kT ov iv u) (λ_ s'=>∃ H',Inv X pins σ H' s'/\Q H') X.xe s
section
variable {X:Cx} {pos:Pos}
noncomputable def Jt(i:Nat):TG:=λv σ H Q=>Q (σ.set i (some v)) H
theorem KZ{i:Nat}{x:Str}(hN:X.N.Nodup)(hi:X.N[i]?=some x)(hx:Loc X.env.scope x)(hf:X.fn x=true\/X.env.scope.names.lookup x=some .local:=by first|exact .inl rfl|exact .inr rfl|assumption):PG X (.Name x pos) (Jt i):=by
 intro pins s σ H v u Q I r h;exact wpAny_assign_Name (Zb3 I hN hi hx r (λs' I'=>⟨_,H,I',h⟩) hf)
noncomputable def Io:rz:=λvs σ H Q=>vs=[]/\Q σ H
noncomputable def BG(t:TG)(u:rz):rz:=λvs σ H Q=>∃ v r,vs=v::r/\t v σ H λσ' H'=>u r σ' H' Q
theorem Qcr:oj X [] Io:=by
 intro pins s σ H vs us Q I r h;obtain(⟨e,h⟩):=h;subst e;cases r;exact assignInOrder_nil ⟨σ,H,I,h⟩
theorem Zcb{e:Expr}{es:List Expr}{t:TG}{u:rz}(h1:PG X e t)(h2:oj X es u)
  (hs:(bJ (e::es) X.env).map (·.2)=eP e X.env::(bJ es X.env).map (·.2):=by rfl):oj X (e::es) (BG t u):=by
 intro pins s σ H vs us Q I r h;obtain(⟨v,vr,e1,h⟩):=h;subst e1;cases r with
 |cons r rr =>
  rw[hs];refine assignInOrder_cons (bc (h1 pins s σ H _ _ _ I r h) λ_ s1 ⟨σ1,H1,I1,q1⟩=>?_);exact h2 pins s1 σ1 H1 _ _ Q I1 rr q1
noncomputable def Il(K:Jc)(n:Nat)(t:rz):TG:=λv σ H Q=>∃ a xs,v=.ref a/\gA K H a xs/\xs.length=n/\t xs σ H Q
theorem Yc3{es:List Expr}{k:Nat}{t:rz}{n:Nat}(hc:X.calm=true)(h:oj X es t)
  (hn:(bJ es X.env).length=n:=by rfl) (sd:(bJ es X.env).findIdx? (·.1)=none:=by rfl):PG X (.Tuple es k pos) (Il X.K n t):=by
 intro pins s σ H v u Q I r hw;obtain(⟨a,xs,e1,hq,hl,hw⟩):=hw;subst e1;cases r;obtain(⟨av,rv,ht,hz⟩):=I.tuple hq;refine assign_Tuple_tuple (I.ok.hd hc) ht (by simp[hn,<- hl,rv.length]) sd λh' hx=>?_;have I1:Inv X pins σ H {s with heap:=h'}:=I.kept (t':=s.toks) λb o e=>hx b o (Ub (ua e)) e;exact h pins _ σ H xs _ Q I1 (by simpa using rv) hw
noncomputable def Im(to ti:TE)(t:sU):TG:=λv σ H Q=>to σ H λo H1=>ti σ H1 λi H2=>t o i v H2 λH3=>Q σ H3
theorem Qc7{o i:Expr}{to ti:TE}{t:sU}(ho:PE X o to)(hi:PE X i ti)(hs:Cz X t)
  (ha:∀ v,eP (.Subscript o i pos) X.env v=(do
   let ov<-cx [v] (eval o X.env)
   let iv<-cx [v,ov] (eval i X.env)
   i6 pos
   cx [v,ov,iv] (kT ov iv v)
   release [v,ov,iv] []):=by intro _;rfl):PG X (.Subscript o i pos) (Im to ti t):=by
 intro pins s σ H v u Q I r h;rw[ha];refine aa (aI (bc (ho pins s σ H _ I h) λov s1 ⟨x,H1,I1,r1,q1⟩=>?_));refine aa (aI (bc (hi pins s1 σ H1 _ I1 q1) λiv s2 ⟨y,H2,I2,r2,q2⟩=>?_));refine aa (b7 (aa (aI (bc (hs pins s2 σ H2 x y v ov iv u _ I2 r1 r2 r q2) λ_ s3 ⟨H3,I3,q3⟩=>?_))));exact wpAny_release ⟨σ,H3,I3,q3⟩
noncomputable def wM(te:TE)(g:TG):TS:=λD σ H=>te σ H λx H1=>g x σ H1 D.nx
theorem P5{tg e:Expr}{te:TE}{g:TG}(he:PE X e te)(hg:PG X tg g)(hs:j3 [tg] e pos.line X.env=pure false:=by rfl)(hw:gB [tg] e X.env=pure none:=by rfl)
  (h1:(bJ [tg] X.env).map (·.2)=[eP tg X.env]:=by rfl):PS X (.Assign [tg] e pos) (wM te g):=by
 intro pins s σ H D I h;refine wpAny_Assign_stores (bc (he pins s σ H _ I h) λv s1 ⟨x,H1,I1,r1,q1⟩=>?_) hs hw;rw[h1];exact bc (hg pins s1 σ H1 x v _ I1 r1 q1) λ_ s2 q=>q
end
section
variable {X:Cx} {pos:Pos}
noncomputable def Qc6(c:TT)(tb:TS):TS:=λD σ H=>∃ W:Nat->St->Hp->Prop,(∃ m,W m σ H)/\∀ m σ H,W m σ H ->
 c σ H λb H1=>if b=true then ∃ N:St->Hp->Prop,(∀ σ' H',N σ' H'->∃ m',m'<m/\W m' σ' H')/\tb {D with nx:=N,ct:=N,bk:=D.nx} σ H1 else D.nx σ H1
theorem qcn{c:Expr}{body:List Stmt}{tc:TT}{tb:TS}(hp:f' (ah X.prog X.w) X.A X.env X.xe)(hc:PT X c tc)(hb:iu X body tb):PS X (.While c body [] pos) (Qc6 tc tb):=by
 intro pins s σ H D I h;obtain⟨W,⟨m0,w0⟩,turn⟩:=h;refine wpAny_While (codeAny_whileLoop (λn s'=>∃ σ' H',Inv X pins σ' H' s'/\W n σ' H') ?_ m0 ⟨σ,H,I,w0⟩);rintro n s1 ⟨σ1,H1,I1,w1⟩;refine bu hp (bc (hc pins s1 σ1 H1 _ I1 (turn n σ1 H1 w1)) λb s2 ⟨H2,I2,q2⟩=>?_);cases b with
 |true =>
  obtain⟨N,hN,q2⟩:=q2;rw[if_pos rfl];refine bu hp (bc (hb pins s2 σ1 H2 _ I2 q2) λf s3 q3=>?_);cases f with
  |next =>
   obtain⟨σ3,H3,I3,n3⟩:=q3;obtain⟨m',hm,w3⟩:=hN σ3 H3 n3;exact⟨m',hm,σ3,H3,I3,w3⟩
  |cont =>
   obtain⟨σ3,H3,I3,n3⟩:=q3;obtain⟨m',hm,w3⟩:=hN σ3 H3 n3;exact⟨m',hm,σ3,H3,I3,w3⟩
  |brk=>exact q3
  |ret v=>exact q3
 |false =>
  rw[if_neg Uh];exact dB ⟨σ1,H2,I2,q2⟩
end
structure It where
 go:Nat->Hp->Prop
 oq:Nat->Hp->V->Hp->Prop
 stop:Nat->Hp->Prop
noncomputable def yP(X:Cx)(pins:List (ae×Obj))(H:Hp)(b:ae):Prop :=
 H b=none/\b≠X.env.locals/\b∉X.fs/\(b∈X.ex\/X.s₀.heap.objs.size<=b)/\(∀ x c,X.env.cells.lookup x=some c->c≠b)/\∀ p∈X.pn++pins,p.1≠b
theorem Inv.iY{X:Cx}{pins:List (ae×Obj)}{σ:St}{H H':Hp}{s:Shared}{b:ae}(I:Inv X pins σ H s)(hb:s.heap.objs.size<=b)(hn:H' b=none):yP X pins H' b:=by
 refine⟨hn,um (Xd I.lt hb),I.GL hb,.inr (Wf I.sz hb),λx c e z=>?_,λp hp z=>?_⟩
 ·obtain⟨v,q⟩:=I.cell x c e;exact absurd (Xd q.lt (by rw[z];exact hb)) (ui _)
 ·exact absurd (Xd (ua (I.pin p hp).1) (by rw[z];exact hb)) (ui _)
structure Turn (P:ak) (w:World) (K:Jc) (tg:Expr) (J:It) (fp:List ae) (it:ae) (tn:Nat->Heap->Prop):Prop where
 mem:it∈fp
 obj:∀ i h,tn i h->∀ b∈fp,∃ o,h.get? b=some o/\∀ v,o.data≠.cell v
 keep:∀ i h h',tn i h->(∀ b∈fp,∀ o,h.get? b=some o->h'.get? b=some o)->tn i h'
 item:∀(X:Cx),X.prog=P->X.w=w->X.K=K->X.calm=true->∀(i:Nat)(pins:List (ae×Obj)) (s:Shared) (σ:St) (H:Hp) (E:Value->Shared->Prop),Inv X pins σ H s->(∀ b∈fp,yP X pins H b)->tn i s.heap->J.go i H ->
  ag (ah P w) X.A (cX (.ref it)) (λr s1=>∃ u,r=some u /\
   ag (ah P w) X.A (cu tg (.ref it) u) (λ_ s2=>∃ x H',Inv X pins σ H' s2/\RelV x u/\J.oq i H x H'/\tn (i+1) s2.heap/\∀ b∈fp,H' b=none) E s1) E s
 done:∀(X:Cx),X.prog=P->X.w=w->X.K=K->X.calm=true->∀(i:Nat)(pins:List (ae×Obj)) (s:Shared) (σ:St) (H:Hp) (E:Value->Shared->Prop),Inv X pins σ H s->(∀ b∈fp,yP X pins H b)->tn i s.heap->J.stop i H ->
  ag (ah P w) X.A (cX (.ref it)) (λr s1=>r=none/\Inv X pins σ H s1) E s
 self:∀(A:Around)(i:Nat)(s:Shared)(Q:Value->Shared->Prop)(E:Value->Shared->Prop),tn i s.heap->Q (.ref it) s->ag (ah P w) A (jA (.ref it)) Q E s
noncomputable abbrev TI:=St->Hp->(It->Hp->Prop)->Prop
noncomputable def J8(X:Cx)(pins:List (ae×Obj))(σ:St)(tg:Expr)(R:It->Hp->Prop)(DD:Value)(s2:Shared):Prop :=
 ∃(it:ae)(fp:List ae)(tn:Nat->Heap->Prop)(J:It)(H':Hp),DD=.ref it/\Inv X pins σ H' s2/\Turn X.prog X.w X.K tg J fp it tn/\tn 0 s2.heap/\(∀ b∈fp,yP X pins H' b)/\R J H'
noncomputable def PI(X:Cx)(tg iter:Expr)(wi:TI):Prop :=
 ∀(pins:List (ae×Obj)) (s:Shared) (σ:St) (H:Hp) (R:It->Hp->Prop),Inv X pins σ H s->wi σ H R ->
  ag (ah X.prog X.w) X.A (eval iter X.env) (λv s1=>ag (ah X.prog X.w) X.A (jA v) (J8 X pins σ tg R) X.xe s1) X.xe s
theorem De {M:Model} {A:Around} {E:Value→Shared→Prop} {s:Shared} {tg:Expr} {it:ae} {u:Value} {o:Obj} {n:String} {vs:Array Value} {Q:Unit→Shared→Prop} (ho:s.heap.get? it=some o) (hc:o.cls=.type n) (hd:o.data=.fields vs)
    (hn:["enumerate","zip","dict_itemiterator","dict_reverseitemiterator","odict_iterator","itertools.zip_longest","itertools.pairwise"].contains n=false) (hQ:Q () s):ag M A (cu tg (.ref it) u) Q E s:=by
  unfold cu
  cases tg <;> first
    | exact af hQ
    | (cases u <;> first
        | exact af hQ
        | (refine aa (wpAny_load ho ?_)
           rw [hc,hd]
           show ag M A (if (["enumerate","zip","dict_itemiterator","dict_reverseitemiterator","odict_iterator","itertools.zip_longest","itertools.pairwise"].contains n&&vs[0]? == some (cW _))=true then _ else _) Q E s
           rw [if_neg (by intro h; rw [hn,Bool.false_and] at h; cases h)]
           exact af hQ))
noncomputable def Rq(K:Jc)(a:ae):It :=
 ⟨λi H=>∃ xs x,fK K H a xs/\xs[i]?=some x,λi H x H'=>H'=H/\∀ xs,fK K H a xs->xs[i]?=some x,λi H=>∃ xs,fK K H a xs/\xs.length<=i⟩
noncomputable def Rp(K:Jc)(a:ae):It :=
 ⟨λi H=>∃ xs x,gA K H a xs/\xs[i]?=some x,λi H x H'=>H'=H/\∀ xs,gA K H a xs->xs[i]?=some x,λi H=>∃ xs,gA K H a xs/\xs.length<=i⟩
noncomputable def CC(lo:Int)(n:Nat):It:=⟨λi _=>i<n,λi H x H'=>H'=H/\x=.int (lo+i),λi _=>n<=i⟩
theorem ZbQ{P:ak}{w:World}{K:Jc}{tg:Expr}(a it:ae):Turn P w K tg (Rq K a) [it] it (λi h=>h.IsListIter it a i) where
 mem:=by simp
 obj:=λi h st b hb=>by
  have e:b=it:=by simpa using hb
  subst e;obtain⟨o,e,c,d⟩:=st;exact⟨o,e,λv z=>by rw[d] at z;cases z⟩
 keep:=λi h h' st k=>st.at λo e=>k it (by simp) o e
 item:=by
  intro X hP hw hK hc i pins s σ H E I hf st hg;subst hP hw hK;obtain⟨xs,x,hq,hx⟩:=hg;obtain⟨av,rv,p,hz⟩:=I.list hq;obtain⟨u,hu,ru⟩:=rv.get hx;obtain⟨f0,f1,f2,f3,f4,f5⟩:=hf it (by simp);refine e8 st p.isList (x:=u) (by simpa using hu) λh' kI sb=>?_;have I1:Inv X pins σ H {s with heap:=h'}:=I.turned (t':=s.toks) (λb o hb e=>(sb.2 b hb).trans e) f0 f1 f3 f4 f5;obtain⟨o,e,c,d⟩:=id kI;exact⟨u,rfl,De (s:={s with heap:=h'}) e c d (by decide) ⟨x,H,I1,ru,⟨rfl,λys hy=>by rw[I.list_inj hy hq];exact hx⟩,kI,λb hb=>(hf b hb).1⟩⟩
 done:=by
  intro X hP hw hK hc i pins s σ H E I hf st hg;subst hP hw hK;obtain⟨xs,hq,hx⟩:=hg;obtain⟨av,rv,p,hz⟩:=I.list hq;obtain⟨f0,f1,f2,f3,f4,f5⟩:=hf it (by simp);have hl:=rv.length;exact fF (I.ok.hd hc) st p.isList (by simp;lia) λh' eb=>⟨rfl,I.turned (t':=s.toks) (λb o hb e=>eb b o hb e) f0 f1 f3 f4 f5⟩
 self:=λ_ _ _ _ _ st h=>wpAny_pyIter_listiter st h
theorem zbx{P:ak}{w:World}{K:Jc}{tg:Expr}(a it:ae):Turn P w K tg (Rp K a) [it] it (λi h=>h.IsTupleIter it a i) where
 mem:=by simp
 obj:=λi h st b hb=>by
  have e:b=it:=by simpa using hb
  subst e;obtain⟨o,e,c,d⟩:=st;exact⟨o,e,λv z=>by rw[d] at z;cases z⟩
 keep:=λi h h' st k=>st.at λo e=>k it (by simp) o e
 item:=by
  intro X hP hw hK hc i pins s σ H E I hf st hg;subst hP hw hK;obtain⟨xs,x,hq,hx⟩:=hg;obtain⟨av,rv,p,hz⟩:=I.tuple hq;obtain⟨u,hu,ru⟩:=rv.get hx;obtain⟨f0,f1,f2,f3,f4,f5⟩:=hf it (by simp);refine eT st (show s.heap.IsTuple a av.toArray from p) (x:=u) (by simpa using hu) λh' kI sb=>?_;have I1:Inv X pins σ H {s with heap:=h'}:=I.turned (t':=s.toks) (λb o hb e=>(sb.2 b hb).trans e) f0 f1 f3 f4 f5;obtain⟨o,e,c,d⟩:=id kI;exact⟨u,rfl,De (s:={s with heap:=h'}) e c d (by decide) ⟨x,H,I1,ru,⟨rfl,λys hy=>by rw[I.tuple_inj hy hq];exact hx⟩,kI,λb hb=>(hf b hb).1⟩⟩
 done:=by
  intro X hP hw hK hc i pins s σ H E I hf st hg;subst hP hw hK;obtain⟨xs,hq,hx⟩:=hg;obtain⟨av,rv,p,hz⟩:=I.tuple hq;obtain⟨f0,f1,f2,f3,f4,f5⟩:=hf it (by simp);have hl:=rv.length;exact eY (I.ok.hd hc) st (show s.heap.IsTuple a av.toArray from p) (by simp;lia) λh' eb=>⟨rfl,I.turned (t':=s.toks) (λb o hb e=>eb b o hb e) f0 f1 f3 f4 f5⟩
 self:=λ_ _ _ _ _ st h=>fg st h
theorem YbA{P:ak}{w:World}{K:Jc}{tg:Expr}(it:ae)(lo:Int)(n:Nat):Turn P w K tg (CC lo n) [it] it (λi h=>fV h it (lo+(i:Nat)*1) ((n:Int)-(i:Nat)) 1) where
 mem:=by simp
 obj:=λi h st b hb=>by
  have e:b=it:=by simpa using hb
  subst e;exact⟨_,st,λv z=>by
   have z':Data.fields _=Data.cell v:=z;cases z'⟩
 keep:=λi h h' st k=>k it (by simp) _ st
 item:=by
  intro X hP hw hK hc i pins s σ H E I hf st hg;subst hP hw hK;obtain⟨f0,f1,f2,f3,f4,f5⟩:=hf it (by simp);have W:=mG.range (prog:=X.prog) (w:=X.w) (I.ok.hd hc) it lo 1 n;refine W.item i s _ _ hg st λv h' tk hv kI kk=>?_;obtain⟨t,rfl⟩:=hv;have I1:Inv X pins σ H {s with heap:=h',toks:=tk}:=I.turned (λb o hb e=>kk b o (by simpa using hb) e) f0 f1 f3 f4 f5;refine⟨_,rfl,De (s:={s with heap:=h',toks:=tk}) (n:="range_iterator") kI rfl rfl (by decide) ⟨.int (lo+i),H,I1,⟨t,?_⟩,⟨rfl,rfl⟩,kI,λb hb=>(hf b hb).1⟩⟩;rw[Int.mul_one]
 done:=by
  intro X hP hw hK hc i pins s σ H E I hf st hg;subst hP hw hK;obtain⟨f0,f1,f2,f3,f4,f5⟩:=hf it (by simp);exact eZ (I.ok.hd hc) st (by have:n<=i:=hg;lia) λh' eb=>⟨rfl,I.turned (t':=s.toks) (λb o hb e=>eb b o hb e) f0 f1 f3 f4 f5⟩
 self:=λ_ _ _ _ _ st h=>fh st h
section
variable {X:Cx} {tg:Expr}
theorem Lx{pins:List (ae×Obj)}{σ:St}{H:Hp}{s:Shared}{R:It->Hp->Prop}{E:Value->Shared->Prop}{lo hi:Int}{t u v:Tok}{tk:Nat}(I:Inv X pins σ H s)(h1:-(2^62)<=lo)(h2:lo<2^62)(h3:-(2^62)<=hi)(h4:hi<2^62)
  (q:R (CC lo (hi-lo).toNat) H):ag (ah X.prog X.w) X.A (jA (.ref s.heap.objs.size)) (J8 X pins σ tg R) E {s with heap:=s.heap.push {cls:=.type "range",data:=.fields #[.int lo t,.int hi u,.int 1 v]},toks:=tk}:=by
 refine gM (IsRange.new ..) (small_one h1 h2 h3 h4) ?_;have I1:Inv X pins σ H {s with heap:=s.heap.push {cls:=.type "range",data:=.fields #[.int lo t,.int hi u,.int 1 v]},toks:=tk}:=I.kept λb o e=>wa _ e;refine⟨(s.heap.push {cls:=.type "range",data:=.fields #[.int lo t,.int hi u,.int 1 v]}).objs.size,[(s.heap.push {cls:=.type "range",data:=.fields #[.int lo t,.int hi u,.int 1 v]}).objs.size],_,_,H,rfl,
  I1.kept (t':=tk) λb o e=>wa _ e,YbA _ lo (hi-lo).toNat,?_,λb hb=>?_,q⟩
 ·have e1:lo+((0:Nat):Int)*1=lo:=by simp
  have e2:(((hi-lo).toNat:Nat):Int)-((0:Nat):Int)=jf lo hi 1:=by rw[rangeSize_one];split <;> lia
  show fV _ _ (lo+((0:Nat):Int)*1) ((((hi-lo).toNat:Nat):Int)-((0:Nat):Int)) 1;rw[e1,e2];exact wb _ rfl
 ·have e:b=(s.heap.push {cls:=.type "range",data:=.fields #[.int lo t,.int hi u,.int 1 v]}).objs.size:=by simpa using hb
  subst e;exact I1.iY (Ua _) (I1.aL.fresh (Ua _))
noncomputable def Bf(ta:TA):TI:=λσ H R=>ta σ H λvs H1=>∃ j:Int,vs=[.int j]/\-(2^62)<=j/\j<2^62/\R (CC 0 j.toNat) H1
noncomputable def Be(ta:TA):TI:=λσ H R=>ta σ H λvs H1=>∃ i j:Int,vs=[.int i,.int j]/\(-(2^62)<=i/\i<2^62/\-(2^62)<=j/\j<2^62)/\R (CC i (j-i).toNat) H1
theorem ybL{a:Expr}{ta:TA}{p pos:Pos}(hg:Gl X "range")(hm:X.mg "range"=none)(ha:PA X [a] ta)(hs:ao [a] X.env=[(false,eval a X.env)]:=by rfl):PI X tg (.Call (.Name "range" p) [a] [] pos) (Bf ta):=by
 intro pins s σ H R I h;refine mI (YI I hg hm jJ (Gf (bc (ha pos pins s σ H _ I h) λus s1 ⟨vs,H1,I1,r1,q1⟩=>?_) hs rfl));obtain(⟨j,e,q1,q2,q⟩):=q1;subst e;cases r1 with
 |cons r rr =>
  cases rr;obtain(⟨t,rfl⟩):=r;exact call_range_1 (Lx I1 (by lia) (by lia) q1 q2 (by simpa using q))
theorem qbV{a b:Expr}{ta:TA}{p pos:Pos}(hg:Gl X "range")(hm:X.mg "range"=none)(ha:PA X [a,b] ta)(hs:ao [a,b] X.env=[(false,eval a X.env),(false,eval b X.env)]:=by rfl)(k8:ao [b] X.env=[(false,eval b X.env)]:=by rfl) :
  PI X tg (.Call (.Name "range" p) [a,b] [] pos) (Be ta):=by
 intro pins s σ H R I h;refine mI (YI I hg hm jJ (Gf (bc (ha pos pins s σ H _ I h) λus s1 ⟨vs,H1,I1,r1,q1⟩=>?_) (by rw[hs,k8]) (by rw[k8];rfl)));obtain⟨i,j,e,⟨q1,q2,q3,q4⟩,q⟩:=q1;subst e;cases r1 with
 |cons r rr =>
  cases rr with
  |cons r' rr =>
   cases rr;obtain⟨t,rfl⟩:=r;obtain⟨t',rfl⟩:=r';exact call_range_2 (Lx I1 q1 q2 q3 q4 q)
noncomputable def FA(wi:TI)(g:TG)(tb:TS):TS:=λD σ H=>wi σ H λJ H1=>∃ W:Nat->Nat->St->Hp->Prop,(∃ m,W 0 m σ H1)/\∀ i m σ H,W i m σ H ->
 (J.stop i H/\D.nx σ H)\/(J.go i H/\∃ N:St->Hp->Prop,(∀ σ' H',N σ' H'->∃ m',m'<m/\W (i+1) m' σ' H')/\∀ x H',J.oq i H x H'->g x σ H' λσ2 H2=>tb {D with nx:=N,ct:=N,bk:=D.nx} σ2 H2)
noncomputable def tE(fp:List ae)(h:Heap):List (ae×Obj):=fp.filterMap λb=>(h.get? b).map λo=>(b,o)
theorem Qs{fp:List ae}{h:Heap}{b:ae}{o:Obj}(hb:b∈fp)(e:h.get? b=some o):(b,o)∈tE fp h:=vF.mpr ⟨b,hb,by rw[e];rfl⟩
theorem ybX{fp:List ae}{h:Heap}{p:ae×Obj}(hp:p∈tE fp h):p.1∈fp/\h.get? p.1=some p.2:=by
 obtain⟨b,hb,e⟩:=vF.mp hp;cases q:h.get? b with
 |none=>rw[q] at e;cases e
 |some o =>
  rw[q] at e;have e':(b,o)=p:=gb.inj e;subst e';exact⟨hb,q⟩
theorem Inv.pinned{pins:List (ae×Obj)}{σ:St}{H:Hp}{s:Shared}{fp:List ae}(I:Inv X pins σ H s)(hf:∀ b∈fp,yP X pins H b)(ho:∀ b∈fp,∃ o,s.heap.get? b=some o/\∀ v,o.data≠.cell v):Inv X (pins++tE fp s.heap) σ H s :=
 I.pins_of λp hp=>(Xf.mp hp).elim (λz=>I.pin p (xf _ z)) λz=>by
  obtain⟨hb,e⟩:=ybX z;obtain⟨f0,f1,f2,_⟩:=hf p.1 hb;obtain⟨o,e',d⟩:=ho p.1 hb;rw[e] at e';cases e';exact⟨e,f0,f1,f2,d⟩
theorem Inv.hV{pins pl:List (ae×Obj)}{σ:St}{H:Hp}{s:Shared}(I:Inv X (pins++pl) σ H s):Inv X pins σ H s:=I.pins_of λp hp=>I.pin p (xf _ (wj _ hp))
theorem ZcU{iter:Expr}{body:List Stmt}{wi:TI}{g:TG}{tb:TS}{pos:Pos}(hp:f' (ah X.prog X.w) X.A X.env X.xe)(hc:X.calm=true)(hi:PI X tg iter wi)(hg:PG X tg g)(hb:iu X body tb)
  (hs:∀ x,cJ iter X.env x=pure x:=by intro _;rfl):PS X (.For tg iter body [] pos) (FA wi g tb):=by
 intro pins s σ H D I h;refine wpAny_For (bc (hi pins s σ H _ I h) λv s1 h1=>bc h1 λDD s2 h2=>?_) hs;obtain⟨it,fp,tn,J,H2,e,I2,T,mq,f2,W,⟨m0,w0⟩,turn⟩:=h2;subst e
 -- what stays true of vS l6 objects through vS loop
 have rN:∀{H':Hp},(∀ b∈fp,H' b=none)->∀ b∈fp,yP X pins H' b:=λhn b hb=>⟨hn b hb,(f2 b hb).2⟩;refine codeAny_forLoop_any (λn s'=>∃ i σ' H',Inv X pins σ' H' s'/\tn i s'.heap/\(∀ b∈fp,H' b=none)/\W i n σ' H') ?_ m0 ⟨0,σ,H2,I2,mq,λb hb=>(f2 b hb).1,w0⟩;rintro n s3 ⟨i,σ3,H3,I3,Me,NT,w3⟩
 rcases turn i n σ3 H3 w3 with ⟨stop,qn⟩|⟨go,N,hN,step⟩
 ·refine bu hp (bc (T.done X rfl rfl rfl hc i pins s3 σ3 H3 X.xe I3 (rN NT) Me stop) λr s4 ⟨hr,I4⟩=>?_);subst hr;exact dB ⟨σ3,H3,I4,qn⟩
 ·refine bu hp (bc (T.item X rfl rfl rfl hc i pins s3 σ3 H3 X.xe I3 (rN NT) Me go) λr s4 ⟨u,hr,h4⟩=>?_);subst hr;refine bu hp (bc h4 λ_ s5 ⟨x,H5,I5,r5,y5,FG,fr5⟩=>?_);have I5':=I5.pinned (rN fr5) (T.obj _ _ FG);refine bu hp (bc (hg _ s5 σ3 H5 x u _ I5' r5 (step x H5 y5)) λ_ s6 ⟨σ6,H6,I6,q6⟩=>?_);refine bu hp (bc (hb _ s6 σ6 H6 _ I6 q6) λf s7 q7=>?_);have again:∀{σ7:St}{H7:Hp},Inv X (pins++tE fp s5.heap) σ7 H7 s7->N σ7 H7->∃ m,m<n/\∃ i σ' H',Inv X pins σ' H' s7/\tn i s7.heap/\(∀ b∈fp,H' b=none)/\W i m σ' H':=λ{σ7 H7} I7 n7=>by
   obtain⟨m',hm,w7⟩:=hN σ7 H7 n7;refine⟨m',hm,i+1,σ7,H7,I7.hV,T.keep _ _ _ FG λb hb o e=>(I7.pin (b,o) (xf _ (xf _ (Qs hb e)))).1,λb hb=>?_,w7⟩;obtain⟨o,e,d⟩:=T.obj _ _ FG b hb;exact(I7.pin (b,o) (xf _ (xf _ (Qs hb e)))).2.1
  cases f with
  |next=>obtain⟨σ7,H7,I7,n7⟩:=q7;exact again I7 n7
  |cont=>obtain⟨σ7,H7,I7,n7⟩:=q7;exact again I7 n7
  |brk=>obtain⟨σ7,H7,I7,q7⟩:=q7;exact⟨σ7,H7,I7.hV,q7⟩
  |ret v=>obtain⟨x7,σ7,H7,I7,r7,q7⟩:=q7;exact⟨x7,σ7,H7,I7.hV,r7,q7⟩
end
noncomputable abbrev R2:=V->V->Hp->VK->Prop
noncomputable def cD(X:Cx)(f:Value->Value->Sem Value)(r:R2):Prop :=
 ∀(pins:List (ae×Obj)) (s:Shared) (σ:St) (H:Hp) (x y:V) (v u:Value) (Q:VK),Inv X pins σ H s->RelV x v->RelV y u->r x y H Q ->
  ag (ah X.prog X.w) X.A (f v u) (EP X pins σ Q) X.xe s
noncomputable def JO(X:Cx)(f:Value->Sem Value)(r:V->Hp->VK->Prop):Prop :=
 ∀(pins:List (ae×Obj)) (s:Shared) (σ:St) (H:Hp) (x:V) (v:Value) (Q:VK),Inv X pins σ H s->RelV x v->r x H Q ->
  ag (ah X.prog X.w) X.A (f v) (EP X pins σ Q) X.xe s
noncomputable def aH(X:Cx)(f:Value)(r:List V->Hp->VK->Prop):Prop :=
 ∀(pins:List (ae×Obj)) (s:Shared) (σ:St) (H:Hp) (xs:List V) (us:List Value) (Q:VK),Inv X pins σ H s->Vals xs us->r xs H Q ->
  ag (ah X.prog X.w) X.A (call f us) (EP X pins σ Q) X.xe s
noncomputable def C5(r:R2)(ta tb:TE):TE:=λσ H Q=>ta σ H λx H1=>tb σ H1 λy H2=>r x y H2 Q
noncomputable def tUn(r:V->Hp->VK->Prop)(ta:TE):TE:=λσ H Q=>ta σ H λx H1=>r x H1 Q
noncomputable def rI(C:Int->Int->Prop)(g:Int->Int->V):R2:=λx y H Q=>∃ i j,x=.int i/\y=.int j/\C i j/\Q (g i j) H
noncomputable def pS(g:Int->Int->V):R2:=λx y H Q=>∃ i j,x=.int i/\y=.int j/\Q (g i j) H
noncomputable def rU(g:Int->V):V->Hp->VK->Prop:=λx H Q=>∃ i,x=.int i/\Q (g i) H
section
variable {X:Cx} {a b c:Expr} {ta tb tc:TE} {pos:Pos}
theorem sQ(ha:PE X a ta)(hb:PE X b tb){pins:List (ae×Obj)}{s:Shared}{σ:St}{H:Hp}{R:V->V->Hp->Prop}(I:Inv X pins σ H s)
  (h:ta σ H λx H1=>tb σ H1 λy H2=>R x y H2) {Q:Value->Shared->Prop} {f:Value->Value->Sem Value}
  (hf:∀ v u s2 x y H2,Inv X pins σ H2 s2->RelV x v->RelV y u->R x y H2->ag (ah X.prog X.w) X.A (f v u) Q X.xe s2) :
  ag (ah X.prog X.w) X.A (eval a X.env) (λv s₁=>ag (ah X.prog X.w) X.A (eval b X.env) (λu s₂=>ag (ah X.prog X.w) X.A (f v u) Q X.xe s₂) X.xe s₁) X.xe s:=by
 refine bc (ha pins s σ H _ I h) λv s1 ⟨x,H1,I1,r1,q1⟩=>?_;refine bc (hb pins s1 σ H1 _ I1 q1) λu s2 ⟨y,H2,I2,r2,q2⟩=>?_;exact hf v u s2 x y H2 I2 r1 r2 q2
theorem Ak{op:Operator}{r:R2}(ho:cD X (aV op) r)(ha:PE X a ta)(hb:PE X b tb):PE X (.BinOp a op b pos) (C5 r ta tb):=by
 intro pins s σ H Q I h;exact wpAny_BinOp (sQ ha hb I h λv u s2 x y H2 I2 rx ry q=>ho pins s2 σ H2 x y v u Q I2 rx ry q)
theorem Oa{op:UnaryOp}{r:V->Hp->VK->Prop}(ho:JO X (unaryOp op) r)(ha:PE X a ta):PE X (.UnaryOp op a pos) (tUn r ta):=by
 intro pins s σ H Q I h;exact UnaryOp_ (bc (ha pins s σ H _ I h) λv s1 ⟨x,H1,I1,r1,q1⟩=>ho pins s1 σ H1 x v Q I1 r1 q1)
theorem Aw{f:Value->Value->Sem Value}{C:Int->Int->Prop}{g:Int->Int->Int}
  (rule:∀(i j:Int)(t u:Tok)(s:Shared)(Q:Value->Shared->Prop)(E:Value->Shared->Prop),C i j->Q (.int (g i j) s.toks) {s with toks:=s.toks+1}->ag (ah X.prog X.w) X.A (f (.int i t) (.int j u)) Q E s) :
  cD X f (rI C λi j=>.int (g i j)):=by
 intro pins s σ H x y v u Q I rx ry h;obtain⟨i,j,rfl,rfl,hc,q⟩:=h;obtain⟨t,rfl⟩:=rx;obtain⟨t',rfl⟩:=ry;exact rule i j t t' s _ _ hc ⟨.int (g i j),H,I.tok _,⟨_,rfl⟩,q⟩
theorem Av{f:Value->Value->Sem Value}{g:Int->Int->Int}
  (rule:∀(i j:Int)(t u:Tok)(s:Shared)(Q:Value->Shared->Prop)(E:Value->Shared->Prop),Q (.int (g i j) s.toks) {s with toks:=s.toks+1}->ag (ah X.prog X.w) X.A (f (.int i t) (.int j u)) Q E s) :
  cD X f (pS λi j=>.int (g i j)):=by
 intro pins s σ H x y v u Q I rx ry h;obtain⟨i,j,rfl,rfl,q⟩:=h;obtain⟨t,rfl⟩:=rx;obtain⟨t',rfl⟩:=ry;exact rule i j t t' s _ _ ⟨.int (g i j),H,I.tok _,⟨_,rfl⟩,q⟩
theorem oI{f:Value->Value->Sem Value}{g:Int->Int->Bool}
  (rule:∀(i j:Int)(t u:Tok)(s:Shared)(Q:Value->Shared->Prop)(E:Value->Shared->Prop),Q (.bool (g i j)) s->ag (ah X.prog X.w) X.A (f (.int i t) (.int j u)) Q E s) :
  cD X f (pS λi j=>.bl (g i j)):=by
 intro pins s σ H x y v u Q I rx ry h;obtain⟨i,j,rfl,rfl,q⟩:=h;obtain⟨t,rfl⟩:=rx;obtain⟨t',rfl⟩:=ry;exact rule i j t t' s _ _ ⟨.bl (g i j),H,I,rfl,q⟩
noncomputable def Kw(i j:Int):Prop:=0<j/\j<1073741824
noncomputable def Kv(i j:Int):Prop:=0<=j/\j<=1000000/\i.natAbs<2^64
theorem Yc7:cD X (aV .Add) (pS λi j=>.int (i+j)):=Av λ_ _ _ _ _ _ _ q=>add_int q
theorem YcW:cD X (aV .Sub) (pS λi j=>.int (i-j)):=Av λ_ _ _ _ _ _ _ q=>sub_int q
theorem Dp:cD X (aV .FloorDiv) (rI Kw λi j=>.int (i/j)):=Aw λi j _ _ _ _ _ hc q=>by
 have h1:(0:Int)<j:=hc.1;have h2:j<1073741824:=hc.2;exact floordiv_int (by lia) (by rw[XA i (by lia)];exact q) (.inl (PyProof.noPylong_small (by lia)))
theorem qcV:cD X (aV .Mod) (rI (λ_ j=>0<j) λi j=>.int (i%j)):=Aw λi j _ _ _ _ _ hc q=>by
 have h1:(0:Int)<j:=hc;exact mod_int' (by lia) (by rw[Int.fmod_eq_emod_of_nonneg i (by lia)];exact q)
theorem zc6:cD X (aV .Pow) (rI Kv λi j=>.int (i^j.toNat)):=Aw λ_ _ _ _ _ _ _ hc q=>pow_int_small hc.1 hc.2.1 hc.2.2 q
theorem unI{f:Value->Sem Value}{g:Int->Int}
  (rule:∀(i:Int)(t:Tok)(s:Shared)(Q:Value->Shared->Prop)(E:Value->Shared->Prop),Q (.int (g i) s.toks) {s with toks:=s.toks+1}->ag (ah X.prog X.w) X.A (f (.int i t)) Q E s) :
  JO X f (rU λi=>.int (g i)):=by
 intro pins s σ H x v Q I rx h;obtain⟨i,rfl,q⟩:=h;obtain⟨t,rfl⟩:=rx;exact rule i t s _ _ ⟨.int (g i),H,I.tok _,⟨_,rfl⟩,q⟩
theorem O9:JO X (unaryOp .USub) (rU λi=>.int (-i)):=unI λ_ _ _ _ _ q=>neg_int q
end
section
variable {X:Cx} {a b c:Expr} {ta tb tc:TE} {pos:Pos}
theorem Aq:cD X (aJ .Lt) (pS λi j=>.bl (decide (i<j))):=oI λ_ _ _ _ _ _ _ q=>lt_int q
theorem Ar:cD X (aJ .LtE) (pS λi j=>.bl (decide (i<=j))):=oI λ_ _ _ _ _ _ _ q=>le_int q
theorem As:cD X (aJ .Gt) (pS λi j=>.bl (decide (j<i))):=oI λ_ _ _ _ _ _ _ q=>gt_int q
theorem Au:cD X (aJ .GtE) (pS λi j=>.bl (decide (j<=i))):=oI λ_ _ _ _ _ _ _ q=>ge_int q
theorem YcJ{op:eF}{r:R2}(ho:cD X (aJ op) r)(ha:PE X a ta)(hb:PE X b tb)(hm:bC op b=false):PE X (.Compare a [op] [b] pos) (C5 r ta tb):=by
 intro pins s σ H Q I h;exact i9 (sQ ha hb I h λv u s2 x y H2 I2 rx ry q=>ho pins s2 σ H2 x y v u Q I2 rx ry q) hm
noncomputable def JQ(t:TE):TT:=λσ H Q=>t σ H λx H'=>∃ k,x=.bl k/\Q k H'
theorem Qcw{op:eF}{r:R2}(ho:cD X (aJ op) r)(ha:PE X a ta)(hb:PE X b tb)(hm:bC op b=false):PT X (.Compare a [op] [b] pos) (JQ (C5 r ta tb)):=by
 intro pins s σ H Q I h;refine fH (bc (ha pins s σ H _ I h) λv s1 ⟨x,H1,I1,r1,q1⟩=>bc (hb pins s1 σ H1 _ I1 q1) λu s2 ⟨y,H2,I2,r2,q2⟩ =>
  bc (ho pins s2 σ H2 x y v u _ I2 r1 r2 q2) λc s3 ⟨z,H3,I3,r3,k,e,q3⟩=>?_) hm
 subst e;cases r3;exact aD ⟨H3,I3,q3⟩
noncomputable def OP(r r':R2)(ta tb tc:TE):TE:=λσ H Q=>ta σ H λx H1=>tb σ H1 λy H2=>r x y H2 λz H3=>∃ k,z=.bl k /\
 (if k=true then tc σ H3 λw' H4=>r' y w' H4 Q else Q (.bl false) H3)
theorem yb5{op kY:eF}{r r':R2}(ho:cD X (aJ op) r)(kx:cD X (aJ kY) r')(ha:PE X a ta)(hb:PE X b tb)(hc:PE X c tc)
  (hm:lastMarks [op,kY] [b,c]=false:=by with_unfolding_all rfl):PE X (.Compare a [op,kY] [b,c] pos) (OP r r' ta tb tc):=by
 intro pins s σ H Q I h;refine Compare_chain (bc (ha pins s σ H _ I h) λv s1 ⟨x,H1,I1,r1,q1⟩=>chain_link (bc (hb pins s1 σ H1 _ I1 q1) λu s2 ⟨y,H2,I2,r2,q2⟩ =>
  bc (ho pins s2 σ H2 x y v u _ I2 r1 r2 q2) λd s3 ⟨z,H3,I3,r3,k,e,q3⟩=>?_)) hm
 subst e;cases r3;refine aD ?_;cases k with
 |false=>exact ite_ff ⟨.bl false,H3,I3,rfl,q3⟩
 |true=>exact ite_tt (chain_last (bc (hc pins s3 σ H3 _ I3 q3) λw' s4 ⟨z',H4,I4,r4,q4⟩=>kx pins s4 σ H4 y z' u w' Q I4 r2 r4 q4))
theorem qcp{op kY:eF}{r r':R2}(ho:cD X (aJ op) r)(kx:cD X (aJ kY) r')(ha:PE X a ta)(hb:PE X b tb)(hc:PE X c tc)
  (hm:lastMarks [op,kY] [b,c]=false:=by with_unfolding_all rfl):PT X (.Compare a [op,kY] [b,c] pos) (JQ (OP r r' ta tb tc)):=by
 intro pins s σ H Q I h;refine isTrue_chain (bc (ha pins s σ H _ I h) λv s1 ⟨x,H1,I1,r1,q1⟩=>test_link (bc (hb pins s1 σ H1 _ I1 q1) λu s2 ⟨y,H2,I2,r2,q2⟩ =>
  bc (ho pins s2 σ H2 x y v u _ I2 r1 r2 q2) λd s3 ⟨z,H3,I3,r3,k,e,q3⟩=>?_)) hm
 subst e;cases r3;refine aD ?_;cases k with
 |false =>
  obtain⟨k',e',q'⟩:=q3;cases e';exact ite_ff ⟨H3,I3,q'⟩
 |true =>
  refine ite_tt (test_last (bc (hc pins s3 σ H3 _ I3 q3) λw' s4 ⟨z',H4,I4,r4,q4⟩=>bc (kx pins s4 σ H4 y z' u w' _ I4 r2 r4 q4) λd' s5 ⟨z2,H5,I5,r5,k2,e2,q5⟩=>?_));subst e2;cases r5;exact aD ⟨H5,I5,q5⟩
theorem EC:(sizeLine:Nat)<2^63:=by rw[df];decide
theorem CV{x:V}{us:List Value}(r:Vals [x] us):∃ u,us=[u]/\RelV x u:=by
 cases r with
 |cons r1 r2=>cases r2;exact⟨_,rfl,r1⟩
theorem N9{x y:V}{us:List Value}(r:Vals [x,y] us):∃ u w',us=[u,w']/\RelV x u/\RelV y w':=by
 cases r with
 |cons r1 r2 =>
  cases r2 with
  |cons r3 r4=>cases r4;exact⟨_,_,rfl,r1,r3⟩
theorem zco:aH X (.builtin "abs") (λxs H Q=>∃ i,xs=[.int i]/\Q (.int (if i<0 then -i else i)) H):=by
 intro pins s σ H xs us Q I r h;obtain⟨i,rfl,q⟩:=h;obtain⟨u,rfl,t,rfl⟩:=CV r;exact call_abs_int λu tk=>⟨.int (if i<0 then -i else i),H,I.tok _,⟨_,rfl⟩,q⟩
theorem ybW(hc:X.calm=true):aH X (.builtin "max") (λxs H Q=>∃ i j,xs=[.int i,.int j]/\Q (.int (if j>i then j else i)) H):=by
 intro pins s σ H xs us Q I r h;obtain⟨i,j,rfl,q⟩:=h;obtain⟨u,w',rfl,⟨t,rfl⟩,⟨t',rfl⟩⟩:=N9 r;refine max_two_ints (I.ok.hd hc) λh' tk k=>⟨_,H,I.kept k,?_,q⟩;by_cases hj:j>i
 ·rw[if_pos hj,if_pos hj];exact⟨_,rfl⟩
 ·rw[if_neg hj,if_neg hj];exact⟨_,rfl⟩
theorem zbM(hc:X.calm=true):aH X (.builtin "min") (λxs H Q=>∃ i j,xs=[.int i,.int j]/\Q (.int (if j<i then j else i)) H):=by
 intro pins s σ H xs us Q I r h;obtain⟨i,j,rfl,q⟩:=h;obtain⟨u,w',rfl,⟨t,rfl⟩,⟨t',rfl⟩⟩:=N9 r;refine min_two_ints (I.ok.hd hc) λh' tk k=>⟨_,H,I.kept k,?_,q⟩;by_cases hj:j<i
 ·rw[if_pos hj,if_pos hj];exact⟨_,rfl⟩
 ·rw[if_neg hj,if_neg hj];exact⟨_,rfl⟩
end
structure mf (h:Heap) (x dx C:ae) (mA:Str->Option Value):Prop where
 obj:h.get? x=some (Ug C dx)
 ns:h.Ns1 dx mA
 ne:dx≠x
theorem ZbL{h:Heap}{dx:ae}{mA:Str->Option Value}(n:h.Ns1 dx mA):∃ od,h.get? dx=some od/\∀ name,uz name od=some (mA name):=by
 obtain⟨o,es,ep,ho,hd,hk,_,hm⟩:=n;refine⟨o,ho,λname=>?_⟩;have e:=hm name;unfold nsFind findBy at e;rw[<- Array.find?_toList] at e;unfold uz;rw[hd];dsimp only;split
 ·rename_i y q;rw[q] at e;exact congrArg some e
 ·rename_i q;rw[q] at e;have a:es.toList.any (·.refKey)=false:=by
   rw[List.any_eq_false];intro y hy;obtain⟨z,t,HF⟩:=hk y (Array.mem_toList_iff.mp hy);simp[gu.refKey,HF]
  have a':¬ es.toList.any (·.refKey)=true:=by rw[a];exact Uh
  rw[if_neg a'];exact congrArg some e
theorem mf.look{h:Heap}{x dx C:ae}{mA:Str->Option Value}(I:mf h x dx C mA):∃ od,PySem.W.InstAt h x (Ug C dx) C (some od)/\∀ name,uz name od=some (mA name) :=
 let ⟨od,ho,hl⟩:=ZbL I.ns
 ⟨od,⟨I.obj,rfl,rfl,ho⟩,hl⟩
section
variable {prog:ak} {w:World} {A:Around} {E:Value->Shared->Prop} {s:Shared} {K:Jc} {x dx C f:ae} {mA:Str->Option Value} {name:Str} {v:Value}
theorem Ycz{expr:Bool}{Q:Value->Shared->Prop}(X:K.In s.heap)(I:mf s.heap x dx C mA)(hg:Xt K C name=true)(hh:Vv K C=true)
  (ha:Ud K (.ref C) name=some none) (hv:mA name=some v) (hv':vH v=true) (h:Q v {s with toks:=s.toks+1}) :
  ag (ah prog w) A (getAttr (.ref x) name expr) Q E s:=by
 obtain⟨od,J,hl⟩:=I.look;exact PySem.W.get_value X J (Wz hg).1 (PySem.W.findObj_own hh ha rfl (by rw[hl,hv])) hv' h
theorem yca{pl:Sem Bool}{Q:Value×List Value->Shared->Prop}(X:K.In s.heap)(I:mf s.heap x dx C mA)(hg:Xt K C name=true)
  (hf:Ud K (.ref C) name=some (some (.ref f))) (ht:XB K (.ref f)=true) (hv:mA name=none) (h:Q (.ref f,[.ref x]) s) :
  ag (ah prog w) A (kO (.ref x) name pl) Q E s:=by
 obtain⟨od,J,hl⟩:=I.look;exact PySem.W.method_fn X J (Wz hg).1 (Wz hg).2 hf (beq_iff_eq.mp ht) (by show(uz name od).map (·.isSome)=some false;rw[hl,hv];rfl) h
theorem ycJ{ns:List Str}{Q:Unit->Shared->Prop}(X:K.In s.heap)(I:mf s.heap x dx C mA)
  (hs:Ud K (.ref C) "__setattr__"=some (some (.builtin "object.__setattr__"))) (hp:VA K C=true) (ht:WC K C name=some none) (hh:Vv K C=true)
  (hw:jc mA ns) (hsz:ns.length<=sizeLine)
  (h:∀ h',mf h' x dx C (λy=>if y=name then some v else mA y)->Hd dx s.heap h'->Q () {s with heap:=h',toks:=s.toks+2}) :
  ag (ah prog w) A (setAttr (.ref x) name v) Q E s:=by
 obtain⟨od,J,hl⟩:=I.look;refine PySem.W.set_plain X J hs (PySem.W.osa_open (s:={s with toks:=s.toks+1}) (r:=none) X J hp ht λb=>?_);obtain⟨cd,hc,sC⟩:=PySem.W.any_some hh;have hx:s.heap.get? x=some ⟨.ref C,some dx,.plain,#[]⟩:=I.obj;refine aa (af (aa (aa (wpAny_loadPart hx (aa (PySem.W.Looks.here (s:={s with toks:=s.toks+1}) (PySem.W.looks_clsIn X hc) ?_))))));rw[sC];refine af (a:=some dx) (aa (af (aa ?_)));refine wpAny_nsSet1 (s:={s with toks:=s.toks+1}) I.ns λh' Hw k8=>?_;obtain⟨oD,esD,epD,hoD,hdD,hcD⟩:=Hw.count (PySem.Within.cons name v hw);refine aa (wpAny_lookBehind hoD (by rw[hdD];exact pastItsLine_dict (Wf hcD (by rw[Uc];lia))) ?_);exact af (h _ ⟨(k8.2 _ (Jd I.ne)).trans I.obj,Hw,I.ne⟩ k8)
theorem Zcd{R:iM->Shared->Prop}{vs:List Value}{kw:List (Str×Value)}(X:K.In s.heap)(hm:Uu K C=true)
  (hi:Ud K (.ref C) "__init__"=some (some (.ref f))) (hf:wt K (.ref f)=some (.type "function"))
  (h:bI (ah prog w) (A.under (.builtin "type.__call__" ⟨.ref C::vs,kw⟩)) (.call (.ref f) ⟨.ref (s.heap.objs.size+1)::vs,kw⟩) (Gc (s.heap.objs.size+1) R)
   {s with heap:=(s.heap.push wg).push (Ug C s.heap.objs.size)}) :
  bI (ah prog w) A (.call (.ref C) ⟨vs,kw⟩) R s:=by
 obtain⟨hh,g,d,t,os⟩:=s;exact VG (uB X hm) (xE X hi) (λself=>PySem.W.bind_fn X self hf) (.inl rfl) h
theorem YbT{R:iM->Shared->Prop}(X:K.In s.heap)(hm:Uu K C=true)
  (hi:Ud K (.ref C) "__init__"=some (some (.builtin "object.__init__")))
  (hb:∀ self,gc (ah prog w) s.heap (bindSpecial (.builtin "object.__init__") self) (.builtin "object.__init__",[self]))
  (h:bI (ah prog w) (A.under (.builtin "type.__call__" ⟨[.ref C],[]⟩)) (.call (.builtin "object.__init__") ⟨[.ref (s.heap.objs.size+1)],[]⟩) (Gc (s.heap.objs.size+1) R)
   {s with heap:=(s.heap.push wg).push (Ug C s.heap.objs.size)}) :
  bI (ah prog w) A (.call (.ref C) ⟨[],[]⟩) R s:=by
 obtain⟨hh,g,d,t,os⟩:=s;exact VG (uB X hm) (xE X hi) hb (.inr ⟨rfl,rfl⟩) h
end
noncomputable def yL(f:Str)(v:V):List (Str×V)->List (Str×V)
 |[]=>[(f,v)]
 |(g,x)::r=>if g=f then(g,v)::r else(g,x)::yL f v r
theorem Pg(f g:Str)(v:V):∀ fs:List (Str×V),(yL f v fs).lookup g=if g=f then some v else fs.lookup g
 |[]=>by
  show Vt g [(f,v)]=_;by_cases h:g=f
  ·have hb:(g==f)=true:=beq_iff_eq.mpr h;simp only[Vt,hb,if_pos h]
  ·have hb:(g==f)=false:=beq_eq_false_iff_ne.mpr h;simp only[Vt,hb,if_neg h]
 |(k,x)::r=>by
  have ih:=Pg f g v r;rw[show yL f v ((k,x)::r)=(if k=f then(k,v)::r else(k,x)::yL f v r) from rfl];by_cases hk:k=f
  ·rw[if_pos hk];by_cases h:g=k
   ·have hb:(g==k)=true:=beq_iff_eq.mpr h;simp only[Vt,hb,if_pos (h.trans hk)]
   ·have hb:(g==k)=false:=beq_eq_false_iff_ne.mpr h;simp only[Vt,hb,if_neg (λe:g=f=>h (e.trans hk.symm))]
  ·rw[if_neg hk];by_cases h:g=k
   ·have hb:(g==k)=true:=beq_iff_eq.mpr h;simp only[Vt,hb,if_neg (λe:g=f=>hk (h.symm.trans e))]
   ·have hb:(g==k)=false:=beq_eq_false_iff_ne.mpr h;simp only[Vt,hb];exact ih
theorem JZ(f:Str)(v:V):∀ fs:List (Str×V),f∈(yL f v fs).map (·.1)/\∀ g,g∈fs.map (·.1)->g∈(yL f v fs).map (·.1)
 |[]=>⟨by simp[yL],λg h=>by simp at h⟩
 |(k,x)::r=>by
  obtain⟨i1,i2⟩:=JZ f v r;rw[show yL f v ((k,x)::r)=(if k=f then(k,v)::r else(k,x)::yL f v r) from rfl];by_cases hk:k=f
  ·rw[if_pos hk];subst hk;exact⟨by simp,λg h=>by simpa using h⟩
  ·rw[if_neg hk];refine⟨?_,λg h=>?_⟩
   ·rw[xb];exact Ve _ i1
   ·rw[xb] at h ⊢
    rcases Xa.mp h with e|e
    ·exact Xa.mpr (.inl e)
    ·exact Ve _ (i2 g e)
theorem Pf(f:Str)(v:V):∀ fs:List (Str×V),(yL f v fs).length<=fs.length+1
 |[]=>by simp[yL]
 |(k,x)::r=>by
  have ih:=Pf f v r;rw[show yL f v ((k,x)::r)=(if k=f then(k,v)::r else(k,x)::yL f v r) from rfl];by_cases hk:k=f
  ·rw[if_pos hk,Uc,Uc];lia
  ·rw[if_neg hk,Uc,Uc];lia
theorem ir.some_of{v:V}{o:Option Value}(r:ir (some v) o):∃ u,o=some u/\RelV v u:=by
 cases o with
 |none=>exact(show False from r).elim
 |some u=>exact⟨u,rfl,r⟩
theorem ir.none_of{o:Option Value}(r:ir none o):o=none:=by
 cases o with
 |none=>rfl
 |some u=>exact(show False from r).elim
theorem QbO{v:V}{u:Value}(r:RelV v u):vH u=true:=by
 cases v with
 |bG=>cases(show u=Ka from r);rfl
 |bl b=>cases(show u=Ga b from r);rfl
 |int i=>obtain⟨t,e⟩:=(show ∃ t,u=ja i t from r);cases e;rfl
 |str x=>obtain⟨t,e⟩:=(show ∃ t,u=Ha x t from r);cases e;rfl
 |Cf b=>obtain⟨t,e⟩:=(show ∃ t,u=Value.bytes b t from r);cases e;rfl
 |rh b=>obtain⟨t,e⟩:=(show ∃ t,u=Kb b t from r);cases e;rfl
 |ref a=>cases(show u=ka a from r);rfl
 |ty n=>cases(show u=Ja n from r);rfl
section
variable {P:ak} {w:World} {H H':Hp} {h h':Heap} {a C dx:ae} {fs Iq:List (Str×V)}
theorem CP(aL:fB P w H h)(e:H a=some (.ins C dx fs)):∃ mA,mf h a dx C mA/\(∀ f,ir (fs.lookup f) (mA f))/\jc mA (fs.map (·.1))/\fs.length<=1000/\H dx=some (.own a):=by
 obtain⟨d,z,ne,ob,mA,n,r,q⟩:=(show ba P w H h a (.ins C dx fs) from aL a _ e);exact⟨mA,⟨ob,n,ne⟩,r,q,z,d⟩
end
structure lV (K:Jc) (C:ae):Prop where
 pg:Xt K C Str.empty=true
 hd:Vv K C=true
 po:VA K C=true
 sa:Ud K (.ref C) "__setattr__"=some (some (.builtin "object.__setattr__"))
theorem lV.get{K:Jc}{C:ae}(c:lV K C)(f:Str):Xt K C f=true:=c.pg
noncomputable def fU(K:Jc)(C:ae)(f:Str):Prop:=Ud K (.ref C) f=some none
theorem fU.vU{K:Jc}{C:ae}{f:Str}(n:fU K C f):WC K C f=some none:=by
 unfold WC;rw[show Ud K (.ref C) f=some none from n];rfl
structure Meth (K:Jc) (C:ae) (m:Str) (f:ae):Prop where
 at_:Ud K (.ref C) m=some (some (.ref f))
 fn:XB K (.ref f)=true
 kp:Wg K (.ref f)=true
section
variable {X:Cx} {pins:List (ae×Obj)} {σ:St} {H:Hp} {s:Shared} {a C dx:ae} {fs:List (Str×V)} {f:Str} {v:V} {A:Around} {E:Value->Shared->Prop}
theorem Qbs{b:Bool}{Q:Value->Shared->Prop}(I:Inv X pins σ H s)(e:H a=some (.ins C dx fs))(c:lV X.K C)(n:fU X.K C f)(l:fs.lookup f=some v)
  (h:∀ u s',Inv X pins σ H s'->RelV v u->Q u s'):ag (ah X.prog X.w) A (getAttr (.ref a) f b) Q E s:=by
 obtain⟨mA,O,r,_,_,_⟩:=CP I.aL e;obtain⟨u,hu,ru⟩:=ir.some_of (v:=v) (o:=mA f) (by rw[<- l];exact r f);exact Ycz I.iB O (c.get f) c.hd n hu (QbO ru) (h u _ (I.tok _) ru)
theorem Pe{m:Str}{g:ae}{pl:Sem Bool}{Q:Value×List Value->Shared->Prop}(I:Inv X pins σ H s)(e:H a=some (.ins C dx fs))(c:lV X.K C)(k:Meth X.K C m g)(l:fs.lookup m=none)
  (h:Q (.ref g,[.ref a]) s):ag (ah X.prog X.w) A (kO (.ref a) m pl) Q E s:=by
 obtain⟨mA,O,r,_,_,_⟩:=CP I.aL e;have hn:mA m=none:=ir.none_of (by rw[<- l];exact r m);exact yca I.iB O (c.get m) k.at_ k.fn hn h
theorem zbq{y:V}{u:Value}{Q:Unit->Shared->Prop}(I:Inv X pins σ H s)(e:H a=some (.ins C dx fs))(c:lV X.K C)(n:fU X.K C f)(hl:fs.length<1000)(ry:RelV y u)
  (h:∀ s',Inv X pins σ (upd H a (.ins C dx (yL f y fs))) s'->Q () s'):ag (ah X.prog X.w) A (setAttr (.ref a) f u) Q E s:=by
 obtain⟨mA,O,r,wi,_,ho⟩:=CP I.aL e;have hz:(fs.map (·.1)).length<=sizeLine:=by rw[Wc,df];lia
 refine ycJ I.iB O c.sa c.po n.vU c.hd wi hz λh' O' sb=>h _ ?_;have hd:∃ o,h'.get? dx=some o:=let ⟨o,_,_,e',_⟩:=O'.ns;⟨o,e'⟩;refine I.write (x:=a) (e:=dx) (by rw[e];exact Kg) (.inr ho) (λb q hb z=>(sb.2 b hb).trans z) hd ?_;refine⟨by rw[qc O.ne];exact ho,?_,O.ne,O'.obj,_,O'.ns,λg=>?_,λg hg=>?_⟩
 ·have:=Pf f y fs;lia
 ·show ir ((yL f y fs).lookup g) (if g=f then some u else mA g);rw[Pg];by_cases q:g=f
  ·rw[if_pos q,if_pos q];exact ry
  ·rw[if_neg q,if_neg q];exact r g
 ·by_cases q:g=f
  ·rw[q];exact(JZ f y fs).1
  ·refine(JZ f y fs).2 g (wi g λz=>hg ?_);show(if g=f then some u else mA g)=none;rw[if_neg q];exact z
theorem Inv.made(I:Inv X pins σ H s):Inv X pins σ (upd (upd H s.heap.objs.size (.own (s.heap.objs.size+1))) (s.heap.objs.size+1) (.ins C s.heap.objs.size []))
  {s with heap:=(s.heap.push wg).push (Ug C s.heap.objs.size)}:=by
 have e1:(s.heap.push wg).get? s.heap.objs.size=some wg:=wb s.heap rfl;have e2:((s.heap.push wg).push (Ug C s.heap.objs.size)).get? (s.heap.objs.size+1)=some (Ug C s.heap.objs.size):=by
  have:=wb (s.heap.push wg) (o:=Ug C s.heap.objs.size) rfl
  rwa [vg] at this
 have e3:(s.heap.push wg).Ns s.heap.objs.size (λ_=>none):=⟨wg,#[],_,e1,rfl,(λe he=>absurd he (by simp)),λ_=>rfl⟩;have I1:=I.laid (a:=s.heap.objs.size) (o:=.own (s.heap.objs.size+1)) (h':=s.heap.push wg) (t':=s.toks) (λb u q=>wa _ q) (Ua _) ⟨_,e1⟩;refine I1.laid (a:=s.heap.objs.size+1) (o:=.ins C s.heap.objs.size []) (t':=s.toks) (λb u q=>wa _ q) (vo (vg _ _)) ?_;have ne:s.heap.objs.size≠s.heap.objs.size+1:=Ub (Wi _);refine⟨by rw[qc ne,qd],Wn _,ne,e2,λ_=>none,(Heap.Ns1.of_empty e3).at λo q=>wa _ q,λ_=>Kg,λy hy=>absurd rfl hy⟩
theorem Qcu{prog:ak}{w:World}{env:Env}{e:Expr}{f:Str}{pos:Pos}{s:Shared}{Q:Value->Shared->Prop}(hb:aX e f env (eval e env)=eval e env)
  (h:ag (ah prog w) A (eval e env) (λo s₁=>ag (ah prog w) A (getAttr o f true) Q E s₁) E s):ag (ah prog w) A (eval (.Attribute e f pos) env) Q E s :=
 Attribute_any_ h (by rw[arm_eval_Attribute,hb])
end
noncomputable def v8(K:Jc)(ta:TE)(f:Str):TE:=λσ H Q=>ta σ H λx H1=>∃ a C dx fs v,x=.ref a/\H1 a=some (.ins C dx fs)/\lV K C/\fU K C f/\fs.lookup f=some v/\Q v H1
noncomputable def FL(K:Jc)(ta tv:TE)(f:Str):TS:=λD σ H=>tv σ H λy H1=>ta σ H1 λx H2=>∃ a C dx fs,x=.ref a/\H2 a=some (.ins C dx fs)/\lV K C/\fU K C f/\fs.length<1000 /\
 D.nx σ (upd H2 a (.ins C dx (yL f y fs)))
section
variable {X:Cx} {o e value:Expr} {f:Str} {pos pos' Fo:Pos} {ta tv:TE}
theorem YcR(he:PE X e ta)(hb:aX e f X.env (eval e X.env)=eval e X.env):PE X (.Attribute e f pos) (v8 X.K ta f):=by
 intro pins s σ H Q I h;refine Qcu hb (bc (he pins s σ H _ I h) λu s1 ⟨x,H1,I1,rx,a,C,dx,fs,v,ex,ea,c,n,l,q⟩=>?_);subst ex;obtain rfl:u=ka a:=rx;exact Qbs I1 ea c n l λu' s2 I2 ru=>⟨v,H1,I2,ru,q⟩
theorem zcT(ha:PE X o ta)(hv:PE X value tv)(hs:bh value (some (.Attribute o f pos')) pos.line X.env=pure false):PS X (.Assign [.Attribute o f pos'] value pos) (FL X.K ta tv f):=by
 intro pins s σ H D I h;refine plainObj_wpAny_Assign_Attribute (bc (hv pins s σ H _ I h) λu s1 ⟨y,H1,I1,ry,q⟩=>bc (ha pins s1 σ H1 _ I1 q) λov s2 ⟨x,H2,I2,rx,a,C,dx,fs,ex,ea,c,n,l,q2⟩=>?_) hs;subst ex;obtain rfl:ov=ka a:=rx;exact zbq I2 ea c n l ry λs3 I3=>⟨σ,_,I3,q2⟩
end
section
variable {X:Cx} {pins:List (ae×Obj)} {σ:St} {H:Hp} {s:Shared} {A:Around} {E:Value->Shared->Prop} {Q:Value->Shared->Prop} {c:Value} {b:Bool}
inductive gY (K:Jc) (H:Hp):V->Value->Prop where
 |bG:gY K H .bG (.type "NoneType")
 |bl (x:Bool):gY K H (.bl x) (.type "bool")
 |int (i:Int):gY K H (.int i) (.type "int")
 |str (x:Str):gY K H (.str x) (.type "str")
 |rh (x:UInt64):gY K H (.rh x) (.type "float")
 |lst {a:ae} {xs:List V} (e:H a=some (.lst xs)):gY K H (.ref a) (.type "list")
 |eQ {a:ae} {o:Obj} {xs:List V} (e:H a=some (.eQ o (.lst xs))):gY K H (.ref a) (.type "list")
 |tup {a:ae} {xs:List V} (e:H a=some (.tup xs)):gY K H (.ref a) (.type "tuple")
 |dK {a:ae} {kvs:List (Key×V)} (e:H a=some (.dK kvs)):gY K H (.ref a) (.type "dict")
 |dT {a:ae} {kvs:List (List Key×V)} (e:H a=some (.dT kvs)):gY K H (.ref a) (.type "dict")
 |ins {a C dx:ae} {fs:List (Str×V)} (e:H a=some (.ins C dx fs)) (cl:lV K C) (ha:Ud K (.ref C) "__class__"=some (some (.builtin "object.__class__")))
   (hn:Us K (.builtin "object.__class__") "__get__"=some (some (.builtin "getset_descriptor.__get__"))) (Ny:Vu K (.builtin "object.__class__")=some true)
   (hm:uA K C (.type "object")=some true):gY K H (.ref a) (.ref C)
theorem zbW{x:V}{u t:Value}(I:Inv X pins σ H s)(rx:RelV x u)(ty:gY X.K H x t)(e:uf X.K t c=some b)(h:∀ tk,Q (.bool b) {s with toks:=tk}) :
  ag (ah X.prog X.w) A (call (.builtin "isinstance") [u,c]) Q E s:=by
 cases ty with
 |bG=>cases(show u=Ka from rx);exact Vi PySem.W.kitx_none I.iB Kg e (λz=>nomatch z) h
 |bl y=>cases(show u=Ga y from rx);exact Vi PySem.W.kitx_bool I.iB Kg e (λz=>nomatch z) h
 |int i=>obtain⟨t,q⟩:=(show ∃ t,u=ja i t from rx);cases q;exact Vi PySem.W.kitx_int I.iB Kg e (λz=>nomatch z) h
 |str y=>obtain⟨t,q⟩:=(show ∃ t,u=Ha y t from rx);cases q;exact Vi PySem.W.kitx_str I.iB Kg e (λz=>nomatch z) h
 |rh y=>obtain⟨t,q⟩:=(show ∃ t,u=Kb y t from rx);cases q;exact Vi PySem.W.kitx_float I.iB Kg e (λz=>nomatch z) h
 |@lst a xs ea =>
  cases(show u=ka a from rx);obtain⟨_,_,n,_,h1⟩:=(show ba X.prog X.w H s.heap a (.lst xs) from I.aL a _ ea);exact Vi wH I.iB ⟨_,h1,rfl⟩ e (λz=>nomatch z) h
 |@eQ a ob xs ea =>
  cases(show u=ka a from rx);obtain⟨_,_,_,n,_,h1⟩:=(show ba X.prog X.w H s.heap a (.eQ ob (.lst xs)) from I.aL a _ ea);exact Vi wH I.iB ⟨_,h1,rfl⟩ e (λz=>nomatch z) h
 |@tup a xs ea =>
  cases(show u=ka a from rx);obtain⟨_,_,_,p⟩:=(show ba X.prog X.w H s.heap a (.tup xs) from I.aL a _ ea);obtain⟨o,h1,h2,_⟩:=p;exact Vi PySem.W.kitx_tuple I.iB ⟨o,h1,h2⟩ e (λz=>nomatch z) h
 |@dK a kvs ea =>
  cases(show u=ka a from rx);obtain⟨_,_,vs,_,p⟩:=(show ba X.prog X.w H s.heap a (.dK kvs) from I.aL a _ ea);obtain⟨o,es,ep,h1,h2,_⟩:=p;exact Vi WH I.iB ⟨o,h1,h2.1⟩ e (λz=>nomatch z) h
 |@dT a kvs ea =>
  cases(show u=ka a from rx);obtain⟨_,_,xs,_,o,es,ep,h1,h2,_⟩:=(show ba X.prog X.w H s.heap a (.dT kvs) from I.aL a _ ea);exact Vi WH I.iB ⟨o,h1,h2.1⟩ e (λz=>nomatch z) h
 |@ins a C dx fs ea cl ha hn Ny hm =>
  cases(show u=ka a from rx);obtain⟨mA,O,_⟩:=CP I.aL ea;obtain⟨od,J,_⟩:=O.look;exact Vi (PySem.W.kitx_own (cl.get _) cl.hd ha hn Ny hm) I.iB J e (λz=>nomatch z) h
end
structure dz (k:Nat) (A:Around):Prop where
 hd:A.handled=none
 dp:A.depth+3*k+5<bQ
 un:A.units+16*k+200<cT
theorem dz.mono{j k:Nat}{A:Around}(r:dz k A)(h:j<=k):dz j A:=⟨r.hd,by have:=r.dp;lia,by have:=r.un;lia⟩
theorem dz.deeper{k:Nat}{A:Around}(r:dz (k+1) A)(env:Env):dz k (A.deeper env) :=
 ⟨r.hd,by have:=r.dp;show A.depth+1+3*k+5<_;lia,by have:=r.un;show A.units+3+16*k+200<_;lia⟩
theorem qbx{A:Around}{C:ae}{us:List Value}{kw:List (Str×Value)}:(A.under (.builtin "type.__call__" ⟨.ref C::us,kw⟩)).depth=A.depth+1:=by
 first|rfl|simp[Jg,jT.weight,jT.isCreation,jT.isGuard,jT.isCaller,jT.frames,jT.isFrame,guardIds]
theorem ybB{A:Around}{C:ae}{us:List Value}{kw:List (Str×Value)}:(A.under (.builtin "type.__call__" ⟨.ref C::us,kw⟩)).units=A.units+1:=by
 first|rfl|simp[Jg,jT.cUnits,jT.frames,jT.isFrame]
theorem dz.make{k:Nat}{A:Around}(r:dz (k+1) A)(C:ae)(us:List Value)(kw:List (Str×Value)):dz k (A.under (.builtin "type.__call__" ⟨.ref C::us,kw⟩)) :=
 ⟨r.hd,by have:=r.dp;rw[qbx];lia,by have:=r.un;rw[ybB];lia⟩
theorem dz.depth{k:Nat}{A:Around}(r:dz k A):A.depth<bQ:=by have:=r.dp;lia
noncomputable def vZ:TA:=λ_ H Q=>Q [] H
noncomputable def wL(ta:TE)(tr:TA):TA:=λσ H Q=>ta σ H λx H1=>tr σ H1 λxs H2=>Q (x::xs) H2
section
variable {X:Cx} {e:Expr} {es:List Expr} {te:TE} {t:TA} {pos:Pos}
theorem Aa:PA X [] vZ:=λ_ _ _ _ H Q I h=>je ⟨[],H,I,.nil,h⟩
theorem qU(ha:PE X e te)(hr:PA X es t)(hs:ao (e::es) X.env=(false,eval e X.env)::ao es X.env:=by rfl):PA X (e::es) (wL te t):=by
 intro pos pins s σ H Q I h;rw[hs];show ag _ _ (spliced ((false,eval e X.env)::bf pos (ao es X.env))) _ _ s;refine Ke (bc (ha pins s σ H _ I h) λu s1 ⟨x,H1,I1,r1,q1⟩=>?_);exact bc (hr pos pins s1 σ H1 _ I1 q1) λus s2 ⟨xs,H2,I2,r2,q2⟩=>⟨x::xs,H2,I2,.cons r1 r2,q2⟩
noncomputable def Ft(t:TA):TE:=λσ H Q=>t σ H λxs H1=>xs.length<=sizeLine/\∀ p,H1 p=none->Q (.ref p) (upd H1 p (.tup xs))
noncomputable def Fy(t:TA):TE:=λσ H Q=>t σ H λxs H1=>xs.length<=sizeLine/\∀ p,H1 p=none->Q (.ref p) (upd H1 p (.lst xs))
theorem zcV{x1}(h:PA X es t):PE X (.Tuple es x1 pos) (Ft t):=by
 intro pins s σ H Q I hq;refine wpAny_Tuple_spliced (bc (h pos pins s σ H _ I hq) λus s1 ⟨xs,H1,I1,r,z,q⟩=>⟨by rw[<- r.length];exact z,?_⟩);have hf:H1 s1.heap.objs.size=none:=I1.aL.fresh (Ua _);refine⟨.ref s1.heap.objs.size,upd H1 s1.heap.objs.size (.tup xs),I1.laid (t':=s1.toks) (λb u e=>wa _ e) (Ua _) ?_,rfl,q _ hf⟩;exact⟨z,us,r,⟨_,wb _ rfl,rfl,_,rfl⟩⟩
theorem QcZ(h:PA X es t):PE X (.List es pos) (Fy t):=by
 intro pins s σ H Q I hq;refine wpAny_List_spliced (bc (h pos pins s σ H _ I hq) λus s1 ⟨xs,H1,I1,r,z,q⟩=>⟨by rw[<- r.length];exact z,?_⟩);have hf:H1 s1.heap.objs.size=none:=I1.aL.fresh (Ua _);refine⟨.ref s1.heap.objs.size,upd H1 s1.heap.objs.size (.lst xs),I1.laid (t':=s1.toks) (λb u e=>wa _ e) (Ua _) ?_,rfl,q _ hf⟩;exact⟨z,us,0,r,wb _ rfl⟩
end
noncomputable abbrev Sp:=List V->Hp->VK->XK->Prop
noncomputable abbrev mJ:=List Env->Hp->Shared->XK->Value->Shared->Prop
structure lU (P:ak) (w:World) (K:Jc) (mg:Str->Option Value) (base:Heap) (A:Around) (outer:List Env) (s:Shared) (H:Hp):Prop where
 frames:A.frames=some outer
 mod:Mod K mg base
 bs:∀ b o,base.get? b=some o->s.heap.get? b=some o/\H b=none
 sP:base.objs.size<=s.heap.objs.size
 jF:s.heap.FunFrames base outer
 BI:∀ b∈mS outer,H b=none
 aL:fB P w H s.heap
 bare:dI s.gens
noncomputable def CE(outer:List Env)(P:ak)(w:World)(H:Hp)(s:Shared)(Q:VK)(u:Value)(s':Shared):Prop :=
 ∃ v H',s'.os=s.os/\dI s'.gens/\Un (mS outer) [] H H' s.heap s'.heap/\fB P w H' s'.heap/\RelV v u/\Q v H'
noncomputable def CR(CX:mJ)(outer:List Env)(P:ak)(w:World)(H:Hp)(s:Shared)(Q:VK)(E:XK)(r:iM)(s':Shared):Prop :=
 match r with
 |.ok (.ret u)=>CE outer P w H s Q u s'
 |.ok _=>False
 |.error e=>CX outer H s E e s'
structure fL (P:ak) (w:World) (K:Jc) (mg:Str->Option Value) (base:Heap) (CX:mJ) (k:Nat) (f:ae) (fd:bF) (ps:List Str) (sp:Sp):Prop where
 len:∀ vs H Q E,sp vs H Q E->vs.length=ps.length
 run:∀(A:Around)(outer:List Env)(s:Shared)(H:Hp)(args:Args) (us:List Value) (vs:List V) (Q:VK) (E:XK),dz k A->lU P w K mg base A outer s H->iA s fd args (ps.zip us)->Vals vs us->sp vs H Q E ->
  bI (ah P w) A (.call (.ref f) args) (CR CX outer P w H s Q E) s
theorem fL.imp{P:ak}{w:World}{K:Jc}{mg:Str->Option Value}{base:Heap}{CX:mJ}{k:Nat}{f:ae}{fd:bF}{ps:List Str}{sp Mi:Sp}(F:fL P w K mg base CX k f fd ps sp)
  (h:∀ vs H Q E,Mi vs H Q E->sp vs H Q E):fL P w K mg base CX k f fd ps Mi :=
 ⟨λvs H Q E q=>F.len vs H Q E (h _ _ _ _ q),λA outer s H args us vs Q E hr he hb hv hs=>F.run A outer s H args us vs Q E hr he hb hv (h _ _ _ _ hs)⟩
theorem lU.make{P:ak}{w:World}{K:Jc}{mg:Str->Option Value}{base:Heap}{A:Around}{outer:List Env}{s:Shared}{H:Hp}(e:lU P w K mg base A outer s H)(C:ae)(us:List Value)(kw:List (Str×Value)) :
  lU P w K mg base (A.under (.builtin "type.__call__" ⟨.ref C::us,kw⟩)) outer s H:=⟨by first|exact e.frames|(simpa[Jg,jT.envs,jT.isFrame,pushEnvs] using e.frames),e.mod,e.bs,e.sP,e.jF,e.BI,e.aL,e.bare⟩
section
variable {X:Cx} {pins:List (ae×Obj)} {σ:St} {H:Hp} {s s':Shared}
theorem Inv.BM(I:Inv X pins σ H s):lU X.prog X.w X.K X.mg X.base X.A X.stack s H :=
 ⟨I.ok.frames,I.ok.mod,I.bs,Wf I.ok.sP I.sz,I.stack,I.kS,I.aL,I.bare⟩
theorem Inv.after{Q:VK}{u:Value}(I:Inv X pins σ H s)(h:CE X.stack X.prog X.w H s Q u s'):EP X pins σ Q u s':=by
 obtain⟨v,H',os,bare,un,aL,r,q⟩:=h;obtain⟨hh,g,d,t,os'⟩:=s';obtain rfl:os'=s.os:=os;exact⟨v,H',I.call (h':=hh) (g':=g) (d':=d) (t':=t) (ch:=[]) un aL bare (λb z=>absurd z (by simp)),r,q⟩
end
noncomputable def Binds(K:Jc)(fd:bF)(ps:List Str)(ds:List Value):Prop :=
 ∀(s:Shared)(us:List Value),K.In s.heap->(us++ds).length=ps.length->iA s fd ⟨us,[]⟩ (ps.zip (us++ds))
theorem Binds.all{K:Jc}{fd:bF}{ps:List Str}(h:∀ us:List Value,us.length=ps.length->bindArgs fd ⟨us,[]⟩=pure (ps.zip us)):Binds K fd ps []:=λs us _ hl=>by
 rw[xk] at hl ⊢;exact .of_eq (h us hl)
noncomputable def Yc0(CX:mJ)(X:Cx)(E:XK):Prop:=∀(pins:List (ae×Obj)) (σ:St) (H:Hp) (s:Shared) (e:Value) (s':Shared),Inv X pins σ H s->CX X.stack H s E e s'->X.xe e s'
section
variable {X:Cx} {CX:mJ} {k:Nat} {f C:ae} {fd:bF} {ps:List Str} {sp:Sp} {dvs:List V} {ds:List Value} {E:XK} {x m:Str} {p pos apos:Pos} {e o:Expr} {es:List Expr} {ta:TE} {t:TA}
structure Mk (K:Jc) (C f:ae):Prop where
 makes:Uu K C=true
 init:Ud K (.ref C) "__init__"=some (some (.ref f))
 fn:XB K (.ref f)=true
 kp:Wg K (.ref C)=true
end
structure iz (N P:List Str) (sc:az):Prop where
 kind:sc.kind=.function
 co:sc.isCoroutine=false
 gen:sc.isGenerator=false
 nd:N.Nodup
 pre:N.take P.length=P
 par:∀ x∈P,sc.names.lookup x=some .local\/sc.names.lookup x=some .cell
 rT:∀ y∈sc.names,y.2≠.free
theorem Pq{kindOf:Str->Option NameKind}{x:Str}:∀{binds:List (Str×Value)} {m:Str->Option Value},(∀ v,(x,v)∉binds)->jL kindOf binds m x=m x
 |[],_,_=>rfl
 |(n,v)::r,m,h=>by
  unfold jL;rw[Pq λw hw=>h w (Ve _ hw)];split
  ·have:x≠n:=by rintro rfl;exact h v xg
   simp[this]
  ·rfl
theorem Pl{kindOf:Str->Option NameKind}{x:Str}:∀{binds:List (Str×Value)} {m:Str->Option Value},(∀ v,(x,v)∉binds)->jM kindOf binds m x=m x
 |[],_,_=>rfl
 |(n,v)::r,m,h=>by
  unfold jM;rw[Pl λw hw=>h w (Ve _ hw)];split
  ·rfl
  ·have:x≠n:=by rintro rfl;exact h v xg
   simp[this]
theorem Rg{kindOf:Str->Option NameKind}{x:Str}{v:Value}:∀{P:List Str}{vs:List Value}{i:Nat}{m:Str->Option Value},P.Nodup->P[i]?=some x->vs[i]?=some v->kindOf x=some .local ->
  jL kindOf (P.zip vs) m x=some v
 |[],_,_,_,_,h,_,_=>by simp at h
 |_::_,[],_,_,_,_,h,_=>by simp at h
 |p::P,w::vs,0,m,nd,h1,h2,hk=>by
  simp at h1 h2;subst h1;subst h2;show jL kindOf ((p,w)::P.zip vs) m p=_;unfold jL;rw[Pq λv hv=>(Xk.mp nd).1 (xC hv).1,if_pos hk];simp
 |p::P,w::vs,i+1,m,nd,h1,h2,hk=>by
  show jL kindOf ((p,w)::P.zip vs) m x=_;unfold jL;exact Rg (i:=i) (Xk.mp nd).2 (by simpa using h1) (by simpa using h2) hk
theorem Ri{kindOf:Str->Option NameKind}{x:Str}{v:Value}:∀{P:List Str}{vs:List Value}{i:Nat}{m:Str->Option Value},P.Nodup->P[i]?=some x->vs[i]?=some v->kindOf x≠some .local ->
  jM kindOf (P.zip vs) m x=some v
 |[],_,_,_,_,h,_,_=>by simp at h
 |_::_,[],_,_,_,_,h,_=>by simp at h
 |p::P,w::vs,0,m,nd,h1,h2,hk=>by
  simp at h1 h2;subst h1;subst h2;show jM kindOf ((p,w)::P.zip vs) m p=_;unfold jM;rw[Pl λv hv=>(Xk.mp nd).1 (xC hv).1,if_neg hk];simp
 |p::P,w::vs,i+1,m,nd,h1,h2,hk=>by
  show jM kindOf ((p,w)::P.zip vs) m x=_;unfold jM;exact Ri (i:=i) (Xk.mp nd).2 (by simpa using h1) (by simpa using h2) hk
noncomputable def start(N:List Str)(vs:List V):St:=vs.map some++xc (N.length-vs.length) none
noncomputable def mY(CX:mJ)(P:ak)(w:World)(K:Jc)(mg:Str->Option Value)(base:Heap)(N:List Str)(qual:Str)(scope:az)(f:ae)(cd:Value)(A:Around)(outer:List Env)(s:Shared)(H:Hp)(E:XK):Cx where
 prog:=P
 w:=w
 K:=K
 mg:=mg
 base:=base
 A:=A.deeper (eO qual scope s.heap.objs.size f cd)
 N:=N
 s₀:=s
 H₀:=H
 env:=eO qual scope s.heap.objs.size f cd
 outer:=outer
 stack:=eO qual scope s.heap.objs.size f cd::outer
 ex:=[]
 calm:=true
 fn:=λ_=>true
 pn:=[]
 xe:=λe s'=>ag (ah P w) (A.deeper (eO qual scope s.heap.objs.size f cd)) (leaving (eO qual scope s.heap.objs.size f cd) e) (λ_ xM=>CX outer H s E e xM) (λe' xM=>CX outer H s E e' xM) s'
theorem MI{sc:az}{n:Nat}{x:Str}(h:sc.names.lookup x=some .cell):∃ c,(aB n sc.names []).lookup x=some c:=by
 have q:=vC sc.names n [] (.inl h);exact xn.mp q
theorem ybU{CX:mJ}{P:ak}{w:World}{K:Jc}{mg:Str->Option Value}{base:Heap}{N ps:List Str}{qual:Str}{scope:az}{f:ae}{cd:Value}{A:Around}{outer:List Env}{s s1:Shared}{H:Hp}{E:XK}{us:List Value}{vs:List V}
  (S:iz N ps scope) (hd:A.handled=none) (e0:lU P w K mg base A outer s H) (hl:vs.length=ps.length) (r:Vals vs us)
  (x:InCallC s s.heap.objs.size (jL (eO qual scope s.heap.objs.size f cd).kindOf (ps.zip us) λ_=>none) (aB (s.heap.objs.size+1) scope.names []) (jM (eO qual scope s.heap.objs.size f cd).kindOf (ps.zip us) λ_=>none) s1) :
  Inv (mY CX P w K mg base N qual scope f cd A outer s H E) [] (start N vs) H s1:=by
 have bZ:ps.length<=N.length:=by have:=congrArg wu S.pre;rw[Vm] at this;lia
 obtain⟨h1,tk,rfl,hk⟩:=x.done;have AH:∀ b:ae,b∉(mY CX P w K mg base N qual scope f cd A outer s H E).ex:=λb z=>absurd (show b∈([]:List ae) from z) (by simp);refine⟨⟨e0.mod,S.kind,rfl,rfl,Ua _,λy z c h1 h2=>?_,λy hy=>?_,λy c _ h=>?_,λ_=>hd,Around.frames_deeper e0.frames,.inr ⟨rfl,rfl⟩,λb z=>absurd z (AH b),e0.bs,e0.sP,λb _ _=>AH b,λb z=>absurd z (AH b),e0.jF,e0.BI⟩,
  rfl,e0.bare,Un.kept hk,⟨_,x.toInCall.ns,λi y v h1 h2 h3=>?_⟩,λy c h=>⟨_,x.cell y c h⟩,e0.aL.fresh (Ua _),λy c h=>?_,λp hp=>absurd (show p∈([]:List (ae×Obj)) from hp) (by simp),e0.aL.kept hk,?_⟩
 ·exact name_of_addr x.apart (Kc h1) (Kc h2)
 ·have hy:scope.names.lookup y=some .cell\/scope.names.lookup y=some .free:=hy
  rcases hy with hy|hy
  ·exact MI hy
  ·exact absurd rfl (S.rT _ (Kc hy))
 ·exact Ux (x.above y c (Kc h))
 ·have hi:i<vs.length:=by
   unfold start at h2;by_cases hi:i<vs.length
   ·exact hi
   ·rw[We (by simpa using hi)] at h2;rw[xo] at h2;split at h2 <;> cases h2
  have ha:vs[i]?=some v:=by
   unfold start at h2;rw[Xb (by simpa using hi),Wb] at h2;cases e:vs[i]? with
   |none=>rw[e] at h2;cases h2
   |some a=>rw[e] at h2;cases h2;rfl
  obtain⟨u,hu,rv⟩:=r.get ha;have hp:ps[i]?=some y:=by
   rw[<- S.pre,uk (by lia)];exact h1
  have Ni:ps.Nodup:=by rw[<- S.pre];exact S.nd.sublist (List.take_sublist _ _)
  refine⟨u,rv,?_⟩
  rcases S.par y (ue hp) with k|k
  ·exact .inl ⟨k,Rg Ni hp hu k⟩
  ·obtain⟨c,e⟩:=MI (n:=s.heap.objs.size+1) k;refine .inr ⟨.inl k,c,e,?_⟩;have q:=x.cell y c e;rw[Ri Ni hp hu (by show scope.names.lookup y≠_;rw[k];decide)] at q;exact q
 ·exact e0.aL.fresh (Ux (x.above y c (Kc h)))
 ·unfold start;show _=N.length;rw[Xg,Wc,xp]
  lia
theorem EG{CX:mJ}{P:ak}{w:World}{K:Jc}{mg:Str->Option Value}{base:Heap}{k:Nat}{f:ae}{name qual:Str}{params:kR}{body:List Stmt}{scope:az}{dV kV doc pm dF ct oc:Value}{an od:Option ae}
  {j9:Array (Option Value)} {N ps:List Str} {sp:Sp} (lk:K.lookup f=some ⟨oc,od,.func (ug name qual params body scope dV kV doc pm an dF ct),j9⟩) (ky:Xl K dF qual=true) (S:iz N ps scope)
  (len:∀ vs H Q E,sp vs H Q E->vs.length=ps.length)
  (lK:∀(A:Around)(outer:List Env)(s:Shared)(H:Hp)(vs:List V) (Q:VK) (E:XK),dz k (A.deeper (eO qual scope s.heap.objs.size f dF))->sp vs H Q E ->
   ∃ t,iu (mY CX P w K mg base N qual scope f dF A outer s H E) body t/\t {nx:=λ_ H'=>Q .bG H',rt:=Q} (start N vs) H) :
  fL P w K mg base CX (k+1) f (ug name qual params body scope dV kV doc pm an dF ct) ps sp:=by
 refine⟨len,λA outer s H args us vs Q E hr e0 hb r lX=>?_⟩;have hl:=len _ _ _ _ lX;have KX:K.In s.heap:=e0.mod.AW.keeps λb o e=>(e0.bs b o e).1;have lim:s.heap.NoLimit:=e0.mod.nolimit.keeps λb o e=>(e0.bs b o e).1;have Bs:∀ y∈ps.zip us,scope.names.lookup y.1=some .local\/(scope.names.lookup y.1=some .cell/\((aB (s.heap.objs.size+1) scope.names []).lookup y.1).isSome=true):=λ⟨n,v⟩ hy=>by
  rcases S.par n (xC hy).1 with q|q
  ·exact .inl q
  ·exact .inr ⟨q,vC _ _ _ (.inl q)⟩
 refine codeAny_call_function hr.depth (KX _ _ lk) rfl S.co S.gen rfl (PySem.W.codeRec_of KX ky) (hb _ _ _ _ ?_);refine wpAny_newFunctionEnv_cells S.kind Bs λenv he s1 x=>?_;subst he;refine⟨lim.keeps x.toInCall.keep,codeAny_func ?_⟩;obtain⟨t,ht,hq⟩:=lK A outer s H vs Q E (hr.deeper _) lX;have I:Inv (mY CX P w K mg base N qual scope f dF A outer s H E) [] (start N vs) H s1:=ybU S hr.hd e0 hl r x;refine aM (ht [] s1 (start N vs) H _ I hq) (λfl s' hs=>?_) λe s' hs=>hs;have fin:∀{σ':St}{H':Hp}{v:V}{u:Value},Inv (mY CX P w K mg base N qual scope f dF A outer s H E) [] σ' H' s'->RelV v u->Q v H'->CE outer P w H s Q u s' :=
  λ{σ' H' v u} J rv q=>⟨v,H',J.os,J.bare,J.base,J.aL,rv,q⟩
 cases fl with
 |ret u =>
  obtain⟨v,σ',H',J,rv,q⟩:=hs;exact fin J rv q
 |next =>
  obtain⟨σ',H',J,q⟩:=hs;exact fin (v:=V.bG) (u:=Ka) J rfl q
 |brk =>
  obtain⟨_,_,_,q⟩:=hs;exact Hg q
 |cont =>
  obtain⟨_,_,_,q⟩:=hs;exact Hg q
section
variable {X:Cx} {x:Str} {p pos:Pos} {e:Expr} {es:List Expr} {t:TA} {id T:String} {r:List V->Hp->VK->Prop}
noncomputable def Mc(r:List V->Hp->VK->Prop)(t:TA):TE:=λσ H Q=>t σ H λvs H1=>r vs H1 Q
theorem Fb(hc:aH X (.builtin id) r)(hg:Gl X x)(hm:X.mg x=none)(hv:bB x=some (.builtin id))(ha:PA X (e::es) t)(hn:x≠"__name__":=by decide)(lZ:(x==("__debug__":Str))=false:=by decide)
  (he:ao (e::es) X.env=(false,eval e X.env)::ao es X.env:=by rfl) (bZ:(bf pos (ao es X.env)).any (·.1)=false:=by rfl):PE X (.Call (.Name x p) (e::es) [] pos) (Mc r t):=by
 intro pins s σ H Q I h;refine aN (YI I hg hm hv ?_ hn lZ);exact kg (bc (ha pos pins s σ H _ I h) λus s1 ⟨vs,H1,I1,r1,q1⟩=>hc pins s1 σ H1 vs us Q I1 r1 q1) he bZ
theorem E2(hc:aH X (.type T) r)(hg:Gl X x)(hm:X.mg x=none)(hv:bB x=some (.type T))(ha:PA X (e::es) t)(hn:x≠"__name__":=by decide)(lZ:(x==("__debug__":Str))=false:=by decide)
  (he:ao (e::es) X.env=(false,eval e X.env)::ao es X.env:=by rfl) (bZ:(bf pos (ao es X.env)).any (·.1)=false:=by rfl):PE X (.Call (.Name x p) (e::es) [] pos) (Mc r t):=by
 intro pins s σ H Q I h;refine aN (YI I hg hm hv ?_ hn lZ);exact Gf (bc (ha pos pins s σ H _ I h) λus s1 ⟨vs,H1,I1,r1,q1⟩=>hc pins s1 σ H1 vs us Q I1 r1 q1) he bZ
end
end L2
namespace HT
open PySem PyProof.Rows
theorem nu(A:Around)(s:Shared)(a:Int)(t:Tok)(c:Int)(u:Tok)(prog:ak)(w:World)(E:Value->Shared->Prop)(Q:Value->Shared->Prop)(h:Q (.bool (decide (a<c))) s) :
  ag (ah prog w) A (richCompare .Lt (.int a t) (.int c u)) Q E s :=
 (PyProof.Rows.lt_int h:ag (ah prog w) A (aJ .Lt (.int a t) (.int c u)) Q E s)
section
variable {prog:ak} {w:World} {A:Around} {E:Value->Shared->Prop} {s:Shared}
theorem pA{t b:ae}{vs ws:List Value}{Q:Value->Shared->Prop}(ht:gK s.heap t vs.toArray)(hb:gK s.heap b ws.toArray)(hv:vs≠[])
  (h1:ws=[]->Q (.ref t) s) (h2:ws≠[]->Q (.ref s.heap.objs.size) {s with heap:=s.heap.push {cls:=.type "tuple",data:=.seq (vs++ws).toArray}})
  (hsz:vs.length+ws.length<=sizeLine):ag (ah prog w) A (aV .Add (.ref t) (.ref b)) Q E s:=by
 obtain⟨⟨cls,dd,data,sl⟩,ho,hc,n,hd⟩:=id ht;obtain⟨⟨cls2,N0,data2,Mj⟩,DP,rg,n2,hd2⟩:=id hb;simp only at hc hd rg hd2;subst hc hd rg hd2;have e:vs.toArray++ws.toArray=(vs++ws).toArray:=by simp
 by_cases hw:ws=[]
 ·exact concat_meets ⟨_,ho,rfl⟩ ⟨_,DP,rfl⟩ iG j7 ki Gh (gh _ _)
   (tuple_addW1 t b vs.toArray ws.toArray n n2 dd N0 sl Mj (by simpa using hv) (by simp[hw])) ⟨ho,DP,h1 hw⟩
 ·refine concat_meets ⟨_,ho,rfl⟩ ⟨_,DP,rfl⟩ iG j7 ki Gh (gh _ _)
   (tuple_addW2 t b vs.toArray ws.toArray n n2 dd N0 sl Mj (by simpa using hv) (by simpa using hw) (by rw[wc,wc];exact hsz)) ⟨ho,DP,?_⟩
  rw[e];exact h2 hw
noncomputable def cq(n d:Nat):Option Int->Nat
 |none=>d
 |some v=>if v<0 then(v+(n:Int)).toNat else min v.toNat n
theorem qcW(n d:Nat)(hd:d<=n)(o:Option Int):cq n d o<=n:=by
 cases o with
 |none=>exact hd
 |some v =>
  show(if v<0 then(v+(n:Int)).toNat else min v.toNat n)<=n;by_cases hv:v<0
  ·rw[if_pos hv];lia
  ·rw[if_neg hv];exact Nat.min_le_right _ _
theorem K2(v:Int)(n d:Nat):(if v<0 then max (v+(n:Int)) 0 else min v (n:Int))=((cq n d (some v):Nat):Int):=by
 show(if v<0 then max (v+(n:Int)) 0 else min v (n:Int))=(((if v<0 then(v+(n:Int)).toNat else min v.toNat n):Nat):Int);by_cases hv:v<0
 ·simp only[if_pos hv];lia
 ·simp only[if_neg hv];lia
theorem Zbr(lo hi:Option Int)(n:Nat):kj lo hi 1 (n:Int)=(((cq n 0 lo:Nat):Int),((cq n n hi:Nat):Int)):=by
 have h1:¬((1:Int)<0):=by lia
 unfold kj;simp only[h1,if_false];refine Uz ?_ ?_
 ·cases lo with
  |none=>rfl
  |some v=>exact K2 v n 0
 ·cases hi with
  |none=>rfl
  |some v=>exact K2 v n n
theorem Yby(i j:Nat):Gi (i:Int) (j:Int) 1=j-i:=by
 unfold Gi;have h1:(1:Int)>0:=by lia
 simp only[h1,if_true,Int.ediv_one];split <;> lia
theorem P8{v:Value}{o:Option Int}{Q:Option Int->Shared->Prop}(p:fq v o)(h:Q o s):ag (ah prog w) A (Builtin.Slice.slicePartIndex v) Q E s:=by
 cases p with
 |none=>exact jy h
 |int i t=>exact slicePart_int h
theorem yJ{sl:ae}{vl vu:Value}{lo hi:Option Int}{n:Nat}{Q:Int×Int×Nat->Shared->Prop}(hs:s.heap.IsSliceOf sl vl vu .none)(pl:fq vl lo)(pu:fq vu hi)
  (h:Q (((cq n 0 lo:Nat):Int),1,cq n n hi-cq n 0 lo) s):ag (ah prog w) A (Kj (.ref sl) (pure (n:Int))) Q E s:=by
 obtain⟨os,sf,oX,Bx⟩:=id hs;unfold Kj Builtin.Slice.sliceFields;refine aa (aa (aE sf Bx (x:=vl) rfl (aa (aE sf Bx (x:=vu) rfl (aa (aE sf Bx (x:=.none) rfl (af ?_)))))));refine aa (jy ?_);show ag _ _ (if((1:Int)==0)=true then _ else _) _ _ s;rw[if_neg (by decide)];refine aa (P8 pl (aa (P8 pu (aa (af ?_)))));show ag _ _ (match kj lo hi 1 (n:Int) with|(lo,hi)=>pure (lo,(1:Int),Gi lo hi 1)) _ _ s;rw[Zbr lo hi n];show ag _ _ (pure (((cq n 0 lo:Nat):Int),(1:Int),Gi ((cq n 0 lo:Nat):Int) ((cq n n hi:Nat):Int) 1)) _ _ s;rw[Yby];exact af h
theorem ycq(xs:Array Value)(i k:Nat):((uc k).filterMap λ(m:Nat)=>xs[((i:Int)+(m:Int)*1).toNat]?).toArray=((xs.toList.drop i).take k).toArray:=by
 have e:(λ(m:Nat)=>xs[((i:Int)+(m:Int)*1).toNat]?)=λm=>xs[i+m]?:=by
  funext m;have:((i:Int)+(m:Int)*1).toNat=i+m:=by lia
  rw[this]
 rw[e];have:=pick_run xs i k;rw[List.filterMap_map] at this;have e2:((λx=>xs[x]?)∘λx=>i+x)=λm=>xs[i+m]?:=rfl;rw[e2] at this;rw[this]
theorem ic{t sl:ae}{items:Array Value}{vl vu:Value}{lo hi:Option Int}{Q:Value->Shared->Prop}(ht:gK s.heap t items)(hs:s.heap.IsSliceOf sl vl vu .none)(pl:fq vl lo)(pu:fq vu hi)
  (hw:¬(cq items.size 0 lo=0/\cq items.size items.size hi=items.size))
  (h:Q (.ref s.heap.objs.size) {s with heap:=s.heap.push {cls:=.type "tuple",data:=.seq ((items.toList.drop (cq items.size 0 lo)).take (cq items.size items.size hi-cq items.size 0 lo)).toArray}})
  (hsz:items.size<=sizeLine):ag (ah prog w) A (getItem (.ref t) (.ref sl)) Q E s:=by
 have mC:sizeOk (.seq ((items.toList.drop (cq items.size 0 lo)).take (cq items.size items.size hi-cq items.size 0 lo)).toArray):=by
  show((items.toList.drop (cq items.size 0 lo)).take (cq items.size items.size hi-cq items.size 0 lo)).toArray.size<=sizeLine;rw[wc,Vm,UB,wm]
  lia
 have hj:cq items.size items.size hi<=items.size:=qcW _ _ (Ua _) hi;obtain⟨os,sf,oX,Bx⟩:=id hs;have Ic:s.TypeIs (.ref sl) "slice":=⟨os,sf,oX⟩;unfold getItem
 try with_reducible refine aI ?_
 first|refine aa (af ?_)|skip
 refine aa (hJ ht.typeIs (by decide) ?_);refine aa (aO (name:=jj "__getitem__") ht.typeIs gf
  (bg gf ht.typeIs entry_tuple_getitem ?_ (gX _ _)))
 show ag _ _ (Gj (.ref t) >>= _) _ _ s;refine aa (jZ ht ?_);refine aa (cE Ic ?_);rw[if_pos (by decide)];refine aa (yJ hs pl pu ?_);have hno:¬((((cq items.size 0 lo:Nat):Int)==0&&(1:Int)==1&&(cq items.size items.size hi-cq items.size 0 lo)==items.size)=true):=by
  intro q;rw[Wa,Wa] at q;have q1:((cq items.size 0 lo:Nat):Int)=0:=eq_of_beq q.1.1;have q2:cq items.size items.size hi-cq items.size 0 lo=items.size:=eq_of_beq q.2;exact hw ⟨by lia,by lia⟩
 show ag _ _ (if(((cq items.size 0 lo:Nat):Int)==0&&(1:Int)==1&&(cq items.size items.size hi-cq items.size 0 lo)==items.size)=true then _ else _) _ _ s;rw[if_neg hno,ycq]
 first
  |exact aa (m:=gj _) (aR (af ⟨_,rfl,af h⟩) mC)
  |exact aa (m:=gj _) (aR (aa (af (af ⟨_,rfl,af h⟩))) mC)
  |exact aa (aa (m:=gj _) (aR (af (af ⟨_,rfl,af h⟩)) mC))
  |exact aa (aa (m:=gj _) (aR (af ⟨_,rfl,af h⟩) mC))
end
end HT
namespace L2
open PySem PySem.Spec PyProof.Rows
noncomputable abbrev TO:=St->Hp->(Option Int->Hp->Prop)->Prop
noncomputable def PO(X:Cx)(e:Option Expr)(t:TO):Prop :=
 ∀(pins:List (ae×Obj)) (s:Shared) (σ:St) (H:Hp) (Q:Option Int->Hp->Prop),Inv X pins σ H s->t σ H Q ->
  ag (ah X.prog X.w) X.A (evalPart e X.env) (λu s'=>∃ o H',Inv X pins σ H' s'/\fq u o/\Q o H') X.xe s
noncomputable def zcJ:TO:=λ_ H Q=>Q none H
noncomputable def vW(t:TE):TO:=λσ H Q=>t σ H λx H1=>∃ i,x=.int i/\Q (some i) H1
section
variable {X:Cx} {e:Expr} {te:TE} {lo hi:Option Expr} {tl th:TO} {pos p2:Pos}
theorem zcC:PO X none zcJ:=by
 intro pins s σ H Q I h;rw[gG];exact af ⟨none,H,I,.none,h⟩
theorem O7(h:PE X e te):PO X (some e) (vW te):=by
 intro pins s σ H Q I hw;rw[evalPart_some];refine bc (h pins s σ H _ I hw) λu s1 ⟨x,H1,I1,r1,q1⟩=>?_;obtain⟨i,rfl,q⟩:=q1;obtain⟨t,rfl⟩:=r1;exact⟨some i,H1,I1,.int i t,q⟩
noncomputable def ED(X:Cx)(r:V->Option Int->Option Int->Hp->VK->Prop):Prop :=
 ∀(pins:List (ae×Obj)) (s:Shared) (σ:St) (H:Hp) (x:V) (v vl vu:Value) (lo hi:Option Int) (sl:ae) (Q:VK),Inv X pins σ H s->RelV x v->s.heap.IsSliceOf sl vl vu .none->fq vl lo->fq vu hi->r x lo hi H Q ->
  ∃ T id,gO (.type T) "__getitem__"=pure (some (.builtin id))/\s.TypeIs v T/\ag (ah X.prog X.w) X.A (getItem v (.ref sl)) (EP X pins σ Q) X.xe s
noncomputable def tSl(r:V->Option Int->Option Int->Hp->VK->Prop)(te:TE)(tl th:TO):TE:=λσ H Q=>te σ H λx H1=>tl σ H1 λl H2=>th σ H2 λu H3=>r x l u H3 Q
theorem Qb2{r:V->Option Int->Option Int->Hp->VK->Prop}(hr:ED X r)(he:PE X e te)(hl:PO X lo tl)(hu:PO X hi th):PE X (.Subscript e (.Slice lo hi none p2) pos) (tSl r te tl th):=by
 intro pins s σ H Q I h;refine jO (bc (he pins s σ H _ I h) λv s1 ⟨x,H1,I1,r1,q1⟩=>?_);refine wpAny_Slice (bc (hl pins s1 σ H1 _ I1 q1) λvl s2 ⟨l,H2,I2,pl,q2⟩=>bc (hu pins s2 σ H2 _ I2 q2) λvu s3 ⟨u,H3,I3,pu,q3⟩=>?_);rw[gG];refine af ?_;have I4:Inv X pins σ H3 {s3 with heap:=s3.heap.push {cls:=.type "slice",data:=.fields #[vl,vu,.none]}}:=I3.kept (t':=s3.toks) λb ob q=>wa _ q;obtain⟨T,id,hT,ht,hg⟩:=hr pins {s3 with heap:=s3.heap.push {cls:=.type "slice",data:=.fields #[vl,vu,.none]}} σ H3 x v vl vu l u s3.heap.objs.size Q I4 r1 (Heap.IsSliceOf.new ..) pl pu q3;show ag (ah X.prog X.w) X.A (gD e (.Slice lo hi none p2) v (.ref s3.heap.objs.size)) (EP X pins σ Q) X.xe {s3 with heap:=s3.heap.push {cls:=.type "slice",data:=.fields #[vl,vu,.none]}};exact tail_any (ops:=[.ref s3.heap.objs.size,v]) ht hT hg (by with_unfolding_all rfl)
noncomputable def rp(xs:List V)(lo hi:Option Int):List V:=(xs.drop (HT.cq xs.length 0 lo)).take (HT.cq xs.length xs.length hi-HT.cq xs.length 0 lo)
theorem Ph(xs:List V)(lo hi:Option Int):(rp xs lo hi).length<=xs.length:=by
 unfold rp;rw[Vm,UB]
 lia
noncomputable def FX(K:Jc):V->Option Int->Option Int->Hp->VK->Prop:=λx lo hi H Q=>∃ a xs,x=.ref a/\gA K H a xs /\
 ¬(HT.cq xs.length 0 lo=0/\HT.cq xs.length xs.length hi=xs.length)/\∀ p,H p=none->Q (.ref p) (upd H p (.tup (rp xs lo hi)))
theorem yc7:ED X (FX X.K):=by
 intro pins s σ H x v vl vu lo hi sl Q I rx hs pl pu h;obtain⟨a,xs,rfl,hx,hw,q⟩:=h;cases rx;obtain⟨av,r,ht,hz⟩:=I.tuple hx;have hlen:av.toArray.size=xs.length:=by rw[wc];exact r.length.symm
 refine⟨"tuple",_,gf.lookup,ht.typeIs,?_⟩;refine HT.ic ht hs pl pu (by rw[hlen];exact hw) ?_ (by rw[hlen];exact hz);rw[hlen];refine⟨.ref s.heap.objs.size,_,I.laid (t':=s.toks) (o:=.tup (rp xs lo hi)) (λb ob q=>wa _ q) (Ua _) ?_,rfl,q _ (I.aL.fresh (Ua _))⟩;exact⟨Wf (Ph xs lo hi) hz,_,(r.drop (HT.cq xs.length 0 lo)).take (HT.cq xs.length xs.length hi-HT.cq xs.length 0 lo),gK.new _ _⟩
noncomputable def xU(K:Jc):R2:=λx y H Q=>∃ a b xs ys,x=.ref a/\y=.ref b/\gA K H a xs/\gA K H b ys/\xs≠[]/\xs.length+ys.length<=sizeLine /\
 (ys=[]->Q (.ref a) H)/\(ys≠[]->∀ p,H p=none->Q (.ref p) (upd H p (.tup (xs++ys))))
theorem Vals.nil_iff{xs:List V}{us:List Value}(r:Vals xs us):us=[]↔xs=[]:=by
 cases r with
 |nil=>simp
 |cons _ _=>simp
theorem ycB:cD X (aV .Add) (xU X.K):=by
 intro pins s σ H x y v u Q I rx ry h;obtain⟨a,b,xs,ys,rfl,rfl,ha,hb,hx,hz,q1,q2⟩:=h;cases rx;cases ry;obtain⟨av,r1,p1,_⟩:=I.tuple ha;obtain⟨ia,r2,p2,_⟩:=I.tuple hb;refine HT.pA p1 p2 (λz=>hx (r1.nil_iff.mp z)) (λz=>⟨.ref a,H,I,rfl,q1 (r2.nil_iff.mp z)⟩) (λz=>?_) (by rw[<- r1.length,<- r2.length];exact hz);refine⟨.ref s.heap.objs.size,_,I.laid (t':=s.toks) (o:=.tup (xs++ys)) (λb ob q=>wa _ q) (Ua _) ?_,rfl,q2 (λw=>z (r2.nil_iff.mpr w)) _ (I.aL.fresh (Ua _))⟩;exact⟨by rw[Xg];exact hz,_,r1.append r2,gK.new _ _⟩
end
noncomputable def tV(n:Nat)(i:Int):Option Nat:=if 0<=i then(if i<n then some i.toNat else none) else if -(n:Int)<=i then some (i+n).toNat else none
noncomputable def uN{α:Type}(xs:List α)(i:Int):Option α:=(tV xs.length i).bind λj=>xs[j]?
theorem PX{n:Nat}{i:Int}{j:Nat}(h:tV n i=some j):seqIndex? i n=some j/\j<n/\-(n:Int)<=i/\i<n:=by
 unfold tV at h;by_cases h0:0<=i
 ·rw[if_pos h0] at h;by_cases h1:i<n
  ·rw[if_pos h1] at h;have e:i.toNat=j:=gb.inj h;exact⟨by rw[iO h0 h1,e],by lia,by lia,h1⟩
  ·rw[if_neg h1] at h;cases h
 ·rw[if_neg h0] at h;by_cases h1:-(n:Int)<=i
  ·rw[if_pos h1] at h;have e:(i+n).toNat=j:=gb.inj h;exact⟨by rw[seqIndex_neg (by lia) h1,e],by lia,h1,by lia⟩
  ·rw[if_neg h1] at h;cases h
theorem Ot{α:Type}{xs:List α}{i:Int}{v:α}(h:uN xs i=some v):∃ j,seqIndex? i xs.length=some j/\xs[j]?=some v/\j<xs.length/\-(xs.length:Int)<=i/\i<xs.length:=by
 unfold uN at h;cases e:tV xs.length i with
 |none=>rw[e] at h;cases h
 |some j =>
  rw[e] at h;obtain⟨h1,h2,h3,h4⟩:=PX e;exact⟨j,h1,h,h2,h3,h4⟩
noncomputable def Oq(b:Expr):Prop:=∀ o i,subscripted b false o i=operate [o,i] (getItem o i)
noncomputable def CB(X:Cx)(r:R2):Prop :=
 ∀(value slice:Expr)(pins:List (ae×Obj)) (s:Shared) (σ:St) (H:Hp) (x y:V) (v u:Value) (Q:VK),Inv X pins σ H s->RelV x v->RelV y u->r x y H Q ->
  subscripted slice false v u=operate [v,u] (getItem v u)->ag (ah X.prog X.w) X.A (gD value slice v u) (EP X pins σ Q) X.xe s
noncomputable def pE(X:Cx)(id:String)(r:V->List V->Hp->VK->Prop):Prop :=
 ∀(pins:List (ae×Obj)) (s:Shared) (σ:St) (H:Hp) (x:V) (xs:List V) (v:Value) (us:List Value) (Q:VK),Inv X pins σ H s->RelV x v->Vals xs us->r x xs H Q ->
  ag (ah X.prog X.w) X.A (call (.builtin id) (v::us)) (EP X pins σ Q) X.xe s
section
variable {X:Cx} {a b:Expr} {ta tb:TE} {pos:Pos}
theorem Al{r:R2}(hr:CB X r)(ha:PE X a ta)(hb:PE X b tb)(hs:Oq b):PE X (.Subscript a b pos) (C5 r ta tb):=by
 intro pins s σ H Q I h;exact jO (sQ ha hb I h λv u s2 x y H2 I2 rx ry q=>hr a b pins s2 σ H2 x y v u Q I2 rx ry q (hs _ _))
noncomputable def F8(K:Jc):R2:=λx y H Q=>∃ p xs i v,x=.ref p/\y=.int i/\fK K H p xs/\uN xs i=some v/\Q v H
noncomputable def F5(K:Jc):R2:=λx y H Q=>∃ p xs i v,x=.ref p/\y=.int i/\gA K H p xs/\uN xs i=some v/\Q v H
theorem Qcv:CB X (F8 X.K):=by
 intro value slice pins s σ H x y v u Q I rx ry h hs;obtain⟨p,xs,i,z,rfl,rfl,hq,he,q⟩:=h;cases rx;obtain⟨t,rfl⟩:=ry;obtain⟨av,r,pl,hz⟩:=I.list hq;obtain⟨j,h1,h2,h3,h4,h5⟩:=Ot he;obtain⟨w,ew,FP⟩:=r.get h2;have hl:=r.length;have hn:=EC;have fin:EP X pins σ Q w s:=⟨z,H,I,FP,q⟩;by_cases h0:0<=i
 ·have hj:i.toNat=j:=by
   rw[iO h0 h5] at h1;exact gb.inj h1
  exact item_listR pl.isList h0 (by lia) (by rw[hj];simpa using ew) fin hs
 ·have hj:(i+(av.toArray.size:Int)).toNat=j:=by
   rw[seqIndex_neg (by lia) h4] at h1;rw[wc,<- hl];exact gb.inj h1
  exact fk (x:=w) pl.isList.typeIs slot_list_getitem.lookup
   (wpAny_getItem_list_neg (Q:=λr s'=>r=w/\EP X pins σ Q r s') pl.isList (by lia) (by rw[wc] <;> lia) (by lia) (by rw[hj];simpa using ew) ⟨rfl,fin⟩) hs
theorem qcS:CB X (F5 X.K):=by
 intro value slice pins s σ H x y v u Q I rx ry h hs;obtain⟨p,xs,i,z,rfl,rfl,hq,he,q⟩:=h;cases rx;obtain⟨t,rfl⟩:=ry;obtain⟨av,r,pl,hz⟩:=I.tuple hq;obtain⟨j,h1,h2,h3,h4,h5⟩:=Ot he;obtain⟨w,ew,FP⟩:=r.get h2;have hl:=r.length;have hn:=EC;have fin:EP X pins σ Q w s:=⟨z,H,I,FP,q⟩;exact fk (x:=w) pl.typeIs slot_tuple_getitem.lookup
  (getItem_tuple (j:=j) (Q:=λr s'=>r=w/\EP X pins σ Q r s') pl (by lia) (by lia) (by rw[wc,<- hl];exact h1) (by simpa using ew) ⟨rfl,fin⟩) hs
theorem zby(av:List Value)(n j:Nat)(u:Value):jk (·.setIfInBounds j u) {cls:=.type "list",data:=.seq av.toArray n}={cls:=.type "list",data:=.seq (av.set j u).toArray n}:=by
 simp[jk]
theorem Inv.lst{pins:List (ae×Obj)}{σ:St}{H:Hp}{s:Shared}{p:ae}{xs:List V}(I:Inv X pins σ H s)(h:H p=some (.lst xs)) :
  ∃(av:List Value)(n:Nat),Vals xs av/\s.heap.get? p=some {cls:=.type "list",data:=.seq av.toArray n}/\xs.length<=sizeLine:=by
 obtain⟨z,av,n,r,e⟩:=I.aL p _ h;exact⟨av,n,r,e,z⟩
theorem Inv.rX{pins:List (ae×Obj)}{σ:St}{H:Hp}{s:Shared}{p:ae}{xs ys:List V}{av its':List Value}{n n':Nat}{f:Obj->Obj}(I:Inv X pins σ H s)(h:H p=some (.lst xs))
  (ho:s.heap.get? p=some {cls:=.type "list",data:=.seq av.toArray n}) (hf:f {cls:=.type "list",data:=.seq av.toArray n}={cls:=.type "list",data:=.seq its'.toArray n'}) (r:Vals ys its') (hz:ys.length<=sizeLine) (t:Nat) :
  Inv X pins σ (upd H p (.lst ys)) {s with heap:=s.heap.update p f,toks:=t}:=by
 have e:(s.heap.update p f).get? p=some {cls:=.type "list",data:=.seq its'.toArray n'}:=by
  rw[Xp f ho (by rw[hf] <;> rfl),hf]
 refine I.write (x:=p) (e:=p) (by rw[h];trivial) (.inl rfl) (λb u hb q=>(uj _ _ (Jd hb)).trans q) ⟨_,e⟩ ?_;exact⟨hz,its',n',r,e⟩
noncomputable def xQ:V->V->V->Hp->(Hp->Prop)->Prop:=λo i v H Q=>∃ p xs k j,o=.ref p/\i=.int k/\H p=some (.lst xs)/\tV xs.length k=some j/\Q (upd H p (.lst (xs.set j v)))
theorem zcm:Cz X xQ:=by
 intro pins s σ H o i v ov iv u Q I ro ri rv h;obtain⟨p,xs,k,j,rfl,rfl,hp,hj,q⟩:=h;cases ro;obtain⟨t,rfl⟩:=ri;obtain⟨av,n,r,ho,hz⟩:=I.lst hp;obtain⟨h1,h2,h3,h4⟩:=PX hj;have hl:=r.length;have hn:=EC;have I':Inv X pins σ (upd H p (.lst (xs.set j v))) {s with heap:=s.heap.update p (jk (·.setIfInBounds j u))} :=
  I.rX hp ho (zby av n j u) (r.set rv j) (by rw[List.length_set];exact hz) s.toks
 by_cases h0:0<=k
 ·have hk:k.toNat=j:=by
   rw[iO h0 h4] at h1;exact gb.inj h1
  exact PySem.W.ki_setAt ho h0 (by lia) (by rw[wc,<- hl];exact h4) (by rw[hk];exact⟨_,I',q⟩)
 ·have hk:(k+(av.toArray.size:Int)).toNat=j:=by
   rw[seqIndex_neg (by lia) h3] at h1;rw[wc,<- hl];exact gb.inj h1
  exact PySem.W.ki_setBack ho (by lia) (by rw[wc,<- hl];exact h3) (by lia) (by rw[hk];exact⟨_,I',q⟩)
theorem ya4(lo hi:Option Int)(n:Nat):(cA lo hi none n).1=((HT.cq n 0 lo:Nat):Int)/\(cA lo hi none n).2.1=((HT.cq n n hi:Nat):Int)/\(cA lo hi none n).2.2=1:=by
 refine⟨?_,?_,rfl⟩
 ·cases lo with
  |none=>simp[cA,HT.cq]
  |some i =>
   simp only[cA,HT.cq,VH,show(1:Int)>0 by decide,if_true];by_cases h:i<0
   ·simp only[h,if_true] <;> lia
   ·simp only[h,if_false] <;> lia
 ·cases hi with
  |none=>simp[cA,HT.cq]
  |some i =>
   simp only[cA,HT.cq,VH,show(1:Int)>0 by decide,if_true];by_cases h:i<0
   ·simp only[h,if_true] <;> lia
   ·simp only[h,if_false] <;> lia
theorem yaQ(av:List Value)(lo hi:Option Int):slicePick av.toArray lo hi none=((av.drop (HT.cq av.length 0 lo)).take (HT.cq av.length av.length hi-HT.cq av.length 0 lo)).toArray:=by
 obtain⟨h1,h2,h3⟩:=ya4 lo hi av.toArray.size;unfold slicePick;rw[h1,h2,h3];simp only[sliceRange_one,pick_run,wc] <;> rfl
noncomputable def FZ(K:Jc):V->Option Int->Option Int->Hp->VK->Prop:=λx lo hi H Q=>∃ a xs,x=.ref a/\fK K H a xs/\∀ p,H p=none->Q (.ref p) (upd H p (.lst (rp xs lo hi)))
theorem LA:ED X (FZ X.K):=by
 intro pins s σ H x v vl vu lo hi sl Q I rx hs pl pu h;obtain⟨a,xs,rfl,hx,q⟩:=h;cases rx;obtain⟨av,r,ht,hz⟩:=I.list hx;have hlen:=r.length;refine⟨"list",_,slot_list_getitem.lookup,ht.isList.typeIs,?_⟩;refine eI ht.isList hs pl pu .none (by simp) ?_ (by rw[wc] <;> lia);rw[yaQ,<- hlen];refine⟨.ref s.heap.objs.size,_,I.laid (t':=s.toks) (o:=.lst (rp xs lo hi)) (λb ob q=>wa _ q) (Ua _) ?_,rfl,q _ (I.aL.fresh (Ua _))⟩;exact⟨Wf (Ph xs lo hi) hz,_,0,(r.drop (HT.cq xs.length 0 lo)).take (HT.cq xs.length xs.length hi-HT.cq xs.length 0 lo),wb _ rfl⟩
theorem Qa6:aH X (.builtin "len") (λxs H Q=>∃ p ys,xs=[.ref p]/\(fK X.K H p ys\/gA X.K H p ys)/\Q (.int ys.length) H):=by
 intro pins s σ H xs us Q I r h;obtain⟨p,ys,rfl,hq,q⟩:=h;obtain⟨u,rfl,rx⟩:=CV r;cases rx;have hn:=EC
 rcases hq with hq|hq
 ·obtain⟨av,r',pl,hz⟩:=I.list hq;have hlen:=r'.length;exact Calls.call_len_list pl.isList (by simp only[wc] <;> lia) ⟨.int ys.length,H,I.tok _,⟨s.toks+1,by rw[wc,hlen]⟩,q⟩
 ·obtain⟨av,r',pl,hz⟩:=I.tuple hq;have hlen:=r'.length;exact len_tuple pl (by simp only[wc] <;> lia) ⟨.int ys.length,H,I.tok _,⟨s.toks+1,by rw[wc,hlen]⟩,q⟩
theorem YaZ:aH X (.type "list") (λxs H Q=>∃ p ys,xs=[.ref p]/\(fK X.K H p ys\/gA X.K H p ys)/\∀ l,H l=none->Q (.ref l) (upd H l (.lst ys))):=by
 intro pins s σ H xs us Q I r h;obtain⟨p,ys,rfl,hq,q⟩:=h;obtain⟨u,rfl,rx⟩:=CV r;cases rx;have fin:∀(av:List Value),Vals ys av->ys.length<=sizeLine->∀(h':Heap)(c':Nat),(∀ b o',s.heap.get? b=some o'->h'.get? b=some o') ->
   h'.get? s.heap.objs.size=some {cls:=.type "list",dict:=none,data:=.seq av.toArray c',slots:=#[]}->EP X pins σ Q (.ref s.heap.objs.size) {s with heap:=h'}:=λav r' hz h' c' kp e =>
  ⟨.ref s.heap.objs.size,_,I.laid (t':=s.toks) kp (Ua _) (show ba X.prog X.w _ h' _ (.lst ys) from⟨hz,av,c',r',e⟩),rfl,q _ (I.aL.fresh (Ua _))⟩
 rcases hq with hq|hq
 ·obtain⟨av,r',pl,hz⟩:=I.list hq;have hlen:=r'.length;obtain⟨o,ho,hc,n,hd⟩:=pl.isList;exact kB p (.inl rfl) ho hc hd (λh' c' kp e=>fin av r' hz h' c' kp e) (by simp only[wc] <;> lia)
 ·obtain⟨av,r',pl,hz⟩:=I.tuple hq;have hlen:=r'.length;obtain⟨o,ho,hc,n,hd⟩:=pl;exact kB p (.inr rfl) ho hc hd (λh' c' kp e=>fin av r' hz h' c' kp e) (by simp only[wc] <;> lia)
theorem zaM:aH X (.type "tuple") (λxs H Q=>∃ p ys,xs=[.ref p]/\((fK X.K H p ys/\∀ l,H l=none->Q (.ref l) (upd H l (.tup ys)))\/(gA X.K H p ys/\Q (.ref p) H))):=by
 intro pins s σ H xs us Q I r h;obtain(⟨p,ys,rfl,h⟩):=h;obtain(⟨u,rfl,rx⟩):=CV r;cases rx
 rcases h with ⟨hq,q⟩|⟨hq,q⟩
 ·obtain(⟨av,r',pl,hz⟩):=I.list hq;have hlen:=r'.length;refine call_tuple_list pl.isList (λh' kp=>?_) (by simp only[wc] <;> lia);have I1:Inv X pins σ H {s with heap:=h'}:=I.kept (t':=s.toks) kp;have I2:Inv X pins σ (upd H h'.objs.size (.tup ys)) {s with heap:=h'.push {cls:=.type "tuple",data:=.seq av.toArray}} :=
   I1.laid (t':=s.toks) (λb o e=>wa _ e) (Ua _) (show ba X.prog X.w _ _ _ (.tup ys) from⟨hz,av,r',gK.new _ _⟩)
  exact⟨.ref h'.objs.size,_,I2,rfl,q _ (I1.aL.fresh (Ua _))⟩
 ·obtain(⟨av,r',pl,hz⟩):=I.tuple hq;exact call_tuple_same pl ⟨.ref p,H,I,rfl,q⟩
noncomputable def Fm(K:Jc)(T:String)(x:V)(H:Hp):Prop:=match x with
 |.str _=>T="str"
 |.int _=>T="int"
 |.ref p=>(T="list"/\∃ xs,fK K H p xs)\/(T="tuple"/\∃ o,K.lookup p=some o/\o.cls=.type "tuple"/\o.dict=none) \/
   (T="dict"/\((∃ kvs,H p=some (.dK kvs))\/∃ kvs,H p=some (.dT kvs)))\/(T="set"/\∃ S n,H p=some (.set S n))
 |_=>False
theorem ZcV{pins:List (ae×Obj)}{σ:St}{H:Hp}{s:Shared}{T:String}{x:V}{v:Value}(I:Inv X pins σ H s)(r:RelV x v)(ty:Fm X.K T x H) :
  s.TypeIs v T/\∀ a,v=.ref a->∃ ob,s.heap.get? a=some ob/\ob.dict=none:=by
 cases x with
 |str z =>
  obtain⟨t,rfl⟩:=r;cases(show T="str" from ty);exact⟨typeIs_str s z t,λ_ e=>nomatch e⟩
 |int i =>
  obtain⟨t,rfl⟩:=r;cases(show T="int" from ty);exact⟨jt s i t,λ_ e=>nomatch e⟩
 |ref p =>
  cases r
  rcases ty with ⟨rfl,xs,hq⟩|⟨rfl,o,hk,hc,hd⟩|⟨rfl,hk⟩|⟨rfl,S,n,hk⟩
  ·obtain⟨av,_,pl,_⟩:=I.list hq;refine⟨pl.isList.typeIs,λa e=>?_⟩;cases e;obtain⟨o,n,e,c,hd,_⟩:=pl;exact⟨o,e,hd⟩
  ·refine⟨⟨o,I.iB p o hk,hc⟩,λa e=>?_⟩;cases e;exact⟨o,I.iB _ o hk,hd⟩
  ·have z:∃ o,s.heap.get? p=some o/\o.ExactDict:=by
    rcases hk with ⟨kvs,hk⟩|⟨kvs,hk⟩
    ·obtain⟨_,_,_,_,o,_,_,e,ex,_⟩:=I.aL p _ hk;exact⟨o,e,ex⟩
    ·obtain⟨_,_,_,_,o,_,_,e,ex,_⟩:=I.aL p _ hk;exact⟨o,e,ex⟩
   obtain⟨o,e,ex⟩:=z;refine⟨⟨o,e,ex.1⟩,λa e2=>?_⟩;cases e2;exact⟨o,e,ex.2.1⟩
  ·obtain⟨o,_,_,_,e,ex,_⟩:=I.aL p _ hk;refine⟨⟨o,e,ex.1⟩,λa e2=>?_⟩;cases e2;exact⟨o,e,ex.2.1⟩
 |_=>exact Hg ty
noncomputable def tBM(K:Jc)(T:String)(r:V->List V->Hp->VK->Prop)(to:TE)(t:TA):TE:=λσ H Q=>to σ H λx H1=>Fm K T x H1/\t σ H1 λxs H2=>r x xs H2 Q
variable {o e:Expr} {es:List Expr} {to:TE} {t:TA} {name:Str} {apos ip:Pos} {T id:String} {r:V->List V->Hp->VK->Prop}
theorem Am(pa:PlainAttrs T)(slot:Slot T name id)(G3:typeOf (.builtin id)=pure (.type "method_descriptor"))(hm:pE X id r)(ho:PE X o to)(ha:PA X (e::es) t)
  (jE:aX o name X.env (eval o X.env)=eval o X.env:=by rfl)
  (nD:((bf ip (ao (e::es) X.env)).all (λx=>!x.1)&&(dt ip (bH [] X.env)).all (λx=>x.1.isSome)
   && decide ((e::es).length+([]:List cP).length+(if([]:List cP).isEmpty then 0 else 1)<30))=true:=by rfl)
  (dR:(apos.endLine==ip.line)=true:=by rfl) (hs:ao (e::es) X.env=(false,eval e X.env)::ao es X.env:=by rfl) (se:(bf ip (ao es X.env)).any (·.1)=false:=by rfl) :
  PE X (.Call (.Attribute o name apos) (e::es) [] ip) (tBM X.K T r to t):=by
 intro pins s σ H Q I h;refine wpAny_Call_method_late jE nD dR rfl (bc (ho pins s σ H _ I h) λv s1 ⟨x,H1,I1,r1,ty,q1⟩=>?_);obtain⟨h1,h2⟩:=ZcV I1 r1 ty;refine⟨T,id,pa,slot,G3,h1,h2,?_⟩;have hA:=ha ip pins s1 σ H1 _ I1 q1;rw[hs] at hA ⊢;refine Ge (by show(false||(bf ip (ao es X.env)).any (·.1))=false;rw[se] <;> rfl) (Kf ?_);exact bc hA λus s2 ⟨vs,H2,I2,r2,q2⟩=>hm pins s2 σ H2 x vs v us Q I2 r1 r2 q2
end
noncomputable def Ro(X:Cx)(id:String)(r:V->List V->Hp->VK->Prop):Prop :=
 ∀(pins:List (ae×Obj)) (s:Shared) (σ:St) (H:Hp) (x:V) (xs:List V) (v:Value) (us:List Value) (Q:VK),Inv X pins σ H s->RelV x v->Vals xs us->r x xs H Q ->
  ag (ah X.prog X.w) X.A (call (.builtin id) (v::us)) (EP X pins σ Q) X.xe s
theorem Vals.one:∀{x:V}{us:List Value},Vals [x] us->∃ u,us=[u]/\RelV x u
 |_,_,.cons r .nil=>⟨_,rfl,r⟩
theorem Vals.dropLast{xs:List V}{us:List Value}(h:Vals xs us):Vals xs.dropLast us.dropLast:=by
 induction h with
 |nil=>exact .nil
 |cons r t ih =>
  cases t with
  |nil=>exact .nil
  |cons q t'=>exact .cons r ih
theorem Vals.reverse{xs:List V}{us:List Value}(h:Vals xs us):Vals xs.reverse us.reverse:=by
 induction h with
 |nil=>exact .nil
 |cons r t ih=>rw[Vs,Vs];exact Vals.append ih (.cons r .nil)
theorem Vals.rep{xs:List V}{us:List Value}(h:Vals xs us):∀ k:Nat,Vals (xc k xs).flatten (xc k us).flatten
 |0=>.nil
 |k+1=>by
  rw[Vj,Vj,Vp,Vp];exact Vals.append h (Vals.rep h k)
theorem yc0{α:Type}(l:List α):l.eraseIdx (l.length-1)=l.dropLast:=by
 induction l with
 |nil=>rfl
 |cons a r ih =>
  cases r with
  |nil=>rfl
  |cons b r =>
   have e:(a::b::r).length-1=((b::r).length-1)+1:=by
    have h1:(a::b::r).length=r.length+2:=rfl;have h2:(b::r).length=r.length+1:=rfl
    lia
   rw[e,List.eraseIdx_cons_succ,ih]
   all_goals rfl
theorem OI(av:List Value):∀(k:Nat)(acc:List Value),
  XI (λx1 x2=>x1++x2) acc.toArray (xc k av.toArray)=(acc++(xc k av).flatten).toArray
 |0,acc=>by simp
 |k+1,acc=>by
  have e:acc.toArray++av.toArray=(acc++av).toArray:=by simp
  have e2:(acc++av)++(xc k av).flatten=acc++(xc (k+1) av).flatten:=by
   rw[Vj,Vp,uh]
  rw[<- e2,<- OI av k (acc++av),<- e,Vj,Wh]
section
variable {X:Cx} {pins:List (ae×Obj)} {σ:St} {H:Hp} {s:Shared} {l b:ae} {xs ys zs:List V}
theorem Inv.AN{av its':List Value}{n:Nat}{f:Array Value->Array Value}{t':Nat}(I:Inv X pins σ H s)(hH:H l=some (.lst xs))
  (e:s.heap.get? l=some {cls:=.type "list",data:=.seq av.toArray n}) (hf:f av.toArray=its'.toArray) (hv:Vals ys its') (hz:ys.length<=sizeLine) :
  Inv X pins σ (upd H l (.lst ys)) {s with heap:=s.heap.update l (jk f),toks:=t'}:=by
 have q:=PySem.IsL.update e f;rw[hf] at q;refine I.write (x:=l) (e:=l) (by rw[hH];exact trivial) (.inl rfl) (λb' u hb hu=>(uj s.heap (jk f) (Jd hb)).trans hu) ⟨_,q⟩ ?_;exact⟨hz,its',_,hv,q⟩
theorem Inv.AQ{av:List Value}{t':Nat}(I:Inv X pins σ H s)(hv:Vals ys av)(hz:ys.length<=sizeLine) :
  Inv X pins σ (upd H s.heap.objs.size (.lst ys)) {s with heap:=s.heap.push {cls:=.type "list",data:=.seq av.toArray},toks:=t'} :=
 I.laid (λ_ _ q=>wa _ q) (Ua _) ⟨hz,av,0,hv,wb _ rfl⟩
theorem Inv.fresh(I:Inv X pins σ H s):H s.heap.objs.size=none:=I.aL.fresh (Ua _)
theorem Inv.AM(I:Inv X pins σ H s)(hH:H l=some (.lst xs)):xs.length<=sizeLine/\∃(av:List Value)(n:Nat),Vals xs av/\xs.length=av.length/\s.heap.get? l=some {cls:=.type "list",data:=.seq av.toArray n}:=by
 obtain⟨z,av,n,r,e⟩:=I.aL l _ hH;exact⟨z,av,n,r,r.length,e⟩
theorem Lv{n:Nat}(h:n<=sizeLine):Kl n=false:=by
 unfold Kl;exact decide_eq_false (by lia)
end
section
variable {X:Cx}
noncomputable def ycG:V->List V->Hp->VK->Prop:=λx vs H Q=>∃ l xs y,x=.ref l/\vs=[y]/\H l=some (.lst xs)/\xs.length<sizeLine/\Q .bG (upd H l (.lst (xs++[y])))
theorem qbZ:Ro X "list.append" ycG:=by
 intro pins s σ H x vs v us Q I rx rv h;obtain⟨l,xs,y,rfl,rfl,hH,hz,q⟩:=h;cases rx;obtain⟨u,rfl,ru⟩:=rv.one;obtain⟨z,av,n,r,hl,e⟩:=I.AM hH;refine gW F.slot_list_append ⟨_,e,rfl⟩ F.entry_list_append (F.args_list_append_2 _ _) (PySem.list_append l av.toArray n u (by rw[wc];lia)) ⟨e,?_⟩;refine⟨.bG,_,I.AN (its':=av++[u]) hH e (by simp) (r.append (.cons ru .nil)) ?_,rfl,q⟩;rw[Xg,xD]
 lia
noncomputable def C9:V->List V->Hp->VK->Prop:=λx vs H Q=>∃ l b xs zs,x=.ref l/\vs=[.ref b]/\H l=some (.lst xs)/\H b=some (.lst zs)/\xs.length+zs.length<=sizeLine/\Q .bG (upd H l (.lst (xs++zs)))
noncomputable def rPop:V->List V->Hp->VK->Prop:=λx vs H Q=>∃ l xs y,x=.ref l/\vs=[]/\H l=some (.lst xs)/\xs[xs.length-1]?=some y/\Q y (upd H l (.lst xs.dropLast))
theorem QcG{α:Type}(xs:List α)(k:Nat):(xc k xs).flatten.length=k*xs.length:=by
 induction k with
 |zero=>simp
 |succ k ih=>rw[Vj,Vp,Xg,ih,Nat.succ_mul,Nat.add_comm]
end
end L2
namespace Rv
open PySem PySem.W PySem.Calls PyProof.Rows
theorem qaq{P:Params}{h:Heap}:∀(ns:List Int)(vs:List Value),WellAll P h vs (ns.map WData.int)->gr vs ns:=by
 intro ns
 induction ns with
 |nil =>
  intro vs w;rw[Ui] at w;cases w;exact .nil
 |cons n ns ih =>
  intro vs w;rw[xb] at w;cases w with
  |cons a b =>
   cases a;exact .cons _ _ (ih _ b)
theorem QbW{l:OpenLaw}{n:Nat}(hn:l.most=some n){P:Params}{h:Heap}{args:List WData}{vals:List Value}
  (oR:l.row.toRowW.claim.pre args=true) (G2:WellAll P h vals args) :
  ∃ a vs ns,vals=[ka a]/\args=[WData.list (ns.map WData.int)]/\h.get? a=some {cls:=.type "list",data:=.seq vs.toArray}/\gr vs ns/\ns.length<=n:=by
 have hsh:WShape.hasAll [] args [.list .int]=true:=(pre_splitW oR).1;have hc:l.pre.holds [] {args:=args}=true:=(pre_splitW oR).2;obtain⟨d,r,rfl,h1,h2⟩:=hasAllW_cons hsh;obtain rfl:=hasAllW_nil h2;obtain⟨xs,rfl,h3⟩:=hasW_list h1;obtain⟨ns,rfl⟩:=items_int h3;have hlen:ns.length<=n:=by
  unfold OpenLaw.pre at hc;have h4:(WTm.not (.lt (.lit (.int (n:Int))) (.len (.arg 0)))).holds [] {args:=[.list (ns.map .int)]}=true:=by
   have h4:=(holds_andW hc).1;rw[hn] at h4;exact h4
  have h5:=condW_of h4 (w_not (w_lt w_lit (w_len_list (w_arg rfl))));rw[Wc] at h5;refine wI λq=>?_;have q':(n:Int)<((ns.length:Nat):Int):=by lia
  first
   |(rw[decide_eq_true q'] at h5;exact absurd h5 (by decide))
   |(simp at h5;lia)
 cases G2 with
 |cons w1 w2 =>
  cases w2;cases w1 with
  |list ho nF=>exact⟨_,_,ns,rfl,rfl,ho,qaq ns _ nF,hlen⟩
theorem zbO(l:OpenLaw)(args:List WData):l.row.toRowW.claim.post args (.bool true) args=true :=
 postW_of (r:=l.row.toRowW) (X:=(true==true))
  (show WShape.has [] (.bool true) .bool=true by first|rfl|decide|simp[WShape.has,WShape.arms,WShape.armsAll])
  (show(WTm.eq .res (.lit (.bool true))).value [] {args:=args,res:=some (.bool true),after:=args}=some (.bool (true==true)) from w_eq_bool (w_res rfl) w_lit) rfl
theorem lP{l:OpenLaw}{n:Nat}{q:ak}{loose:List Str}{XP:(Str->Option Value)->Heap->Prop}{YP:World->Heap->Prop}{d:DefRec}
  (hn:l.most=some n) (HP:d.params.defaults=[])
  (call:∀(w:World)(s₀ s₁:Shared)(mg mb:Str->Option Value)(fa:ae)(o:Obj) (pm cd doc:Value) (a:ae) (vs:List Value) (ns:List Int),
   Ground q loose [] XP w s₀ mg mb s₁.heap->YP w s₁.heap ->
   s₁.heap.get? fa=some o->o.data=.func (docDef d.name d.params d.body d.scope pm cd doc)->s₁.heap.CodeRec cd d.name->mg d.name=some (.ref fa) ->
   s₁.heap.get? a=some {cls:=.type "list",data:=.seq vs.toArray}->gr vs ns->ns.length<=n->s₁.gens=#[] ->
   bI (ah l.prog w) fZ (.call (.ref fa) ⟨[.ref a],[]⟩) (λr s'=>r=.ok (.ret (.bool true))/\OldK s₁.heap s'.heap/\s'.os=s₁.os/\dI s'.gens) s₁) :
  WalkO q loose XP YP l.row.toRowW d [] (λf vs=>PySem.call f vs):=by
 intro w s₀ s₁ mg mb G Y fa o pm cd doc dV kV ho hd ky hD oV hg args vals as oR hlay hrd G2 DT;obtain rfl:dV=.none:=Dflts.none hD HP;obtain rfl:kV=.none:=Dflts.noKw hD;obtain⟨a,vs,ns,rfl,rfl,sg,hints,hlen⟩:=QbW hn oR G2;refine enter_call (cO (call w s₀ s₁ mg mb fa o pm cd doc a vs ns G Y ho (fd_plain hd) ky oV sg hints hlen hg) λr s' hq=>?_);obtain⟨rfl,h2,h3,h4⟩:=hq;exact⟨.inl ⟨.bool true,.bool true,[],rfl,λ_=>rfl,.bool true,zbO l _,λ_=>⟨List.Pairwise.nil,λ_ hm=>(nomatch hm)⟩⟩,h2,h3,h4⟩
end Rv
namespace L2
open PySem PySem.Spec PyProof.Rows
theorem Pp:∀{vs:List Value}{ns:List Int},gr vs ns->Vals (ns.map V.int) vs
 |_,_,.nil=>.nil
 |_,_,.cons n t h=>.cons ⟨t,rfl⟩ (Pp h)
noncomputable def yO(s:Stmt)(j:Nat):Stmt:=match s with
 |.ClassDef _ _ _ body _ _ _ _ _ _ _=>body.getD j (.Pass ⟨0,0,0,0⟩)
 |_=>.Pass ⟨0,0,0,0⟩
noncomputable def Zl(s:Stmt):kR:=match s with
 |.FunctionDef _ a _ _ _ _ _ _ _ _=>a
 |_=>{posonlyargs:=[],args:=[],vararg:=none,kwonlyargs:=[],kw_defaults:=[],kwarg:=none,defaults:=[]}
noncomputable def qh(s:Stmt):List Stmt:=match s with
 |.FunctionDef _ _ b _ _ _ _ _ _ _=>b
 |_=>[]
noncomputable def Yc(s:Stmt):az:=match s with
 |.FunctionDef _ _ _ _ _ _ sc _ _ _=>sc
 |_=>{kind:=.function,names:=[],isGenerator:=false,isCoroutine:=false}
noncomputable abbrev CX0:mJ:=λ_ _ _ _ _ _=>False
noncomputable abbrev E0:XK:=λ_ _ _=>False
structure om (K:Jc) (x qual:Str) (st:Stmt) (f:ae) (fd:bF):Prop where
 ex:∃(oc:Value)(od:Option ae)(kV doc pm:Value)(an:Option ae)(dF ct:Value) (j9:Array (Option Value)),
  fd=ug x qual (Zl st) (qh st) (Yc st) .none kV doc pm an dF ct/\K.lookup f=some ⟨oc,od,.func fd,j9⟩/\Xl K dF qual=true
 kp:Wg K (.ref f)=true
section
variable {P:ak} {w:World} {K:Jc} {mg:Str->Option Value} {base:Heap}
theorem om.binds{x qual:Str}{st:Stmt}{f:ae}{fd:bF}{ps:List Str}(F:om K x qual st f fd)
  (h:∀(kV doc pm:Value)(an:Option ae)(dF ct:Value)(us:List Value),us.length=ps.length->bindArgs (ug x qual (Zl st) (qh st) (Yc st) .none kV doc pm an dF ct) ⟨us,[]⟩=pure (ps.zip us)):Binds K fd ps []:=by
 obtain⟨oc,od,kV,doc,pm,an,dF,ct,j9,rfl,lk,ky⟩:=F.ex;exact .all (h kV doc pm an dF ct)
theorem Cw{x qual:Str}{st:Stmt}{f:ae}{oc:Value}{od an:Option ae}{j9:Array (Option Value)}{kV doc pm dF ct:Value}(l:K.lookup f=some ⟨oc,od,.func (ug x qual (Zl st) (qh st) (Yc st) .none kV doc pm an dF ct),j9⟩)
  (c:Xl K dF qual=true) (k:Wg K (.ref f)=true):om K x qual st f (ug x qual (Zl st) (qh st) (Yc st) .none kV doc pm an dF ct):=⟨⟨oc,od,kV,doc,pm,an,dF,ct,j9,rfl,l,c⟩,k⟩
end
noncomputable def JP(H H':Hp):Prop:=∀ b o,H b=some o->H' b=some o
section
variable {κ:Type} [DecidableEq κ]
noncomputable def nM(kvs:List (κ×V))(k:κ):Option V:=(kvs.find? λkv=>decide (kv.1=k)).map (·.2)
noncomputable def qC(kvs:List (κ×V))(k:κ)(v:V):List (κ×V) :=
 if(kvs.any λkv=>decide (kv.1=k))=true then kvs.map (λkv=>if kv.1=k then(kv.1,v) else kv) else kvs++[(k,v)]
theorem GA{p:κ×V}{r:List (κ×V)}{k:κ}(e:p.1=k):nM (p::r) k=some p.2:=by simp[nM,ur,e]
theorem JW{p:κ×V}{r:List (κ×V)}{k:κ}(e:¬ p.1=k):nM (p::r) k=nM r k:=by simp[nM,ur,e]
theorem J1(k:κ):∀ kvs:List (κ×V),(kvs.any λkv=>decide (kv.1=k))=(nM kvs k).isSome
 |[]=>rfl
 |p::r=>by
  rw[vw];by_cases e:p.1=k
  ·simp only[GA e,decide_eq_true e,Bool.true_or,VF]
  ·rw[JW e,decide_eq_false e,Bool.false_or];exact J1 k r
theorem qH(kvs:List (κ×V))(k:κ)(v:V):(qC kvs k v).length<=kvs.length+1:=by
 unfold qC;split
 ·rw[Wc];lia
 ·rw[Xg,Uc,vh];lia
theorem ir.isSome_eq{o:Option V}{u:Option Value}(r:ir o u):o.isSome=u.isSome:=by
 cases o with
 |none=>cases u with
  |none=>rfl
  |some _=>exact(show False from r).elim
 |some _=>cases u with
  |none=>exact(show False from r).elim
  |some _=>rfl
theorem KV.val{kvs:List (κ×V)}{vs:List (κ×Value)}(r:KV kvs vs)(k:κ):ir (nM kvs k) (hU vs k):=by
 unfold KV at r
 induction r with
 |nil=>exact Kg
 |@cons p q ps qs h t ih =>
  obtain⟨h1,h2⟩:=h;by_cases e:p.1=k
  ·have e':q.1=k:=h1.symm.trans e;have b:hU (q::qs) k=some q.2:=by simp[hU,ur,e']
   rw[GA e,b];exact h2
  ·have e':¬ q.1=k:=λz=>e (h1.trans z);have b:hU (q::qs) k=hU qs k:=by simp[hU,ur,e']
   rw[JW e,b];exact ih
theorem KV.any{kvs:List (κ×V)}{vs:List (κ×Value)}(r:KV kvs vs)(k:κ):(kvs.any λkv=>decide (kv.1=k))=vs.any λkv=>decide (kv.1=k):=by
 unfold KV at r
 induction r with
 |nil=>rfl
 |cons h t ih=>rw[vw,vw,ih,h.1]
theorem KV.rP{kvs:List (κ×V)}{vs:List (κ×Value)}(r:KV kvs vs)(k:κ){y:V}{u:Value}(ry:RelV y u) :
  KV (kvs.map λkv=>if kv.1=k then(kv.1,y) else kv) (vs.map λkv=>if kv.1=k then(kv.1,u) else kv):=by
 unfold KV at r ⊢
 induction r with
 |nil=>exact .nil
 |@cons p q ps qs h t ih =>
  rw[xb,xb];refine .cons ?_ ih;obtain⟨h1,h2⟩:=h;by_cases e:p.1=k
  ·rw[if_pos e,if_pos (h1.symm.trans e)];exact⟨h1,ry⟩
  ·rw[if_neg e,if_neg (λz=>e (h1.trans z))];exact⟨h1,h2⟩
theorem KV.put{kvs:List (κ×V)}{vs:List (κ×Value)}(r:KV kvs vs)(k:κ){y:V}{u:Value}(ry:RelV y u):KV (qC kvs k y) (stored vs k u):=by
 unfold qC stored;rw[r.any k];by_cases e:(vs.any λkv=>decide (kv.1=k))=true
 ·rw[if_pos e,if_pos e];exact r.rP k ry
 ·rw[if_neg e,if_neg e];exact bW.snoc r ⟨rfl,ry⟩
theorem KV.keys{kvs:List (κ×V)}{vs:List (κ×Value)}(r:KV kvs vs):kvs.map (·.1)=vs.map (·.1):=by
 unfold KV at r
 induction r with
 |nil=>rfl
 |cons h t ih=>rw[xb,xb,ih,h.1]
theorem KV.length{kvs:List (κ×V)}{vs:List (κ×Value)}(r:KV kvs vs):kvs.length=vs.length:=bW.length r
end
theorem Ex{P:ak}{w:World}{k:Key}{u:Value}(r:RelV (kV k) u):(ze P w).is k u=true:=by
 cases k with
 |inl i=>obtain⟨t,e⟩:=(show ∃ t,u=ja i t from r);subst e;exact Qbm P w i t
 |inr x=>obtain⟨t,e⟩:=(show ∃ t,u=Ha x t from r);subst e;exact Qbj P w x t
theorem M6{P:ak}{w:World}:∀{ks:List Key}{us:List Value},Vals (ks.map kV) us->ItemsAre (ze P w) ks us
 |[],_,r=>by rw[Ui] at r;cases r;exact .nil
 |k::ks,_,r=>by
  rw[xb] at r;cases r with
  |cons h t=>exact .cons (Ex h) (M6 t)
noncomputable abbrev KT(H:Hp):List (List Key×V)->List (List Key×ae×Value)->Prop:=bW λp q=>p.1=q.1/\H q.2.1=some (.tup (p.1.map kV))/\RelV p.2 q.2.2
theorem KT.val{H:Hp}{kvs:List (List Key×V)}{xs:List (List Key×ae×Value)}(r:KT H kvs xs)(k:List Key):ir (nM kvs k) ((jN xs k).map (·.2)):=by
 induction r with
 |nil=>exact Kg
 |@cons p q ps qs h t ih =>
  obtain⟨h1,_,h2⟩:=h;by_cases e:p.1=k
  ·have e':q.1=k:=h1.symm.trans e;have b:jN (q::qs) k=some q.2:=by simp[jN,ur,e']
   rw[GA e,b];exact h2
  ·have e':¬ q.1=k:=λz=>e (h1.trans z);have b:jN (q::qs) k=jN qs k:=by simp[jN,ur,e']
   rw[JW e,b];exact ih
theorem KT.rP{H:Hp}{kvs:List (List Key×V)}{xs:List (List Key×ae×Value)}(r:KT H kvs xs)(k:List Key){y:V}{u:Value}(ry:RelV y u) :
  KT H (kvs.map λkv=>if kv.1=k then(kv.1,y) else kv) (xs.map (putAt k u)):=by
 induction r with
 |nil=>exact .nil
 |@cons p q ps qs h t ih =>
  rw[xb,xb];refine .cons ?_ ih;obtain⟨h1,h2,h3⟩:=h;unfold putAt;by_cases e:p.1=k
  ·rw[if_pos e,if_pos (h1.symm.trans e)];exact⟨h1,h2,ry⟩
  ·rw[if_neg e,if_neg (λz=>e (h1.trans z))];exact⟨h1,h2,h3⟩
theorem KT.put{H:Hp}{kvs:List (List Key×V)}{xs:List (List Key×ae×Value)}(r:KT H kvs xs)(k:List Key){b:ae}{y:V}{u:Value}(hb:H b=some (.tup (k.map kV)))(ry:RelV y u) :
  KT H (qC kvs k y) (eA xs k b u):=by
 have e:(kvs.any λkv=>decide (kv.1=k))=(jN xs k).isSome:=by
  rw[J1,(r.val k).isSome_eq,xH]
 unfold qC eA;rw[e];by_cases q:(jN xs k).isSome=true
 ·rw[if_pos q,if_pos q];exact r.rP k ry
 ·rw[if_neg q,if_neg q];exact bW.snoc r ⟨rfl,hb,ry⟩
theorem KT.keeps{H H':Hp}{kvs:List (List Key×V)}{xs:List (List Key×ae×Value)}(r:KT H kvs xs)(ht:∀ b ys,H b=some (.tup ys)->H' b=some (.tup ys)):KT H' kvs xs :=
 bW.rW r λ_ _ z=>⟨z.1,ht _ _ z.2.1,z.2.2⟩
section
variable {P:ak} {w:World} {H:Hp} {h:Heap} {a:ae}
theorem KL{u:HO}(ok:fB P w H h)(e:Rd H a u):ba P w H h a u:=e.ok ok
theorem JF{kvs:List (Key×V)}(ok:fB P w H h)(e:Rd H a (.dK kvs)):kvs.length<=sizeLine/\(a==bo)=false/\∃ vs,KV kvs vs/\h.DictOf (ze P w) a vs :=
 show ba P w H h a (.dK kvs) from KL ok e
theorem JR{kvs:List (Key×V)}(ok:fB P w H h)(e:H a=some (.dK kvs)):kvs.length<=sizeLine/\(a==bo)=false/\∃ vs,KV kvs vs/\h.DictOf (ze P w) a vs:=JF ok (.inl e)
theorem CM{ks:List Key}(ok:fB P w H h)(e:H a=some (.tup (ks.map kV))):(aA (ze P w)).is h ks a:=by
 obtain⟨_,av,r,o,h1,h2,n,h3⟩:=(show ba P w H h a (.tup (ks.map kV)) from ok a _ e);exact⟨o,av.toArray,n,h1,h2,h3,by simpa using M6 r⟩
theorem EE{kvs:List (List Key×V)}(ok:fB P w H h)(e:Rd H a (.dT kvs)):kvs.length<=sizeLine/\(a==bo)=false /\
  ∃ xs,KT H kvs xs/\h.DictOfH (aA (ze P w)) a xs:=by
 obtain⟨z,y,xs,r,o,es,ep,h1,h2,h3,h4,h5⟩:=(show ba P w H h a (.dT kvs) from KL ok e);refine⟨z,y,xs,r,o,es,ep,h1,h2,h3,h4,λx hx=>?_,h5⟩;have all:∀{l:List (List Key×V)} {m:List (List Key×ae×Value)},KT H l m->∀ x∈m,(aA (ze P w)).is h x.1 x.2.1:=by
  intro l m q
  induction q with
  |nil=>intro x hx;exact nomatch hx
  |@cons p q ps qs hq t ih =>
   intro x hx
   rcases Xa.mp hx with e|hx
   ·subst e;exact CM ok (by rw[<- hq.1];exact hq.2.1)
   ·exact ih x hx
 exact all r x hx
theorem Lo{kvs:List (List Key×V)}(ok:fB P w H h)(e:H a=some (.dT kvs)):kvs.length<=sizeLine/\(a==bo)=false /\
  ∃ xs,KT H kvs xs/\h.DictOfH (aA (ze P w)) a xs:=EE ok (.inl e)
end
noncomputable def CI(H:Hp)(a:ae)(y:V)(r:Option V):Prop :=
 (∃ kvs k,Rd H a (.dK kvs)/\y=kV k/\r=nM kvs k)\/∃ kvs k b,Rd H a (.dT kvs)/\y=.ref b/\H b=some (.tup (k.map kV))/\r=nM kvs k
noncomputable def nQ(H:Hp)(a:ae)(y v:V)(H':Hp):Prop :=
 (∃ kvs k,H a=some (.dK kvs)/\y=kV k/\kvs.length<sizeLine/\H'=upd H a (.dK (qC kvs k v))) \/
 ∃ kvs k b,H a=some (.dT kvs)/\y=.ref b/\H b=some (.tup (k.map kV))/\kvs.length<sizeLine/\H'=upd H a (.dT (qC kvs k v))
theorem nQ.k{H:Hp}{a:ae}{kvs:List (Key×V)}{k:Key}{v:V}(e:H a=some (.dK kvs))(hl:kvs.length<sizeLine):nQ H a (kV k) v (upd H a (.dK (qC kvs k v))):=.inl ⟨kvs,k,e,rfl,hl,rfl⟩
section
variable {X:Cx} {pins:List (ae×Obj)} {σ:St} {H:Hp} {s:Shared} {a:ae} {y v:V} {u r:Value} {o:Option V} {A:Around} {E:Value->Shared->Prop}
theorem Inv.big(I:Inv X pins σ H s):bo<s.heap.objs.size:=by
 have h:au<s.heap.objs.size:=(I.mod.glob.keeps I.bk).lt;exact Xn (by decide) h
theorem YcG{Q:Value->Shared->Prop}(hu:A.units+1<cT)(I:Inv X pins σ H s)(g:CI H a y o)(ry:RelV y u)(h:∀ s',Inv X pins σ H s'->Q (.bool (!o.isSome)) s') :
  ag (ah X.prog X.w) A (aJ .NotIn u (.ref a)) Q E s:=by
 rcases g with ⟨kvs,k,e,ey,l⟩|⟨kvs,k,b,e,ey,eb,l⟩
 ·subst ey;obtain⟨z,hd,vs,rel,dd⟩:=JF I.aL e;refine wpAny_notIn_of (Ex ry) hd dd.mapOf ?_;rw[<- (rel.val k).isSome_eq,<- l];exact h _ (I.tok _)
 ·subst ey;cases(show u=ka b from ry);obtain⟨z,hd,xs,rel,dd⟩:=EE I.aL e;refine wpAny_notIn_heap (dN hu) (CM I.aL eb) hd dd ?_;have q:=(rel.val k).isSome_eq;rw[xH] at q;rw[<- q,<- l];exact h _ (I.tok _)
theorem Ez{h':Heap}{t':Nat}{ob:HO}(I:Inv X pins σ H s)(mu:CA (H a))(hs:Hd a s.heap h')(he:∃ q,h'.get? a=some q)(new:ba X.prog X.w (upd H a ob) h' a ob) :
  Inv X pins σ (upd H a ob) {s with heap:=h',toks:=t'} :=
 I.write (x:=a) (e:=a) mu (.inl rfl) (λb q hb z=>(hs.2 b hb).trans z) he new
theorem Lj{P:ak}{w:World}{H':Hp}{h':Heap}{kvs:List (Key×V)}{vs:List (Key×Value)}(z:kvs.length<=sizeLine)(hd:(a==bo)=false)(rel:KV kvs vs)(dd:h'.DictOf (ze P w) a vs) :
  ba P w H' h' a (.dK kvs):=⟨z,hd,vs,rel,dd⟩
theorem QbU{H':Hp}{Q:Unit->Shared->Prop}(hu:A.units+1<cT)(I:Inv X pins σ H s)(g:nQ H a y v H')(ry:RelV y u)(rv:RelV v r)(h:∀ s',Inv X pins σ H' s'->Q () s') :
  ag (ah X.prog X.w) A (kT (.ref a) u r) Q E s:=by
 rcases g with ⟨kvs,k,e,ey,l,eH⟩|⟨kvs,k,b,e,ey,eb,l,eH⟩
 ·subst ey eH;obtain⟨z,hd,vs,rel,dd⟩:=JR I.aL e;have hz:vs.length<=sizeLine:=by rw[<- rel.length];exact z
  have hl:(qC kvs k v).length<=sizeLine:=by have:=qH kvs k v;lia
  refine wpAny_setItem_pairs (hsz:=hz) (Ex ry) dd λh' sL hs=>h _ ?_;have he:∃ q,h'.get? a=some q:=let ⟨q,_,_,hq,_⟩:=sL;⟨q,hq⟩;exact Ez I (by rw[e];exact Kg) hs he (Lj hl hd (rel.put k rv) sL)
 ·subst ey eH;cases(show u=ka b from ry);obtain⟨z,hd,xs,rel,dd⟩:=Lo I.aL e;have hz:xs.length<=sizeLine:=by rw[<- bW.length rel];exact z
  have hl:(qC kvs k v).length<=sizeLine:=by have:=qH kvs k v;lia
  refine wpAny_setItem_heap (hsz:=hz) (dN hu) (CM I.aL eb) dd λh' sL hs=>h _ ?_;obtain⟨q,es,ep,hq,h2,h3,h4,_,h5⟩:=sL;refine Ez I (by rw[e];exact Kg) hs ⟨q,hq⟩ ⟨hl,hd,_,(rel.put k eb rv).keeps λc ys ec=>?_,q,es,ep,hq,h2,h3,h4,h5⟩;rw[qc (PH ec e (λz=>nomatch z))];exact ec
end
noncomputable def PY(ty td:TE):TE:=λσ H Q=>ty σ H λy H1=>td σ H1 λx H2=>∃ a o,x=.ref a/\CI H2 a y o/\Q (.bl (!o.isSome)) H2
noncomputable def xK(td ty tv:TE):TS:=λD σ H=>tv σ H λv H1=>td σ H1 λx H2=>ty σ H2 λy H3=>∃ a H4,x=.ref a/\nQ H3 a y v H4/\D.nx σ H4
section
variable {X:Cx} {o i e value:Expr} {pos pos' Fo:Pos} {td ty tv:TE}
theorem OK(hu:X.A.units+1<cT)(hi:PE X i ty)(ho:PE X o td):PC X .NotIn i o (PY ty td):=by
 intro pins s σ H Q I h;refine bc (hi pins s σ H _ I h) λiv s1 ⟨y,H1,I1,ry,q1⟩=>bc (ho pins s1 σ H1 _ I1 q1) λu s2 ⟨x,H2,I2,rx,a,ov,ex,g,q2⟩=>?_;subst ex;obtain rfl:u=ka a:=rx;exact YcG hu I2 g ry λs3 I3=>⟨.bl (!ov.isSome),H2,I3,rfl,q2⟩
theorem qcG(hu:X.A.units+1<cT)(ho:PE X o td)(hi:PE X i ty)(hv:PE X value tv)(hs:bh value (some (.Subscript o i pos')) pos.line X.env=pure false) :
  PS X (.Assign [.Subscript o i pos'] value pos) (xK td ty tv):=by
 intro pins s σ H D I h;refine wpAny_Assign_Subscript (bc (hv pins s σ H _ I h) λr s1 ⟨v,H1,I1,rv,q1⟩=>bc (ho pins s1 σ H1 _ I1 q1) λu s2 ⟨x,H2,I2,rx,q2⟩=>bc (hi pins s2 σ H2 _ I2 q2) λiv s3 ⟨y,H3,I3,ry,a,H4,ex,g,q3⟩=>?_) hs;subst ex;obtain rfl:u=ka a:=rx;exact QbU hu I3 g ry rv λs4 I4=>⟨σ,H4,I4,q3⟩
end
theorem ych{P:ak}{w:World}{H:Hp}(h:Heap)(hb:bo<h.objs.size):ba P w H (h.push {cls:=.type "dict",data:=.dict #[]}) h.objs.size (.dK []) :=
 ⟨Wn _,beq_eq_false_iff_ne.mpr (Jd (Ub hb)),[],.nil,Heap.DictOf.new h⟩
theorem KW{P:ak}{w:World}{H:Hp}(h:Heap)(hb:bo<h.objs.size):ba P w H (h.push {cls:=.type "dict",data:=.dict #[]}) h.objs.size (.dT []) :=
 ⟨Wn _,beq_eq_false_iff_ne.mpr (Jd (Ub hb)),[],.nil,_,#[],0,wb _ rfl,⟨rfl,rfl,rfl⟩,rfl,rfl,List.nodup_nil⟩
noncomputable def ycQ:TE:=λ_ H Q=>∀ p,H p=none->Q (.ref p) (upd H p (.dT []))
section
variable {X:Cx} {pos:Pos}
theorem qcl:PE X (.Dict [] [] pos) ycQ:=λpins s σ H Q I h =>
 wpAny_Dict_empty ⟨.ref s.heap.objs.size,_,I.laid (a:=s.heap.objs.size) (o:=.dT []) (t':=s.toks) (λ_ _ q=>wa _ q) (Ua _) (KW s.heap I.big),rfl,h _ (I.aL.fresh (Ua _))⟩
end
noncomputable def IZ:List (TE×TE)->St->Hp->(List (V×V)->Hp->Prop)->Prop
 |[],_,H,Q=>Q [] H
 |(tk,tv)::r,σ,H,Q=>tk σ H λx H1=>tv σ H1 λy H2=>IZ r σ H2 λps H3=>Q ((x,y)::ps) H3
noncomputable abbrev VV:List (V×V)->List (Value×Value)->Prop:=bW λp q=>RelV p.1 q.1/\RelV p.2 q.2
noncomputable def EN(X:Cx)(pos:Pos)(keys:List (Option Expr))(values:List Expr)(ow:List (TE×TE)):Prop :=
 ∀(pins:List (ae×Obj)) (s:Shared) (σ:St) (H:Hp) (Q:List (V×V)->Hp->Prop),Inv X pins σ H s->IZ ow σ H Q ->
  ag (ah X.prog X.w) X.A (evalPairs (pairTrees keys values X.env pos)) (λvs s'=>∃ ps H',Inv X pins σ H' s'/\VV ps vs/\Q ps H') X.xe s
theorem ycF{X:Cx}{pos:Pos}:EN X pos [] [] []:=λpins s σ H Q I h=>pairTrees_nil_walk ⟨[],H,I,.nil,h⟩
theorem OY{X:Cx}{pos:Pos}{k v:Expr}{ks:List (Option Expr)}{vs:List Expr}{tk tv:TE}{ow:List (TE×TE)}(hk:PE X k tk)(hv:PE X v tv)(hr:EN X pos ks vs ow) :
  EN X pos (some k::ks) (v::vs) ((tk,tv)::ow):=λpins s σ H Q I h =>
 pairTrees_cons_walk (bc (hk pins s σ H _ I h) λu s1 ⟨x,H1,I1,rx,q1⟩=>bc (hv pins s1 σ H1 _ I1 q1) λw2 s2 ⟨y,H2,I2,ry,q2⟩ =>
  bc (hr pins s2 σ H2 _ I2 q2) λws s3 ⟨ps,H3,I3,rel,q3⟩=>⟨(x,y)::ps,H3,I3,.cons ⟨rx,ry⟩ rel,q3⟩)
noncomputable def tK(kvs more:List (Key×V)):List (Key×V):=more.foldl (λacc kv=>qC acc kv.1 kv.2) kvs
theorem KV.merge:∀{more:List (Key×V)} {rs:List (Key×Value)} {kvs:List (Key×V)} {vs:List (Key×Value)},KV more rs->KV kvs vs->KV (tK kvs more) (merged vs rs):=by
 intro more rs kvs vs r;unfold KV at r
 induction r generalizing kvs vs with
 |nil=>intro q;exact q
 |@cons p q ps qs h t ih =>
  intro r0;have e:KV (qC kvs p.1 p.2) (stored vs q.1 q.2):=by
   have:=r0.put p.1 h.2;rw[<- h.1];exact this
  exact ih e
theorem Z2:∀(more kvs:List (Key×V)),(tK kvs more).length<=kvs.length+more.length
 |[],kvs=>by show kvs.length<=kvs.length+0;lia
 |p::r,kvs=>by
  have h1:=Z2 r (qC kvs p.1 p.2);have h2:=qH kvs p.1 p.2;show(tK (qC kvs p.1 p.2) r).length<=_;rw[Uc];lia
theorem OO{P:ak}{w:World}:∀{kvs:List (Key×V)} {ws:List (Value×Value)},VV (kvs.map λkv=>(kV kv.1,kv.2)) ws->∃ rs,Carries (ze P w) ws rs/\KV kvs rs
 |[],_,r=>by rw[Ui] at r;cases r;exact⟨[],Kg,.nil⟩
 |p::kvs,_,r=>by
  rw[xb] at r;cases r with
  |@cons a b as bs h t =>
   obtain⟨rs,c,q⟩:=OO (P:=P) (w:=w) t;obtain⟨b1,b2⟩:=b;exact⟨(p.1,b2)::rs,⟨Ex h.1,rfl,c⟩,.cons ⟨rfl,h.2⟩ q⟩
noncomputable def wJ(ow:List (TE×TE)):TE:=λσ H Q=>∀ p,H p=none->IZ ow σ (upd H p (.dK [])) λps H2=>H2 p=some (.dK [])/\∃ kvs:List (Key×V),ps=kvs.map (λkv=>(kV kv.1,kv.2))/\kvs.length<=15/\Q (.ref p) (upd H2 p (.dK (tK [] kvs)))
theorem zcH{X:Cx}{pos:Pos}{keys:List (Option Expr)}{values:List Expr}{ow:List (TE×TE)}(h:EN X pos keys values ow)(nF:keys.all (·.isSome)=true)(hl:keys.length=values.length)(h0:keys≠[])
  (h15:keys.length<=15):PE X (.Dict keys values pos) (wJ ow):=by
 intro pins s σ H Q I q;have hn:=I.aL.fresh (Ua s.heap.objs.size);have I1:=I.laid (a:=s.heap.objs.size) (o:=.dK []) (h':=s.heap.push {cls:=.type "dict",data:=.dict #[]}) (t':=s.toks) (λ_ _ q=>wa _ q) (Ua _) (ych s.heap I.big);refine wpAny_Dict_walk (knd:=ze X.prog X.w) nF hl h0 h15 (bc (h pins _ σ _ _ I1 (q _ hn)) λws s2 ⟨ps,H2,I2,rel,e,kvs,ep,lk,q2⟩=>?_);subst ep;obtain⟨rs,c,rk⟩:=OO (P:=X.prog) (w:=X.w) rel;obtain⟨z,hd,vs0,r0,dd⟩:=JR I2.aL e;cases r0;refine⟨rs,c,dd,λh' sL hs=>⟨.ref s.heap.objs.size,_,?_,rfl,q2⟩⟩;have hz:(tK [] kvs).length<=sizeLine:=by
  have h1:=Z2 kvs [];rw[vh] at h1;rw[df];lia
 have he:∃ q,h'.get? s.heap.objs.size=some q:=let ⟨q,_,_,hq,_⟩:=sL;⟨q,hq⟩;exact Ez I2 (by rw[e];exact Kg) hs he (Lj hz hd (rk.merge .nil) sL)
structure M1 (X:Cx) (o:Expr) (m:Str) (apos:Pos) (e:Expr) (ip:Pos):Prop where
 base:aX o m X.env (eval o X.env)=eval o X.env
 few:((bf ip (ao [e] X.env)).all (λx=>!x.1)&&(dt ip (bH [] X.env)).all (λx=>x.1.isSome)
  && decide (([e]:List Expr).length+([]:List cP).length+(if([]:List cP).isEmpty then 0 else 1)<30))=true
 line:(apos.endLine==ip.line)=true
 trees:bf ip (ao [e] X.env)=[(false,eval e X.env)]
noncomputable def Rr(H:Hp)(a:ae):Prop:=(∃ kvs,Rd H a (.dK kvs))\/∃ kvs,Rd H a (.dT kvs)
theorem Qc4{X:Cx}{pins:List (ae×Obj)}{σ:St}{H:Hp}{s:Shared}{a:ae}(I:Inv X pins σ H s)(d:Rr H a) :
  s.TypeIs (.ref a) "dict"/\(∀ b,ka a=.ref b->∃ ob,s.heap.get? b=some ob/\ob.dict=none)/\(a==bo)=false:=by
 rcases d with ⟨kvs,e⟩|⟨kvs,e⟩
 ·obtain⟨_,hd,vs,_,dd⟩:=JF I.aL e;refine⟨dd.typeIs,λb q=>?_,hd⟩;cases q;obtain⟨ob,_,_,h1,h2,_⟩:=dd;exact⟨ob,h1,h2.2.1⟩
 ·obtain⟨_,hd,xs,_,dd⟩:=EE I.aL e;refine⟨dd.typeIs,λb q=>?_,hd⟩;cases q;obtain⟨ob,_,_,h1,h2,_⟩:=dd;exact⟨ob,h1,h2.2.1⟩
end L2
end
section
namespace M3
open PySem
open Sem (wp)
noncomputable def Ze(env:Env):List (Str×NameKind)->List (Str×ae)->List (Str×ae)
 |[],cs=>cs
 |(n,k)::r,cs=>Ze env r (if(k == .free)=true then(n,(env.cells.lookup n).getD 0)::cs else cs)
theorem OB(env):∀(names:List (Str×NameKind)) (cs:List (Str×ae)),(∀ y∈names,y.2=.free->∃ c,env.cells.lookup y.1=some c) ->
  (forIn names cs λ(y:Str×NameKind)(r:List (Str×ae))=>if(y.2 == .free)=true then do let c<-lg env y.1;pure (jl ((y.1,c)::r)) else pure (jl r):Sem (List (Str×ae)))=pure (Ze env names cs)
 |[],cs,_=>rfl
 |(n,k)::r,cs,h=>by
  have ih:=λsM=>OB env r sM λy hy=>h y (Ve _ hy);rw[XC];by_cases hk:(k == .free)=true
  ·obtain⟨c,e⟩:=h (n,k) xg (by simpa using hk);have e':lg env n=pure c:=by unfold lg;rw[e]
   show(if(k == .free)=true then _ else _) >>= _=_;rw[if_pos hk];show(lg env n >>= λc=>_) >>= _=_;rw[e'];show(forIn r ((n,c)::cs) _:Sem _)=_;rw[ih];show _=pure (Ze env r (if(k == .free)=true then(n,(env.cells.lookup n).getD 0)::cs else cs));rw[if_pos hk,e];rfl
  ·show(if(k == .free)=true then _ else _) >>= _=_;rw[if_neg hk];show(forIn r cs _:Sem _)=_;rw[ih];show _=pure (Ze env r (if(k == .free)=true then(n,(env.cells.lookup n).getD 0)::cs else cs));rw[if_neg hk]
theorem Nc   (h:∀ y∈scope.names,y.2=.free->∃ c,env.cells.lookup y.1=some c):gV scope env=pure (Ze env scope.names []):=by
 have q:=OB env scope.names [] h;unfold gV;have e:∀(t:Sem (List (Str×ae))),t=pure (Ze env scope.names [])->(t >>= λr=>pure r)=pure (Ze env scope.names []):=λt z=>by rw[z];rfl
 refine e _ (Eq.trans ?_ q)
 congr 1
end M3
end
section
namespace M3
open PySem
open Sem (wp)
section
variable {prog:ak} {w:World} {A:Around} {R:iM->Shared->Prop} {s:Shared}
noncomputable abbrev KN(ifs:List Expr)(env:Env):Sem Bool:=forIn ifs true λc r=>if r=true then do let ok<-kZ c env (eval c env);pure (jl ok) else pure (jl r)
theorem QbP       (I:Nat->Shared->Prop)
  (turn:∀ n s,I n s->ag (ah prog w) A (cX it) (λr s1=>match r with
   |none=>R (.ok .next) s1
   |some v=>ag (ah prog w) A (cu target it v) (λ_ s2=>ag (ah prog w) A (eP target env v) (λ_ s3 =>
     ag (ah prog w) A (KN ifs env) (λok s4=>if ok=true then ag (ah prog w) A (eval elt env) (λx s5 =>
       ag (ah prog w) A (call (.builtin "list.append") [acc,x]) (λ_ s6=>∃ m,m<n/\I m s6) (λ_ _=>False) s5) (λ_ _=>False) s4
      else ∃ m,m<n/\I m s4) (λ_ _=>False) s3) (λ_ _=>False) s2) (λ_ _=>False) s1) (λ_ _=>False) s)
  (n) (h:I n s):bI (ah prog w) A (.compLoop (.ListComp elt [⟨target,iter,ifs,0⟩] scope pos) 0 it acc env) R s:=by
 refine codeAny_loop rfl I (λn s hI=>?_) n h;show ag _ A ((compTurn (.ListComp elt [⟨target,iter,ifs,0⟩] scope pos) 0 it acc env).onRaise (λx=>do noteFrame x env;theTreesLotGoes x)) _ _ s;refine wpAny_noted ?_;rw[compTurn_list];refine aa (b7 (aa (aM (turn n s hI) (λr s1 h1=>?_) λ_ _ z=>z.elim)));cases r with
 |none=>exact af h1
 |some v =>
  refine aa (aM h1 (λ_ s2 h2=>?_) λ_ _ z=>z.elim);refine aa (aM h2 (λ_ s3 h3=>aa (aM h3 (λok s4 h4=>?_) λ_ _ z=>z.elim)) λ_ _ z=>z.elim);cases ok with
  |false=>exact af ⟨rfl,h4⟩
  |true =>
   refine aa (aa (aM h4 (λx s5 h5=>?_) λ_ _ z=>z.elim));exact aa (aM h5 (λ_ s6 h6=>af (af ⟨rfl,h6⟩)) λ_ _ z=>z.elim)
end
noncomputable abbrev pD(C t:ae)(tb:Value):Obj:={cls:=.ref C,data:=.fields #[.ref t,tb,.none,.none,.bool false,.none]}
inductive Tb (h:Heap) (x:ae):Value->Prop where
 |no:Tb h x .none
 |at {T:ae} {o:Obj} {ts:Array Value} (ne:T≠x) (ho:h.get? T=some o) (hd:o.data=.fields ts) (h3:ts[3]?=some .none):Tb h x (.ref T)
structure mH (fs:List ae) (x:ae) (tb:Value) (h h':Heap):Prop where
 keep:∀ b o,b∉fs->b≠x->ka b≠tb->h.get? b=some o->h'.get? b=some o
 slot:∀ b o,b∈fs->b≠x->ka b≠tb->h.get? b=some o->∃ sl,h'.get? b=some {o with slots:=sl}
section
variable {M:Model} {A:Around} {E:Value->Shared->Prop} {s:Shared}
theorem LM
  (DV:A.frames=some (env::outer)) (hl:s.heap.FunFrames base (env::outer)) (hf:env.frame=some L) (he:s.heap.get? x=some (pD C t tb0))
  (h:∀ h' T,(∀ b o,b∉(env::outer).filterMap (·.frame)->b≠x->s.heap.get? b=some o->h'.get? b=some o) ->
   (∀ b o,b∈(env::outer).filterMap (·.frame)->s.heap.get? b=some o->∃ sl,h'.get? b=some {o with slots:=sl}) ->
   h'.get? x=some (pD C t (.ref T))->Tb h' x (.ref T)->s.heap.objs.size<=T->Q () {s with heap:=h'}) :
  ag M A (do let a<-frameOf env;let pl<-entryPlaceOf L had;let b<-EntryCells.newEntry head a .none (cW L) .none pl;setField (.ref x) 1 b) (λ_ s'=>ag M A (setFlight (.ref x) none) Q E s') E s:=by
 have hx:x∉(env::outer).filterMap (·.frame):=λhm=>by
  obtain⟨_,o,ho,nf⟩:=hl.mem hm;rw[he] at ho;cases ho;exact nf _ rfl
 refine aa (wpAny_frameOf_fun DV hl hf λh1 k1=>?_);refine aa (wpAny_entryPlaceOf λpl bZ=>?_);unfold EntryCells.newEntry newFields;refine aa (aR ?_ (bZ.sizeOk5 _ _ _ _ _));generalize sF:([head,ka L,Ka,cW L,Ka]++(if pl.isEmpty=true then xc 6 Ka else pl))=cells;have len:3<cells.length:=by rw[<- sF];simp only[Xg,Uc,vh];lia
 have e1:h1.get? x=some (pD C t tb0):=(k1.2.1 x hx).trans he;have e2:=wa {cls:=.type "traceback",dict:=none,data:=.fields cells.toArray} e1;have neT:x≠h1.objs.size:=Ub (ua e1);refine cF e2 rfl (by simp) ?_;have e3:=Xp (Kk (·.setIfInBounds 1 (ka h1.objs.size))) e2 (Hk (Jk rfl _));have e4:((h1.push {cls:=.type "traceback",dict:=none,data:=.fields cells.toArray}).update x (Kk (·.setIfInBounds 1 (ka h1.objs.size)))).get? h1.objs.size=some {cls:=.type "traceback",dict:=none,data:=.fields cells.toArray} :=
  (uj _ _ neT).trans (wb h1 rfl)
 unfold setFlight;refine aa (aE e3 (vs:=#[.ref t,.ref h1.objs.size,.none,.none,.bool false,.none]) (x:=.ref h1.objs.size) rfl rfl ?_);rw[if_pos (show(ka h1.objs.size != Ka)=true from by simp)];refine cF e4 rfl (by simpa using len) ?_;have e5:=Xp (Kk (·.setIfInBounds 3 ((none:Option ae).elim Ka λf=>cW f))) e4 (Hk (Jk rfl _));have sz:h1.objs.size=s.heap.objs.size:=k1.1;have other:∀ b o,b≠x->h1.get? b=some o->(((h1.push {cls:=.type "traceback",dict:=none,data:=.fields cells.toArray}).update x (Kk (·.setIfInBounds 1 (ka h1.objs.size)))).update h1.objs.size (Kk (·.setIfInBounds 3 ((none:Option ae).elim Ka λf=>cW f)))).get? b=some o:=λb o nb eb=>by
  rw[uj _ _ (um (ua eb)),uj _ _ (Jd nb)];exact wa _ eb
 refine h _ h1.objs.size (λb o hb nb eb=>other b o nb ((k1.2.1 b hb).trans eb)) (λb o hb eb=>?_) ?_ (.at (Jd neT) e5 (Jk rfl _) ?_) (vo sz.symm)
 ·obtain⟨sl,q⟩:=k1.2.2 b o eb;exact⟨sl,other b _ (λz=>hx (z ▸ hb)) q⟩
 ·rw[uj _ _ (Jd neT)];exact e3
 ·simp[Array.getElem?_setIfInBounds,len]
theorem QbR
  (DV:A.frames=some (env::outer)) (hl:s.heap.FunFrames base (env::outer)) (hf:env.frame=some L) (he:s.heap.get? x=some (pD C t tb)) (ht:Tb s.heap x tb)
  (h:∀ h' T,mH ((env::outer).filterMap (·.frame)) x tb s.heap h'->h'.get? x=some (pD C t (.ref T))->Tb h' x (.ref T)->s.heap.objs.size<=T->Q () {s with heap:=h'}) :
  ag M A (leaving env (.ref x)) Q E s:=by
 unfold leaving noteFrame;simp only[hf];refine aa (aa (aE he rfl (x:=tb) rfl ?_));cases ht with
 |no =>
  rw[if_neg (by decide)];exact LM DV hl hf he λh' T k1 k2 e1 e2 e3=>h h' T ⟨λb o hb nb _ eb=>k1 b o hb nb eb,λb o hb _ _ eb=>k2 b o hb eb⟩ e1 e2 e3
 |@«at» T o ts ne ho hd h3 =>
  rw[if_pos (show(ka T != Ka)=true from by simp)];refine aa (aE ho hd h3 ?_);rw[if_neg (show ¬((Ka==cW L)=true) from by simp[cW])];refine aa (cF ho hd (Array.getElem?_eq_some_iff.mp h3).1 ?_);have other:∀ b,b≠T->(s.heap.update T (Kk (·.setIfInBounds 3 Ka))).get? b=s.heap.get? b:=λb nb=>uj _ _ (Jd nb);have GK:∀ b o,s.heap.get? b=some o->(∀ vs,o.data≠.fields vs)->b≠T:=λb o eb nf z=>by
   rw[z,ho] at eb;cases eb;exact nf ts hd
  refine LM (s:={s with heap:=s.heap.update T (Kk (·.setIfInBounds 3 Ka))}) DV (hl.of_keeps λb o eb nf=>⟨o,(other b (GK b o eb nf)).trans eb,rfl⟩) hf ((other x (Jd ne)).trans he)
   λh' T' k1 k2 e1 e2 e3=>h h' T' ⟨λb o hb nb nt eb=>k1 b o hb nb ((other b λz=>nt (z ▸ rfl)).trans eb),λb o hb _ nt eb=>k2 b o hb ((other b λz=>nt (z ▸ rfl)).trans eb)⟩ e1 e2 ?_
  have NZ:(s.heap.update T (Kk (·.setIfInBounds 3 Ka))).objs.size<=T':=e3;rw[Heap.size_after_update] at NZ;exact NZ
end
end M3
end
section
namespace M3
open PySem
open Sem (wp)
section
variable {prog:ak} {w:World} {A:Around} {E:Value->Shared->Prop} {s:Shared}
theorem Yad      (ri:s.heap.IsTupleIter r l i)(hl:s.heap.IsTuple l items)(hx:items[i]?=some x)
  (hQ:∀ h',h'.IsTupleIter r l (i+1)->Hd r s.heap h'->Q x {s with heap:=h'}):ag (ah prog w) A (Jl (.ref r)) Q E s:=by
 obtain⟨o,ho,hc,hd⟩:=id ri;obtain⟨ol,Hs,_,nl,HN⟩:=hl;unfold Jl;apply aa;refine aO (name:=jj "__next__") ri.typeIs Kh (bg Kh ri.typeIs ji ?_ (Ki _));show ag _ _ (field (.ref r) 0 >>= _) _ _ s;apply aa;apply aE ho hd (x:=.ref l) rfl;show ag _ _ (if(ka l==Ka)=true then _ else _) _ _ s;rw[if_neg (λz:(ka l==Ka)=true=>absurd z Uh)];show ag _ _ (field (.ref r) 1 >>= _) _ _ s;apply aa;apply aE ho hd (x:=.int i 0) rfl;show ag _ _ (fX (.ref l) >>= _) _ _ s;apply aa;apply aK Hs HN;simp only[Uj,hx];apply aa;refine cF ho hd (by simp) (af ⟨x,rfl,af (hQ _ ⟨_,Xp _ ho (Hk (Jk hd _)),(Obj.cls_mapFields ..).trans hc,?_⟩ (jm ..))⟩);rw[Jk hd];simp[cW]
theorem Qag     (hh:A.handled=none)(ri:s.heap.IsTupleIter r l i)(hl:s.heap.IsTuple l items)(hx:items[i]?=none)
  (hE:∀ h' e,ke r s.heap h'->(∃ o,h'.get? e=some o/\o.cls=.type "StopIteration")->E (.ref e) {s with heap:=h'}):ag (ah prog w) A (Jl (.ref r)) Q E s:=by
 obtain⟨o,ho,hc,hd⟩:=id ri;obtain⟨ol,Hs,_,nl,HN⟩:=hl;unfold Jl;apply aa;refine aO (name:=jj "__next__") ri.typeIs Kh (bg Kh ri.typeIs ji ?_ (Ki _));show ag _ _ (field (.ref r) 0 >>= _) _ _ s;apply aa;apply aE ho hd (x:=.ref l) rfl;show ag _ _ (if(ka l==Ka)=true then _ else _) _ _ s;rw[if_neg (λz:(ka l==Ka)=true=>absurd z Uh)];show ag _ _ (field (.ref r) 1 >>= _) _ _ s;apply aa;apply aE ho hd (x:=.int i 0) rfl;show ag _ _ (fX (.ref l) >>= _) _ _ s;apply aa;apply aK Hs HN;simp only[Uj,hx];apply aa;apply cV;apply aa;refine cF ho hd (by simp) ?_;show ag _ _ (newExc (.type "StopIteration") [] >>= _) _ _ _;apply aa;simp only[newExc,newTuple];apply aa;refine aR ?_ (by size_fits);refine aa (m:=jH _ _) (fN (a:=Ka) (by first|rfl|(unfold jH;rfl)) (aR ?_ (by size_fits)));refine wpAny_raiseNew_none (by first|exact hh|(show A.in1.handled=_;exact hh)) (hE _ _ ((((jm ..).extBut).push _).push _) ⟨_,wb _ rfl,rfl⟩)
theorem Ybq(hh:A.handled=none)(r l)(jV:l≠r)(items:Array Value) :
  fE prog w A r [r,l] items.size (λi v=>items[i]?=some v) (λi h=>h.IsTupleIter r l i/\h.IsTuple l items) where
 live:=λ_ _ st=>let ⟨o,ho,_⟩:=st.1;⟨o,ho⟩
 frame:=λ_ _ _ st hk=>let ⟨⟨o,e,c⟩,⟨u,f,d⟩⟩:=st;⟨⟨o,hk r (by simp) o e,c⟩,⟨u,hk l (by simp) u f,d⟩⟩
 item:=λi s Q E hi st hQ=>Yad st.1 st.2 (x:=items[i]) (by simp[hi]) λh' a b=>hQ _ h' s.toks (by simp[hi]) ⟨a,let ⟨u,f,d⟩:=st.2;⟨u,b.extBut l u jV f,d⟩⟩ b
 done:=λs Q E st hE=>Qag hh st.1 st.2 (by simp) hE
structure uS (z TI TO i1 i2:ae) (mF mE:List ae):Prop where
 Fp:TI≠z
 pN:TO≠z
 vR:TI≠TO
 Mb:TI≠i1
 Ma:TI≠i2
 z1:z∉mF
 z2:z∉mE
 t1:TO∉mF
 t2:TO∉mE
 m1:i1∈mF
 m2:i2∈mE
 a1:i1∉mE
 a2:i2∉mF
variable {z TI TO i1 i2:ae} {mF mE:List ae} {n1 n2 k:Nat} {P1 P2:Nat->Value->Prop} {S1 S2:Nat->Heap->Prop} {a b:Value}
theorem YbR{Q:Value->Shared->Prop}(Z:uS z TI TO i1 i2 mF mE)(D1:fE prog w A i1 mF n1 P1 S1)(D2:fE prog w A i2 mE n2 P2 S2)(hz:dG s.heap z TI TO .none)(hI:bq s.heap TI (.ref i1) (.ref i2))(hO:bq s.heap TO a b)
  (s1:S1 k s.heap) (s2:S2 k s.heap) (k1:k<n1) (k2:k<n2)
  (hQ:∀ x y h' tk,P1 k x->P2 k y->dG h' z TI TO (cW s.heap.objs.size)->bq h' TO x y->S1 (k+1) h'->S2 (k+1) h'->bq h' s.heap.objs.size x y->h'.objs.size=s.heap.objs.size+1 ->
   (∀ c o,c≠z->c≠TO->c≠i1->c≠i2->s.heap.get? c=some o->h'.get? c=some o)->Q (.ref s.heap.objs.size) {s with heap:=h',toks:=tk}) :
  ag (ah prog w) A (Builtin.«zip.__next__» ⟨[.ref z],[]⟩) (λfin s'=>∃ v,fin=.done (.ret v)/\Q v s') E s:=by
 have DB:i1≠z:=λe=>Z.z1 (e ▸ Z.m1);have GV:i2≠z:=λe=>Z.z2 (e ▸ Z.m2);have GY:i1≠TO:=λe=>Z.t1 (e ▸ Z.m1);have tX:i2≠TO:=λe=>Z.t2 (e ▸ Z.m2);have i12:i1≠i2:=λe=>Z.a1 (e ▸ Z.m2);show ag _ _ (field (.ref z) 2 >>= _) _ _ _;apply aa;apply aE hz rfl (x:=.bool false) rfl;show ag _ _ (field (.ref z) 3 >>= _) _ _ _;apply aa;apply aE hz rfl (x:=.ref TI) rfl;apply aa;apply aK hI rfl;show ag _ _ (Hl (.ref z) >>= _) _ _ _;apply aa;unfold Hl;apply aa;apply aE hz rfl (x:=.none) rfl;apply af;simp only[if_true];apply aa;apply cV;apply aa;apply aE hz rfl (x:=.ref TO) rfl;apply aa;refine bj hz (by simp) λh1 y1 g1=>?_;replace y1:dG h1 z TI TO .ellipsis:=y1;apply aa;simp only[Vw,Hm,XC,XD];apply aa;apply aa;apply eG;show ag _ _ (Jl (.ref i1) >>= _) _ _ _;apply aa;refine D1.item k _ _ _ k1 (D1.frame _ _ _ s1 λc hc o e=>g1.extBut c o (λq=>Z.z1 (q ▸ hc)) e) λx h2 t2 px q2 g2=>af ?_;have o2:bq h2 TO a b:=g2.extBut _ _ (Jd GY) (g1.extBut _ _ Z.pN hO);apply aa;apply aK o2 rfl;apply aa;refine de o2 λh3 o3 g3=>aa (cz (af ?_));replace o3:bq h3 TO x b:=o3;apply aa;apply aa;apply eG;show ag _ _ (Jl (.ref i2) >>= _) _ _ _;apply aa;refine D2.item k _ _ _ k2 (D2.frame _ _ _ s2 λc hc o e=>g3.extBut c o (λq=>Z.t2 (q ▸ hc)) (g2.extBut c o (λq=>Z.a1 (q ▸ hc)) (g1.extBut c o (λq=>Z.z2 (q ▸ hc)) e))) λy h4 t4 py q4 g4=>af ?_;have o4:bq h4 TO x b:=g4.extBut _ _ (Jd tX) o3;apply aa;apply aK o4 rfl;apply aa;refine de o4 λh5 o5 g5=>aa (cz (af (af ?_)));replace o5:bq h5 TO x y:=o5;apply aa;apply aK o5 rfl;apply aa;refine wpAny_newTuple ?_;have sz:h5.objs.size=s.heap.objs.size:=by rw[g5.1,g4.1,g3.1,g2.1,g1.1]
 have y5:dG h5 z TI TO .ellipsis:=g5.extBut _ _ (Jd Z.pN) (g4.extBut _ _ (Jd GV) (g3.extBut _ _ (Jd Z.pN) (g2.extBut _ _ (Jd DB) y1)));have c5:∀ c o,c≠z->c≠TO->c≠i1->c≠i2->s.heap.get? c=some o->h5.get? c=some o:=λc o c1 c2 c3 c4 e=>g5.extBut _ _ c2 (g4.extBut _ _ c4 (g3.extBut _ _ c2 (g2.extBut _ _ c3 (g1.extBut _ _ c1 e))));have r1:S1 (k+1) h5:=D1.frame _ _ _ q2 λc hc o e=>g5.extBut c o (λq=>Z.t1 (q ▸ hc)) (g4.extBut c o (λq=>Z.a2 (q ▸ hc)) (g3.extBut c o (λq=>Z.t1 (q ▸ hc)) e));have r2:S2 (k+1) h5:=D2.frame _ _ _ q4 λc hc o e=>g5.extBut c o (λq=>Z.t2 (q ▸ hc)) e;have lz:z<h5.objs.size:=ua y5;show ag _ _ (Km (.ref z) (.ref h5.objs.size) >>= _) _ _ _;apply aa;unfold Km;have y6:dG (h5.push {cls:=.type "tuple",data:=.seq #[x,y]}) z TI TO .ellipsis:=wa _ y5;apply aa;refine bj y6 (by simp) λh7 y7 g7=>?_;replace y7:dG h7 z TI TO (cW h5.objs.size):=y7;refine bj y7 (by simp) λh8 y8 g8=>?_;replace y8:dG h8 z TI TO (cW h5.objs.size):=y8;have up:∀ c o,c≠z->h5.get? c=some o->h8.get? c=some o:=λc o c1 e=>g8.extBut _ _ c1 (g7.extBut _ _ c1 (wa _ e));have p8:bq h8 h5.objs.size x y:=g8.extBut _ _ (um lz) (g7.extBut _ _ (um lz) (wb _ rfl));have n8:h8.objs.size=h5.objs.size+1:=by rw[g8.1,g7.1,vg]
 rw[sz] at y8 p8 n8;refine af ⟨_,rfl,?_⟩;show Q (.ref h5.objs.size) _;rw[sz];exact hQ x y h8 t4 px py y8 (up _ _ Z.pN o5) (D1.frame _ _ _ r1 λc hc o e=>up c o (λq=>Z.z1 (q ▸ hc)) e) (D2.frame _ _ _ r2 λc hc o e=>up c o (λq=>Z.z2 (q ▸ hc)) e) p8 n8 λc o c1 c2 c3 c4 e=>up c o c1 (c5 c o c1 c2 c3 c4 e)
theorem qcm  (Z:uS z TI TO i1 i2 mF mE)(D1:fE prog w A i1 mF n1 P1 S1)(D2:fE prog w A i2 mE n2 P2 S2)(hz:dG s.heap z TI TO .none)(hI:bq s.heap TI (.ref i1) (.ref i2))(hO:bq s.heap TO a b)
  (s1:S1 k s.heap) (s2:S2 k s.heap) (hk:k=n1\/(k<n1/\k=n2))
  (hE:∀ h' e,(∀ c o,c≠z->c≠TO->c≠i1->c≠i2->s.heap.get? c=some o->h'.get? c=some o)->(∃ o,h'.get? e=some o/\o.cls=.type "StopIteration")->∀ tk,E (.ref e) {s with heap:=h',toks:=tk}) :
  ag (ah prog w) A (Builtin.«zip.__next__» ⟨[.ref z],[]⟩) Q E s:=by
 have DB:i1≠z:=λe=>Z.z1 (e ▸ Z.m1);have GV:i2≠z:=λe=>Z.z2 (e ▸ Z.m2);have GY:i1≠TO:=λe=>Z.t1 (e ▸ Z.m1);have tX:i2≠TO:=λe=>Z.t2 (e ▸ Z.m2);show ag _ _ (field (.ref z) 2 >>= _) _ _ _;apply aa;apply aE hz rfl (x:=.bool false) rfl;show ag _ _ (field (.ref z) 3 >>= _) _ _ _;apply aa;apply aE hz rfl (x:=.ref TI) rfl;apply aa;apply aK hI rfl;show ag _ _ (Hl (.ref z) >>= _) _ _ _;apply aa;unfold Hl;apply aa;apply aE hz rfl (x:=.none) rfl;apply af;simp only[if_true];apply aa;apply cV;apply aa;apply aE hz rfl (x:=.ref TO) rfl;apply aa;refine bj hz (by simp) λh1 y1 g1=>?_;replace y1:dG h1 z TI TO .ellipsis:=y1;apply aa;simp only[Vw,Hm,XC,XD];apply aa;apply aa;apply eG;show ag _ _ (Jl (.ref i1) >>= _) _ _ _;apply aa;have f1:S1 k h1:=D1.frame _ _ _ s1 λc hc o e=>g1.extBut c o (λq=>Z.z1 (q ▸ hc)) e
 rcases hk with hk|⟨k1,hk⟩
 ·refine D1.done _ _ _ (hk ▸ f1) λh2 e g2 he=>?_;obtain⟨oe,e1,e2⟩:=he;have y2:dG h2 z TI TO .ellipsis:=g2 _ _ (Jd DB) y1;have ez:e≠z:=λq=>by subst q;rw[y2] at e1;cases e1;simp at e2
  exact bj y2 (by simp) λh3 _ g3=>hE h3 e (λc o c1 _ c3 _ q=>g3.extBut _ _ c1 (g2 _ _ c3 (g1.extBut _ _ c1 q))) ⟨oe,g3.extBut _ _ ez e1,e2⟩ _
 ·refine D1.item k _ _ _ k1 f1 λx h2 t2 px q2 g2=>af ?_;have o2:bq h2 TO a b:=g2.extBut _ _ (Jd GY) (g1.extBut _ _ Z.pN hO);apply aa;apply aK o2 rfl;apply aa;refine de o2 λh3 o3 g3=>aa (cz (af ?_));apply aa;apply aa;apply eG;show ag _ _ (Jl (.ref i2) >>= _) _ _ _;apply aa;have f2:S2 k h3:=D2.frame _ _ _ s2 λc hc o e=>g3.extBut c o (λq=>Z.t2 (q ▸ hc)) (g2.extBut c o (λq=>Z.a1 (q ▸ hc)) (g1.extBut c o (λq=>Z.z2 (q ▸ hc)) e));refine D2.done _ _ _ (hk ▸ f2) λh4 e g4 he=>?_;obtain⟨oe,e1,e2⟩:=he;have y4:dG h4 z TI TO .ellipsis:=g4 _ _ (Jd GV) (g3.extBut _ _ (Jd Z.pN) (g2.extBut _ _ (Jd DB) y1));have ez:e≠z:=λq=>by subst q;rw[y4] at e1;cases e1;simp at e2
  exact bj y4 (by simp) λh5 _ g5=>hE h5 e (λc o c1 c2 c3 c4 q=>g5.extBut _ _ c1 (g4 _ _ c4 (g3.extBut _ _ c2 (g2.extBut _ _ c3 (g1.extBut _ _ c1 q))))) ⟨oe,g5.extBut _ _ ez e1,e2⟩ _
end
end M3
end
section
namespace M3
open PySem
open Sem (wp)
noncomputable def bV(h:Heap)(tup:Bool)(l:ae)(xs:Array Value):Prop:=if tup=true then h.IsTuple l xs else h.IsList l xs
noncomputable def cU(h:Heap)(tup:Bool)(r l:ae)(k:Nat):Prop:=if tup=true then h.IsTupleIter r l k else h.IsListIter r l k
noncomputable abbrev cR(tup:Bool)(l:ae):Obj:={cls:=.type (if tup=true then "tuple_iterator" else "list_iterator"),data:=.fields #[.ref l,.int 0 0]}
theorem bV.keeps     (x:bV h tup l xs)(k:∀ o,h.get? l=some o->h'.get? l=some o):bV h' tup l xs:=by
 cases tup with
 |true=>obtain⟨o,e,c⟩:=(show h.IsTuple l xs from x);exact(show h'.IsTuple l xs from⟨o,k o e,c⟩)
 |false=>exact(show h'.IsList l xs from Heap.IsList.at (show h.IsList l xs from x) k)
theorem bV.lt     (x:bV h tup l xs):l<h.objs.size:=by
 cases tup with
 |true=>obtain⟨o,e,c⟩:=(show h.IsTuple l xs from x);exact ua e
 |false=>obtain⟨o,e,c⟩:=(show h.IsList l xs from x);exact ua e
theorem cU.keeps     (x:cU h tup r l k)(q:∀ o,h.get? r=some o->h'.get? r=some o):cU h' tup r l k:=by
 cases tup with
 |true=>obtain⟨o,e,c⟩:=(show h.IsTupleIter r l k from x);exact(show h'.IsTupleIter r l k from⟨o,q o e,c⟩)
 |false=>obtain⟨o,e,c⟩:=(show h.IsListIter r l k from x);exact(show h'.IsListIter r l k from⟨o,q o e,c⟩)
theorem cU.new    (e:h.get? r=some (cR tup l)):cU h tup r l 0:=by
 cases tup with
 |true=>exact(show h.IsTupleIter r l 0 from⟨_,e,rfl,rfl⟩)
 |false=>exact(show h.IsListIter r l 0 from⟨_,e,rfl,rfl⟩)
theorem cU.obj     (x:cU h tup r l k):∃ o,h.get? r=some o/\∀ v,o.data≠.cell v:=by
 cases tup with
 |true=>obtain⟨o,e,c,d⟩:=(show h.IsTupleIter r l k from x);exact⟨o,e,λv z=>by rw[d] at z;cases z⟩
 |false=>obtain⟨o,e,c,d⟩:=(show h.IsListIter r l k from x);exact⟨o,e,λv z=>by rw[d] at z;cases z⟩
section
variable {prog:ak} {w:World} {A:Around} {E:Value->Shared->Prop} {s:Shared}
theorem Zi     (x:bV s.heap tup l xs)(h:Q (.ref s.heap.objs.size) {s with heap:=s.heap.push (cR tup l)}):ag (ah prog w) A (jA (.ref l)) Q E s:=by
 cases tup with
 |true=>exact gL (show s.heap.IsTuple l xs from x) h
 |false=>exact eu (show s.heap.IsList l xs from x) h
theorem zA(hh:A.handled=none)(tup)(r l)(jV:l≠r)(items:Array Value) :
  fE prog w A r [r,l] items.size (λi v=>items[i]?=some v) (λi h=>cU h tup r l i/\bV h tup l items):=by
 cases tup with
 |true=>exact Ybq hh r l jV items
 |false=>exact fE.list hh r l jV items
end
theorem zbS(b1 b2)(l1 l2)(xs ys:Array Value) :
  lQ (Builtin.«zip.__new__» ⟨[.type "zip",.ref l1,.ref l2],[]⟩) (λ_ R s=>bV s.heap b1 l1 xs/\bV s.heap b2 l2 ys /\
   ∀ h5,h5=((((s.heap.push (cR b1 l1)).push (cR b2 l2)).push {cls:=.type "tuple",data:=.seq #[.ref s.heap.objs.size,.ref (s.heap.push (cR b1 l1)).objs.size]}).push {cls:=.type "tuple",data:=.seq #[.none,.none]}).push
    {cls:=.type "zip",data:=.fields #[.none,.bool false,.bool false,.ref ((s.heap.push (cR b1 l1)).push (cR b2 l2)).objs.size,.ref (((s.heap.push (cR b1 l1)).push (cR b2 l2)).push {cls:=.type "tuple",data:=.seq #[.ref s.heap.objs.size,.ref (s.heap.push (cR b1 l1)).objs.size]}).objs.size]} ->
   R (.ok (.ret (.ref ((((s.heap.push (cR b1 l1)).push (cR b2 l2)).push {cls:=.type "tuple",data:=.seq #[.ref s.heap.objs.size,.ref (s.heap.push (cR b1 l1)).objs.size]}).push {cls:=.type "tuple",data:=.seq #[.none,.none]}).objs.size))) {s with heap:=h5}) :=
 .of_wp λprog w A R s h=>by
  obtain⟨hp,g,d,tk,os⟩:=s;obtain⟨x1,x2,h⟩:=h;have r9:=sub_zip;have y1:bV (Hn ⟨hp,g,d,tk,os⟩) b1 l1 xs:=x1;have y2:bV (Hn ⟨hp.push (cR b1 l1),g,d,tk,os⟩) b2 l2 ys:=bV.keeps x2 λo e=>wa _ e
  wp_walk using Zi y1,Zi y2
  exact⟨_,rfl,h _ rfl⟩
section
variable {prog:ak} {w:World} {A:Around} {E:Value->Shared->Prop} {s:Shared}
theorem Yb4     (x1:bV s.heap b1 l1 xs)(x2:bV s.heap b2 l2 ys)
  (h:∀ h',dG h' (s.heap.objs.size+4) (s.heap.objs.size+2) (s.heap.objs.size+3) .none->bq h' (s.heap.objs.size+2) (.ref s.heap.objs.size) (.ref (s.heap.objs.size+1))->bq h' (s.heap.objs.size+3) .none .none ->
   cU h' b1 s.heap.objs.size l1 0->cU h' b2 (s.heap.objs.size+1) l2 0->(∀ c o,s.heap.get? c=some o->h'.get? c=some o)->Q (.ref (s.heap.objs.size+4)) {s with heap:=h'}) :
  ag (ah prog w) A (call (.type "zip") [.ref l1,.ref l2]) Q E s:=by
 refine callType_new F.called_zip (by decide) (F.typeCall_zip_2 _ _) (F.newCall_zip_2 _ _) (λobj=>F.args_object_init_3 obj _ _) F.entry_zip_new (zbS b1 b2 l1 l2 xs ys) ⟨x1,x2,λh5 e5=>?_⟩;have n1:(s.heap.push (cR b1 l1)).objs.size=s.heap.objs.size+1:=vg ..;have n2:((s.heap.push (cR b1 l1)).push (cR b2 l2)).objs.size=s.heap.objs.size+2:=by rw[vg,n1]
 have n3:(((s.heap.push (cR b1 l1)).push (cR b2 l2)).push {cls:=.type "tuple",data:=.seq #[.ref s.heap.objs.size,.ref (s.heap.push (cR b1 l1)).objs.size]}).objs.size=s.heap.objs.size+3:=by rw[vg,n2]
 have n4:((((s.heap.push (cR b1 l1)).push (cR b2 l2)).push {cls:=.type "tuple",data:=.seq #[.ref s.heap.objs.size,.ref (s.heap.push (cR b1 l1)).objs.size]}).push {cls:=.type "tuple",data:=.seq #[.none,.none]}).objs.size=s.heap.objs.size+4:=by rw[vg,n3]
 have q5:dG h5 ((((s.heap.push (cR b1 l1)).push (cR b2 l2)).push {cls:=.type "tuple",data:=.seq #[.ref s.heap.objs.size,.ref (s.heap.push (cR b1 l1)).objs.size]}).push {cls:=.type "tuple",data:=.seq #[.none,.none]}).objs.size ((s.heap.push (cR b1 l1)).push (cR b2 l2)).objs.size (((s.heap.push (cR b1 l1)).push (cR b2 l2)).push {cls:=.type "tuple",data:=.seq #[.ref s.heap.objs.size,.ref (s.heap.push (cR b1 l1)).objs.size]}).objs.size .none:=by rw[e5];exact wb _ rfl
 have q4:bq h5 (((s.heap.push (cR b1 l1)).push (cR b2 l2)).push {cls:=.type "tuple",data:=.seq #[.ref s.heap.objs.size,.ref (s.heap.push (cR b1 l1)).objs.size]}).objs.size .none .none:=by rw[e5];exact wa _ (wb _ rfl)
 have q3:bq h5 ((s.heap.push (cR b1 l1)).push (cR b2 l2)).objs.size (.ref s.heap.objs.size) (.ref (s.heap.push (cR b1 l1)).objs.size):=by rw[e5];exact wa _ (wa _ (wb _ rfl))
 have q2:h5.get? (s.heap.push (cR b1 l1)).objs.size=some (cR b2 l2):=by rw[e5];exact wa _ (wa _ (wa _ (wb _ rfl)))
 have q1:h5.get? s.heap.objs.size=some (cR b1 l1):=by rw[e5];exact wa _ (wa _ (wa _ (wa _ (wb _ rfl))))
 show _/\_;rw[n2,n3,n4] at q5;rw[n2,n1] at q3;rw[n3] at q4;rw[n1] at q2;rw[n4];exact⟨⟨_,q5,rfl⟩,h _ q5 q3 q4 (.new q1) (.new q2) λc o e=>by rw[e5];exact wa _ (wa _ (wa _ (wa _ (wa _ e))))⟩
variable {z TI TO i1 i2:ae} {mF mE:List ae} {n1 n2 k:Nat} {P1 P2:Nat->Value->Prop} {S1 S2:Nat->Heap->Prop} {a b:Value}
theorem yap  (Z:uS z TI TO i1 i2 mF mE)(D1:fE prog w A.in1 i1 mF n1 P1 S1)(D2:fE prog w A.in1 i2 mE n2 P2 S2)(hz:dG s.heap z TI TO .none)(hI:bq s.heap TI (.ref i1) (.ref i2))(hO:bq s.heap TO a b)
  (s1:S1 k s.heap) (s2:S2 k s.heap) (k1:k<n1) (k2:k<n2)
  (hQ:∀ x y h' tk,P1 k x->P2 k y->dG h' z TI TO (cW s.heap.objs.size)->bq h' TO x y->S1 (k+1) h'->S2 (k+1) h'->bq h' s.heap.objs.size x y->h'.objs.size=s.heap.objs.size+1 ->
   (∀ c o,c≠z->c≠TO->c≠i1->c≠i2->s.heap.get? c=some o->h'.get? c=some o)->Q (some (.ref s.heap.objs.size)) {s with heap:=h',toks:=tk}) :
  ag (ah prog w) A (cX (.ref z)) Q E s:=by
 have ty:s.TypeIs (.ref z) "zip":=⟨_,hz,rfl⟩;unfold cX;refine aa (jX (aO (name:=jj "__next__") ty Jh (bg Jh ty F.entry_zip_next ?_ (gi _))));exact YbR Z D1 D2 hz hI hO s1 s2 k1 k2 λx y h' tk p1 p2 e1 e2 e3 e4 e5 e6 e7=>af (hQ x y h' tk p1 p2 e1 e2 e3 e4 e5 e6 e7)
theorem ZaH  (Z:uS z TI TO i1 i2 mF mE)(D1:fE prog w A.in1 i1 mF n1 P1 S1)(D2:fE prog w A.in1 i2 mE n2 P2 S2)(hz:dG s.heap z TI TO .none)(hI:bq s.heap TI (.ref i1) (.ref i2))(hO:bq s.heap TO a b)
  (s1:S1 k s.heap) (s2:S2 k s.heap) (hk:k=n1\/(k<n1/\k=n2))
  (hQ:∀ h' tk,(∀ c o,c≠z->c≠TO->c≠i1->c≠i2->s.heap.get? c=some o->h'.get? c=some o)->Q none {s with heap:=h',toks:=tk}) :
  ag (ah prog w) A (cX (.ref z)) Q E s:=by
 have ty:s.TypeIs (.ref z) "zip":=⟨_,hz,rfl⟩;unfold cX;refine aa (jX (aO (name:=jj "__next__") ty Jh (bg Jh ty F.entry_zip_next ?_ (gi _))));refine qcm Z D1 D2 hz hI hO s1 s2 hk λh' e kk ho tk=>?_;obtain⟨o,e1,e2⟩:=ho;exact aa (iD (T:="StopIteration") (b:=true) ⟨o,e1,e2⟩ isSubtype_stop (af (hQ h' tk kk)))
end
end M3
end
section
namespace M3
open PySem
open Sem (wp)
set_option tactic.hygienic true in
theorem qbt(tup)(l)(xs:Array Value) :
  lQ (Builtin.«enumerate.__new__» ⟨[.type "enumerate",.ref l],[]⟩) (λ_ R s=>(bV s.heap tup l xs/\∃ o,s.heap.get? l=some o) /\
   ∀ h2,h2=(s.heap.push (cR tup l)).push {cls:=.type "enumerate",data:=.fields #[.none,.bool false,.ref s.heap.objs.size,cW 0,.none,.none]} ->
   R (.ok (.ret (.ref (s.heap.push (cR tup l)).objs.size))) {s with heap:=h2}) :=
 .of_wp λprog w A R s h=>by
  obtain⟨hp,g,d,tk,os⟩:=s;obtain⟨⟨x1,o,ho⟩,h⟩:=h;have r9:=j4;have kx:Heap.get? (Hn ⟨hp,g,d,tk,os⟩) l=some o:=ho;have y1:bV (Hn ⟨hp,g,d,tk,os⟩) tup l xs:=x1
  wp_walk using wpAny_loadPart' kx
  refine iQ λst=>af ?_;split
  ·rename_i c _ _ _ _ _;cases(c==Ja "enumerate")
   ·wp_walk using wpAny_loadPart' kx,Zi y1;exact⟨_,rfl,h _ rfl⟩
   ·wp_walk using wpAny_loadPart' kx,Zi y1;exact⟨_,rfl,h _ rfl⟩
  ·wp_walk using wpAny_loadPart' kx,Zi y1;exact⟨_,rfl,h _ rfl⟩
section
variable {prog:ak} {w:World} {A:Around} {E:Value->Shared->Prop} {s:Shared}
theorem zbL     (x1:bV s.heap tup l xs)
  (h:∀ h',jQ h' (s.heap.objs.size+1) s.heap.objs.size 0 .none->cU h' tup s.heap.objs.size l 0->(∀ b o,s.heap.get? b=some o->h'.get? b=some o)->Q (.ref (s.heap.objs.size+1)) {s with heap:=h'}) :
  ag (ah prog w) A (call (.type "enumerate") [.ref l]) Q E s:=by
 have ho:∃ o,s.heap.get? l=some o:=by
  cases tup with
  |true=>obtain⟨o,e,_⟩:=(show s.heap.IsTuple l xs from x1);exact⟨o,e⟩
  |false=>obtain⟨o,e,_⟩:=(show s.heap.IsList l xs from x1);exact⟨o,e⟩
 refine callType_new Hi (by decide) (F.typeCall_enumerate_1 _) (F.newCall_enumerate_1 _) (λobj=>F.args_object_init_2 obj _) Ji (qbt tup l xs) ⟨⟨x1,ho⟩,λh2 e2=>?_⟩;have n1:(s.heap.push (cR tup l)).objs.size=s.heap.objs.size+1:=vg ..;have q2:jQ h2 (s.heap.push (cR tup l)).objs.size s.heap.objs.size 0 .none:=by rw[e2];exact wb _ rfl
 have q1:h2.get? s.heap.objs.size=some (cR tup l):=by rw[e2];exact wa _ (wb _ rfl)
 rw[n1] at q2;show _/\_;rw[n1];exact⟨⟨_,q2,rfl⟩,h _ q2 (.new q1) λb o e=>by rw[e2];exact wa _ (wa _ e)⟩
end
end M3
end
section
namespace L3
open PySem PySem.Spec PyProof.Rows L2 M3
section
variable {X:Cx} {pins:List (ae×Obj)} {σ:L2.St} {H:Hp} {s:Shared}
theorem QbS      (ok:fB P w H h)(hn:H D=none)(new:ba P w (upd H D o) h D o):fB P w (upd H D o) h:=λb u e=>by
 by_cases hb:b=D
 ·subst hb;rw[qd] at e;cases e;exact new
 ·rw[qc hb] at e;exact(ok b u e).jw (λ_ _ _ q=>q) (λc q=>by rw[qc (yf q hn)];exact q) λc xs q=>by rw[qc (yf q hn)];exact q
theorem ZW   (I:Inv X pins σ H s)(f:yP X pins H D)(h0:X.s₀.heap.objs.size<=D)(new:ba X.prog X.w (upd H D o) s.heap D o):Inv X pins σ (upd H D o) s:=by
 obtain⟨f0,f1,f2,f3,f4,f5⟩:=f;refine⟨I.ok,I.os,I.bare,⟨I.base.keep,I.base.slot,λb u e n hx=>?_,I.base.there,λb xs e=>?_,λb u xs e=>?_,λb ps e=>?_⟩,I.loc,I.cell,?_,λx c e=>?_,λp hp=>?_,QbS I.aL f0 new,I.len⟩
 ·rw[qc (Ub (Xd (ua e) h0))];exact I.base.free b u e n hx
 ·have q:=I.base.jY b xs e;rw[qc (yf q f0)];exact q
 ·have q:=I.base.jG b u xs e;rw[qc (yf q f0)];exact q
 ·obtain⟨m,q⟩:=I.base.j0 b ps e;exact⟨m,by rw[qc (yf q f0)];exact q⟩
 ·rw[qc (Jd f1)];exact I.free
 ·rw[qc (f4 x c e)];exact I.ie x c e
 ·obtain⟨e1,e2,e3,e4,e5⟩:=I.pin p hp;exact⟨e1,by rw[qc (f5 p hp)];exact e2,e3,e4,e5⟩
end
noncomputable def QC(sc:az)(N:List Str)(cs:az)(N':List Str)(bX:Nat)(js:List Nat):Bool :=
 cs.kind == .function&&cs.names.all (λy=>y.2 != .cell||cs.names.lookup y.1==some .cell)&&cs.names.all (λy=>y.2 != .free||(sc.names.lookup y.1==some .cell||sc.names.lookup y.1==some .free)) &&
 cs.names.all (λy=>y.2 != .local||cs.names.lookup y.1==some .local)&&(N'.drop bX).all (λx=>cs.names.lookup x==some .free)&&decide ((N'.drop bX).map some=js.map (λj=>N[j]?))&&decide (bX<=N'.length)
structure iN (sc:az) (N:List Str) (cs:az) (N':List Str) (bX:Nat) (js:List Nat):Prop where
 kind:cs.kind=.function
 cel:∀ y∈cs.names,y.2=.cell->cs.names.lookup y.1=some .cell
 free:∀ y∈cs.names,y.2=.free->sc.names.lookup y.1=some .cell\/sc.names.lookup y.1=some .free
 locs:∀ y∈cs.names,y.2=.local->cs.names.lookup y.1=some .local
 frees:∀ x∈N'.drop bX,cs.names.lookup x=some .free
 at_:(N'.drop bX).map some=js.map (λj=>N[j]?)
 bX:bX<=N'.length
theorem iN.of{sc:az}{N:List Str}{cs:az}{N':List Str}{bX:Nat}{js:List Nat}(h:QC sc N cs N' bX js=true):iN sc N cs N' bX js:=by
 simp only[QC,Wa,uo,decide_eq_true_eq,vn,beq_iff_eq,bne_iff_ne,ne_eq] at h;obtain⟨⟨⟨⟨⟨⟨h1,h2⟩,h3⟩,h4⟩,h5⟩,h6⟩,h7⟩:=h;exact⟨h1,λy hy e=>(h2 y hy).resolve_left λz=>z e,λy hy e=>(h3 y hy).resolve_left λz=>z e,λy hy e=>(h4 y hy).resolve_left λz=>z e,h5,h6,h7⟩
theorem QD{names:List (Str×NameKind)}{x:Str}{k:NameKind}(h:names.lookup x=some k):(x,k)∈names:=Kc h
theorem Pk{env:Env}:∀{names:List (Str×NameKind)} {x:Str},
  ((names.map λ(n,k)=>if(k==Gn&&env.scope.kind == .function&&env.kindOf n==some .cell) then(n,ko) else(n,k)).lookup x=some .cell \/
   (names.map λ(n,k)=>if(k==Gn&&env.scope.kind == .function&&env.kindOf n==some .cell) then(n,ko) else(n,k)).lookup x=some .free)->names.lookup x=some .free\/names.lookup x=some .cell
 |[],_,h=>by simp at h
 |(n,k)::r,x,h=>by
  have ih:=@Pk env r x;rw[xb] at h;by_cases hb:(k==Gn&&env.scope.kind == .function&&env.kindOf n==some .cell)=true
  ·have hkf:k=.free:=by
    simp only[Wa,beq_iff_eq] at hb;exact hb.1.1
   simp only[hb,if_true] at h;cases hx:x==n with
   |true=>simp only[vb,hx];rw[hkf];exact .inl rfl
   |false =>
    simp only[vb,hx] at h ⊢;exact ih h
  ·simp only[hb,Uk,if_false] at h;cases hx:x==n with
   |true =>
    simp only[vb,hx] at h ⊢;exact h.symm
   |false =>
    simp only[vb,hx] at h ⊢;exact ih h
theorem QO{env:Env}:∀{names:List (Str×NameKind)} {x:Str},names.lookup x=some .free ->
  ((names.map λ(n,k)=>if(k==Gn&&env.scope.kind == .function&&env.kindOf n==some .cell) then(n,ko) else(n,k)).lookup x=some .cell \/
   (names.map λ(n,k)=>if(k==Gn&&env.scope.kind == .function&&env.kindOf n==some .cell) then(n,ko) else(n,k)).lookup x=some .free)
 |[],_,h=>by simp at h
 |(n,k)::r,x,h=>by
  have ih:=@QO env r x;rw[xb];cases hx:x==n with
  |true =>
   simp only[vb,hx] at h;cases h;by_cases hb:((Gn:NameKind)==Gn&&env.scope.kind == .function&&env.kindOf n==some .cell)=true
   ·simp only[hb,if_true,vb,hx];simp
   ·simp only[hb,Uk,if_false,vb,hx];simp
  |false =>
   simp only[vb,hx] at h;by_cases hb:(k==Gn&&env.scope.kind == .function&&env.kindOf n==some .cell)=true
   ·simp only[hb,if_true,vb,hx];exact ih h
   ·simp only[hb,Uk,if_false,vb,hx];exact ih h
theorem Qv :∀(names:List (Str×NameKind)) (cs:List (Str×ae)) {x:Str} {c:ae},(∀ y∈names,y.2=.free->∃ c,env.cells.lookup y.1=some c)->(∀ x c,cs.lookup x=some c->env.cells.lookup x=some c) ->
  (Ze env names cs).lookup x=some c->env.cells.lookup x=some c
 |[],cs,x,c,_,oX,h=>oX x c h
 |(n,k)::r,cs,x,c,hn,oX,h=>by
  refine Qv r _ (λy hy=>hn y (Ve _ hy)) (λx' c' h'=>?_) h;by_cases hk:(k == .free)=true
  ·rw[if_pos hk] at h';obtain⟨c0,e0⟩:=hn (n,k) xg (by simpa using hk);cases hx:x'==n with
   |true =>
    simp only[vb,hx] at h';cases h';rw[beq_iff_eq.mp hx,e0];rfl
   |false =>
    simp only[vb,hx] at h';exact oX x' c' h'
  ·rw[if_neg hk] at h';exact oX x' c' h'
theorem ZU :∀(names:List (Str×NameKind)) (cs:List (Str×ae)) {x:Str},(∃ c,cs.lookup x=some c)->∃ c,(Ze env names cs).lookup x=some c
 |[],cs,x,h=>h
 |(n,k)::r,cs,x,h=>by
  refine ZU r _ ?_;by_cases hk:(k == .free)=true
  ·rw[if_pos hk];cases hx:x==n with
   |true=>exact⟨(env.cells.lookup n).getD 0,by simp only[vb,hx]⟩
   |false =>
    obtain⟨c,e⟩:=h;exact⟨c,by simp only[vb,hx];exact e⟩
  ·rw[if_neg hk];exact h
theorem QI :∀(names:List (Str×NameKind)) (cs:List (Str×ae)) {x:Str},(x,Gn)∈names->∃ c,(Ze env names cs).lookup x=some c
 |[],_,_,h=>nomatch h
 |(n,k)::r,cs,x,h=>by
  rcases Xa.mp h with e|h
  ·cases e;refine ZU r _ ?_;rw[if_pos (by decide)];exact⟨(env.cells.lookup n).getD 0,by simp only[vb,beq_self_eq_true]⟩
  ·exact QI r _ h
theorem Fi:∀(names:List (Str×NameKind)) (n n0:Nat) (acc:List (Str×ae)) {x:Str},n0<=n->(∃ c,acc.lookup x=some c/\n0<=c)->∃ c,(aB n names acc).lookup x=some c/\n0<=c
 |[],_,_,_,_,_,h=>h
 |(y,k)::r,n,n0,acc,x,hn,h=>by
  unfold aB;split
  ·refine Fi r (n+1) n0 _ (by lia) ?_;cases hx:x==y with
   |true=>exact⟨n,by simp only[vb,hx],hn⟩
   |false =>
    obtain⟨c,e,l⟩:=h;exact⟨c,by simp only[vb,hx];exact e,l⟩
  ·exact Fi r n n0 acc hn h
theorem C0:∀(names:List (Str×NameKind)) (n:Nat) (acc:List (Str×ae)) {x:Str},(x,ko)∈names->∃ c,(aB n names acc).lookup x=some c/\n<=c
 |[],_,_,_,h=>nomatch h
 |(y,k)::r,n,acc,x,h=>by
  unfold aB
  rcases Xa.mp h with e|h
  ·cases e;rw[if_pos (by decide)];exact Fi r (n+1) n _ (by lia) ⟨n,by simp only[vb,beq_self_eq_true],Ua _⟩
  ·split
   ·obtain⟨c,e,l⟩:=C0 r (n+1) ((y,n)::acc) h;exact⟨c,e,by lia⟩
   ·exact C0 r n acc h
theorem Ep:∀(names:List (Str×NameKind)) (n:Nat) (acc:List (Str×ae)) {x:Str},(x,ko)∉names->(aB n names acc).lookup x=acc.lookup x
 |[],_,_,_,_=>rfl
 |(y,k)::r,n,acc,x,h=>by
  unfold aB;split
  ·rename_i hk;rw[Ep r (n+1) _ λz=>h (Ve _ z)];have:(x==y)=false:=by
    rw[beq_eq_false_iff_ne];intro e;subst e;have:k=.cell:=by simpa using hk
    subst this;exact h xg
   simp only[vb,this]
  ·exact Ep r n acc λz=>h (Ve _ z)
theorem EM:∀(names:List (Str×NameKind)) (n:Nat) (acc:List (Str×ae)) {x:Str} {c:ae},(aB n names acc).lookup x=some c->acc.lookup x=some c\/n<=c
 |[],_,_,_,_,h=>.inl h
 |(y,k)::r,n,acc,x,c,h=>by
  unfold aB at h;split at h
  ·rcases EM r (n+1) _ h with e|e
   ·cases hx:x==y with
    |true=>simp only[vb,hx] at e;cases e;exact .inr (Ua _)
    |false=>simp only[vb,hx] at e;exact .inl e
   ·exact .inr (by lia)
  ·exact EM r n acc h
theorem EY:∀(names:List (Str×NameKind)) (n:Nat) (acc:List (Str×ae)),(∀ x c,acc.lookup x=some c->c<n)->(∀ x y c,acc.lookup x=some c->acc.lookup y=some c->x=y) ->
  ∀ x y c,(aB n names acc).lookup x=some c->(aB n names acc).lookup y=some c->x=y
 |[],_,_,_,hi=>hi
 |(z,k)::r,n,acc,hb,hi=>by
  unfold aB;split
  ·refine EY r (n+1) _ (λx c e=>?_) λx y c e1 e2=>?_
   ·cases hx:x==z with
    |true=>simp only[vb,hx] at e;cases e;exact Wi _
    |false=>simp only[vb,hx] at e;exact wq (hb x c e)
   ·cases hx:x==z with
    |true =>
     simp only[vb,hx] at e1;cases e1;cases hy:y==z with
     |true=>rw[beq_iff_eq.mp hx,beq_iff_eq.mp hy]
     |false=>simp only[vb,hy] at e2;exact absurd (hb y _ e2) (ui _)
    |false =>
     simp only[vb,hx] at e1;cases hy:y==z with
     |true=>simp only[vb,hy] at e2;cases e2;exact absurd (hb x _ e1) (ui _)
     |false=>simp only[vb,hy] at e2;exact hi x y c e1 e2
  ·exact EY r n acc hb hi
theorem J4:∀(names:List (Str×NameKind)) (h:Heap) (acc:List (Str×ae)),(∀ x c,acc.lookup x=some c->∃ v,h.IsCell c v)->∀ x c,(aB h.objs.size names acc).lookup x=some c->∃ v,(pushCells h names).IsCell c v
 |[],_,_,hc=>hc
 |(y,k)::r,h,acc,hc=>by
  unfold aB pushCells;split
  ·have:=J4 r (h.push {cls:=.type "cell",data:=.cell none}) ((y,h.objs.size)::acc) λx c e=>by
    cases hx:x==y with
    |true=>simp only[vb,hx] at e;cases e;exact⟨none,_,wb _ rfl,rfl⟩
    |false =>
     simp only[vb,hx] at e;obtain⟨v,q⟩:=hc x c e;exact⟨v,q.keeps λb o e=>wa _ e⟩
   rwa [vg] at this
  ·exact J4 r h acc hc
theorem yaR{M:Model}{A:Around}{E:Value->Shared->Prop}{s:Shared}{scope:az}{globals:ae}{closure:List (Str×ae)}{qual:Str}{func:Option ae}{code:Value}{env:Env}{builtins:ae}{Q:Env->Shared->Prop}
  (hQ:∀ h',h'.Ns s.heap.objs.size (λ_=>none)->(∀ b o,s.heap.get? b=some o->h'.get? b=some o) ->
   ((∀ x c,closure.lookup x=some c->∃ v,s.heap.IsCell c v)->∀ x c,(aB (s.heap.objs.size+1) scope.names closure).lookup x=some c->∃ v,h'.IsCell c v) ->
   Q (newEnv scope s.heap.objs.size globals (aB (s.heap.objs.size+1) scope.names closure) qual func code (some env) builtins) {s with heap:=h'}) :
  ag M A (fP scope globals closure [] qual func code (some env) builtins) Q E s:=by
 simp only[fP,VF,if_true];refine aa (wpAny_alloc ?_);refine aa (wpAny_layCells _ (λname kind cells=>by cases hkc:kind==ko <;> simp[hkc]) _ _ _ _ ?_);rw[show({s with heap:=s.heap.push {cls:=.type "dict",data:=.dict #[]}}:Shared).heap.objs.size=s.heap.objs.size+1 from vg ..];refine aa (af (af (hQ _ ?_ ?_ ?_)))
 ·exact(Heap.Ns.new s.heap (.type "dict")).keeps (iV _ _)
 ·exactλb o e=>iV _ _ b o (wa _ e)
 ·intro hc;have:=J4 scope.names (s.heap.push {cls:=.type "dict",data:=.dict #[]}) closure λx c e=>let ⟨v,q⟩:=hc x c e;⟨v,q.keeps λb o e=>wa _ e⟩
  rwa [vg] at this
noncomputable def iH(X:Cx)(cs:az)(N':List Str)(C:ae)(s3:Shared)(H:Hp)(ex:List ae):Cx :=
 {X with N:=N',s₀:=s3,H₀:=H,env:=compEnvC cs (aB (C+1) cs.names (Ze X.env cs.names [])) C X.env,outer:=X.stack,stack:=X.stack,ex:=ex,fn:=λx=>cs.names.lookup x==some .cell,xe:=λ_ _=>False}
noncomputable def stC(bX:Nat)(js:List Nat)(σ:L2.St):L2.St:=xc bX none++js.map λj=>(σ[j]?).join
section
variable {X:Cx} {pins:List (ae×Obj)} {σ:L2.St} {H:Hp} {s3:Shared}
theorem Qbp{cs:az}{N':List Str}{bX:Nat}{js:List Nat}{ex:List ae}{h1:Heap}{tk:Nat}(I:Inv X pins σ H s3)(ok:iN X.env.scope X.N cs N' bX js)(hex:∀ b∈ex,yP X pins H b/\b<s3.heap.objs.size)
  (pX:h1.Ns s3.heap.objs.size λ_=>none) (hk:∀ b o,s3.heap.get? b=some o->h1.get? b=some o)
  (kM:(∀ x c,(Ze X.env cs.names []).lookup x=some c->∃ v,s3.heap.IsCell c v)->∀ x c,(aB (s3.heap.objs.size+1) cs.names (Ze X.env cs.names [])).lookup x=some c->∃ v,h1.IsCell c v) :
  Inv (iH X cs N' s3.heap.objs.size s3 H ex) [] (stC bX js σ) H {s3 with heap:=h1,toks:=tk}:=by
 have hfc:∀ y∈cs.names,y.2=.free->∃ c,X.env.cells.lookup y.1=some c:=λy hy e=>I.ok.has y.1 (ok.free y hy e);have lk:∀{x c},(Ze X.env cs.names []).lookup x=some c->X.env.cells.lookup x=some c:=λ{x c} h=>Qv cs.names [] hfc (λ_ _ z=>by simp at z) h;have clt:∀{x c},X.env.cells.lookup x=some c->c<s3.heap.objs.size:=λ{x c} e=>let ⟨v,q⟩:=I.cell x c e;q.lt;have cl2:=kM λx c e=>I.cell x c (lk e);have Mg:∀{x c},(aB (s3.heap.objs.size+1) cs.names (Ze X.env cs.names [])).lookup x=some c->X.env.cells.lookup x=some c\/s3.heap.objs.size+1<=c:=λ{x c} e=>(EM cs.names _ _ e).imp lk id;have ny:∀{x},cs.names.lookup x=some .free->(x,ko)∉cs.names:=λ{x} e z=>by have:=ok.cel _ z rfl;rw[e] at this;cases this
 refine⟨⟨I.ok.mod,ok.kind,I.ok.glob,I.ok.blt,Ua _,λx y c e1 e2=>EY cs.names _ _ (λx c e=>wq (clt (lk e))) (λx y c e1 e2=>I.ok.inj x y c (lk e1) (lk e2)) x y c e1 e2,λx hx=>?_,λx c z e=>?_,I.ok.hd,I.ok.frames,.inl rfl,λb hb=>?_,I.bs,Wf I.ok.sP I.sz,λb o e hb=>?_,λb hb=>?_,I.stack,I.kS⟩,
  rfl,I.bare,Un.kept hk,⟨_,pX,λi x v e1 e2 e3=>?_⟩,λx c e=>cl2 x c e,I.aL.fresh (Ua _),λx c e=>(Mg e).elim (λq=>I.ie x c q) λq=>I.aL.fresh (by lia),λp hp=>?_,I.aL.kept hk,?_⟩
 ·rcases Pk hx with hx|hx
  ·rw[show ∀ n,(iH X cs N' s3.heap.objs.size s3 H ex).env.cells.lookup x=(aB (s3.heap.objs.size+1) cs.names (Ze X.env cs.names [])).lookup x fromλ_=>rfl]
   ·rw[Ep _ _ _ (ny hx)];exact QI cs.names [] (QD hx)
   ·exact 0
  ·obtain⟨c,e,_⟩:=C0 cs.names (s3.heap.objs.size+1) (Ze X.env cs.names []) (QD hx);exact⟨c,e⟩
 ·have z':cs.names.lookup x=some .cell:=by simpa using(show(cs.names.lookup x==some .cell)=true from z)
  obtain⟨c',e',l⟩:=C0 cs.names (s3.heap.objs.size+1) (Ze X.env cs.names []) (QD z');have:c=c':=by
   have e2:(aB (s3.heap.objs.size+1) cs.names (Ze X.env cs.names [])).lookup x=some c:=e;rw[e'] at e2;exact(gb.inj e2).symm
  rw[this];exact Nat.le_of_succ_le l
 ·obtain⟨⟨_,_,_,_,f4,_⟩,lt⟩:=hex b hb;refine⟨Ub lt,λx c e=>?_⟩
  rcases Mg e with q|q
  ·exact f4 x c q
  ·exact um (Xn lt q)
 ·obtain⟨⟨_,_,_,f3,_,_⟩,_⟩:=hex b hb
  rcases f3 with f3|f3
  ·exact I.ok.rV b o e f3
  ·exact absurd (Xd (ua e) (Wf I.ok.sP f3)) (ui _)
 ·obtain⟨⟨_,f1,f2,_,_,_⟩,_⟩:=hex b hb;intro z
  rcases Xa.mp (I.iF b z) with e|e
  ·exact f1 e
  ·exact f2 e
 ·-- a name around, by av cell
  have hi:¬ i<bX:=λhi=>by
   unfold stC at e2;rw[Xb (by simpa using hi),xo,if_pos hi] at e2;cases e2
  have ig:(N'.drop bX)[i-bX]?=some x:=by
   rw[Ur];have q:bX+(i-bX)=i:=by lia
   rw[q];exact e1
  have jD:=ok.frees x (ue ig);have eN:(js.map λj=>X.N[j]?)[i-bX]?=some (some x):=by rw[<- ok.at_,Wb,ig];rfl
  unfold stC at e2;rw[We (by simpa using wI hi),xp,Wb] at e2;rw[Wb] at eN;cases ej:js[i-bX]? with
  |none=>rw[ej] at e2;cases e2
  |some j =>
   rw[ej] at e2 eN;have sJ:(σ[j]?).join=some v:=gb.inj e2;have eN':X.N[j]?=some x:=gb.inj eN;have eσ:σ[j]?=some (some v):=by
    cases q:σ[j]? with
    |none=>rw[q] at sJ;cases sJ
    |some u=>rw[q] at sJ;exact congrArg some sJ
   have Bi:X.env.scope.names.lookup x=some .cell\/X.env.scope.names.lookup x=some .free:=ok.free (x,.free) (QD jD) rfl;obtain⟨m,hn,hl⟩:=I.loc;obtain⟨u,r,l⟩:=hl j x v eN' eσ (.inr Bi);refine⟨u,r,.inr ⟨QO jD,?_⟩⟩
   rcases l with ⟨k,_⟩|⟨_,c,ec,z⟩
   ·rcases Bi with q|q
    ·rw[show X.env.kindOf x=X.env.scope.names.lookup x from rfl,q] at k;cases k
    ·rw[show X.env.kindOf x=X.env.scope.names.lookup x from rfl,q] at k;cases k
   ·obtain⟨c',NX⟩:=QI (env:=X.env) cs.names [] (QD jD);have:=lk NX;rw[ec] at this;cases this;obtain⟨o,ho,hd⟩:=z;refine⟨c,?_,o,hk c o ho,hd⟩;show(aB (s3.heap.objs.size+1) cs.names (Ze X.env cs.names [])).lookup x=some c;rw[Ep _ _ _ (ny jD)];exact NX
 ·have oU:p∈X.pn:=by
   have pW:p∈X.pn++[]:=hp;rw[xk] at pW;exact pW
  obtain⟨e1,e2,e3,e4,e5⟩:=I.pin p (wj _ oU);refine⟨hk _ _ e1,e2,Ub (ua e1),λz=>?_,e5⟩
  rcases Xa.mp (I.iF p.1 z) with e|e
  ·exact e3 e
  ·exact e4 e
 ·have q:=congrArg wu ok.at_;rw[Wc,Wc,UB] at q;unfold stC;show _=N'.length;rw[Xg,xp,Wc];have:=ok.bX
  lia
end
section
variable {X:Cx}
noncomputable def m6(X:Cx)(ifs:List Expr)(t:TT):Prop:=∀(pins:List (ae×Obj)) (s:Shared) (σ:L2.St) (H:Hp) (Q:Bool->Hp->Prop),Inv X pins σ H s->t σ H Q->ag (ah X.prog X.w) X.A (KN ifs X.env) (TP X pins σ Q) X.xe s
noncomputable def Fq:TT:=λ_ H Q=>Q true H
theorem Qcs:m6 X [] Fq:=λpins s σ H Q I h=>wpAny_tests_nil ⟨H,I,h⟩
theorem ycx   (h:PT X c t):m6 X [c] t:=λpins s σ H Q I hw=>wpAny_tests_one (h pins s σ H Q I hw)
noncomputable def CJ(J:It)(bX:Nat)(js:List Nat)(g:TG)(tc:TT)(te:TE)(σ:L2.St)(H:Hp)(Q:VK):Prop :=
 ∃ W:Nat->Nat->List V->L2.St->Hp->Prop,(∃ m,W 0 m [] (stC bX js σ) H)/\∀ i m acc σ' H',W i m acc σ' H' ->
  (J.stop i H'/\∀ D,H' D=none->Q (.ref D) (upd H' D (.lst acc))) \/
  (J.go i H'/\∀ x H2,J.oq i H' x H2->g x σ' H2 λσ2 H3=>tc σ2 H3 λb H4 =>
   if b=true then te σ2 H4 λy H5=>acc.length<sizeLine/\∃ m',m'<m/\W (i+1) m' (acc++[y]) σ2 H5 else ∃ m',m'<m/\W (i+1) m' acc σ2 H4)
noncomputable def JV(wi:TI)(bX:Nat)(js:List Nat)(g:TG)(tc:TT)(te:TE):TE:=λσ H Q=>wi σ H λJ H1=>CJ J bX js g tc te σ H1 Q
theorem yo        (I:Inv Y pins σ H s)(h:(b,o)∈pins):s.heap.get? b=some o/\H b=none :=
 let z:=I.pin (b,o) (xf _ h);⟨z.1,z.2.1⟩
noncomputable def KH(X:Cx)(J:It)(fp:List ae)(it:ae)(tn:Nat->Heap->Prop):Prop :=
 ∀(Y:Cx),Y.prog=X.prog->Y.w=X.w->Y.K=X.K->Y.calm=X.calm->Y.A=X.A->Y.pn=X.pn->∀(i:Nat)(pins:List (ae×Obj)) (s:Shared) (σ:L2.St) (H:Hp) (E:Value->Shared->Prop),Inv Y pins σ H s->(∀ b∈fp,yP Y pins H b)->tn i s.heap->J.stop i H ->
  ag (ah X.prog X.w) X.A (cX (.ref it)) (λr s1=>r=none/\Inv Y pins σ H s1) E s
noncomputable def Ob(X:Cx)(tg:Expr)(J:It)(fp:List ae)(it:ae)(tn:Nat->Heap->Prop):Prop :=
 ∀(Y:Cx),Y.prog=X.prog->Y.w=X.w->Y.K=X.K->Y.calm=X.calm->Y.A=X.A->∀(i:Nat)(pins:List (ae×Obj)) (s:Shared) (σ:L2.St) (H:Hp) (E:Value->Shared->Prop),Inv Y pins σ H s->(∀ b∈fp,yP Y pins H b)->tn i s.heap->J.go i H ->
  ag (ah X.prog X.w) X.A (cX (.ref it)) (λr s1=>∃ u,r=some u /\
   ag (ah X.prog X.w) X.A (cu tg (.ref it) u) (λ_ s2=>∃ x H',Inv Y pins σ H' s2/\RelV x u/\J.oq i H x H'/\tn (i+1) s2.heap/\∀ b∈fp,H' b=none) E s1) E s
theorem MT{elt iter tg:Expr}{ifs:List Expr}{cs:az}{pos:Pos}{N':List Str}{bX:Nat}{js:List Nat}{g:TG}{tc:TT}{te:TE}{pins:List (ae×Obj)}{σ:L2.St}{H2:Hp}{s2:Shared}{it:ae}{fp:List ae}{tn:Nat->Heap->Prop}{J:It}{Q:VK}
  {RR:Value->ae->iM->Shared->Prop} {E:Value->Shared->Prop}
  (ok:iN X.env.scope X.N cs N' bX js) (hg:∀ C s3 H ex,PG (iH X cs N' C s3 H ex) tg g) (oW:∀ C s3 H ex,m6 (iH X cs N' C s3 H ex) ifs tc) (k9:∀ C s3 H ex,PE (iH X cs N' C s3 H ex) elt te)
  (I2:Inv X pins σ H2 s2) (mem:it∈fp) (obj:∀ i h,tn i h->∀ b∈fp,∃ o,h.get? b=some o/\∀ v,o.data≠.cell v) (keep:∀ i h h',tn i h->(∀ b∈fp,∀ o,h.get? b=some o->h'.get? b=some o)->tn i h')
  (item:Ob X tg J fp it tn) (done:KH X J fp it tn) (self:∀(A:Around)(i:Nat)(s:Shared)(Q:Value->Shared->Prop)(E:Value->Shared->Prop),tn i s.heap->Q (.ref it) s->ag (ah X.prog X.w) A (jA (.ref it)) Q E s)
  (mq:tn 0 s2.heap) (f2:∀ b∈fp,yP X pins H2 b) (W:Nat->Nat->List V->L2.St->Hp->Prop) (w0:∃ m,W 0 m [] (stC bX js σ) H2)
  (turn:∀ i m acc σ' H',W i m acc σ' H'->(J.stop i H'/\∀ D,H' D=none->Q (.ref D) (upd H' D (.lst acc))) \/
   (J.go i H'/\∀ x H2,J.oq i H' x H2->g x σ' H2 λσ2 H3=>tc σ2 H3 λb H4 =>
    if b=true then te σ2 H4 λy H5=>acc.length<sizeLine/\∃ m',m'<m/\W (i+1) m' (acc++[y]) σ2 H5 else ∃ m',m'<m/\W (i+1) m' acc σ2 H4))
  (fin:∀(D C:ae)(acc:List V)(H':Hp)(s6:Shared),Inv X pins σ (upd H' D (.lst acc)) s6->yP X pins (upd H' D (.lst acc)) C->X.s₀.heap.objs.size<=C->(∃ m,s6.heap.Ns C m)->Q (.ref D) (upd H' D (.lst acc))->RR (.ref D) C (.ok .next) s6) :
  ag (ah X.prog X.w) X.A (newList []) (λacc s3=>ag (ah X.prog X.w) X.A (fP cs X.env.globals (Ze X.env cs.names []) [] X.env.qual none .none (some X.env)) (λCb s4 =>
   bI (ah X.prog X.w) X.A (.compStart (.ListComp elt [⟨tg,iter,ifs,0⟩] cs pos) 0 (.ref it) acc {Cb with scope:=relabel cs X.env}) (RR acc Cb.locals) s4) E s3) E s2:=by
 refine aR (yaR λh1 pX hup kM=>?_);obtain⟨s3,o9⟩:∃ s3:Shared,s3={s2 with heap:=s2.heap.push {cls:=.type "list",dict:=none,data:=.seq ([]:List Value).toArray}}:=⟨_,rfl⟩;have I3:Inv X pins σ H2 s3:=by rw[o9];exact I2.kept (t':=s2.toks) λb o e=>wa _ e
 have C7:s3.heap.objs.size=s2.heap.objs.size+1:=by rw[o9];exact vg ..
 have gD3:s3.heap.get? s2.heap.objs.size=some {cls:=.type "list",dict:=none,data:=.seq ([]:List Value).toArray}:=by rw[o9];exact wb _ rfl
 have L8:∀ b o,s2.heap.get? b=some o->s3.heap.get? b=some o:=λb o e=>by rw[o9];exact wa _ e
 have es4:∀ tk,({s2 with heap:=h1,toks:=tk}:Shared)={s3 with heap:=h1,toks:=tk}:=λtk=>by rw[o9]
 have Hu:h1.Ns s3.heap.objs.size λ_=>none:=by rw[o9];exact pX
 have C2:∀ b o,s3.heap.get? b=some o->h1.get? b=some o:=by rw[o9];exact hup
 have HV:(∀ x c,(Ze X.env cs.names []).lookup x=some c->∃ v,s3.heap.IsCell c v)->∀ x c,(aB (s3.heap.objs.size+1) cs.names (Ze X.env cs.names [])).lookup x=some c->∃ v,h1.IsCell c v:=by rw[o9];exact kM
 generalize hD:s2.heap.objs.size=D at *;have fD:yP X pins H2 D:=I2.iY (vo hD) (I2.aL.fresh (vo hD));have Md:X.s₀.heap.objs.size<=D:=hD ▸ I2.sz;have Dv:∀ b∈fp,b<D:=λb hb=>let ⟨o,e,_⟩:=obj 0 _ mq b hb;hD ▸ ua e;have hex:∀ b∈D::fp,yP X pins H2 b/\b<s3.heap.objs.size:=λb hb=>by
  rcases Xa.mp hb with e|hb
  ·subst e;exact⟨fD,by rw[C7];exact Wi _⟩
  ·exact⟨f2 b hb,by rw[C7];exact wq (Dv b hb)⟩
 obtain⟨C,hC⟩:∃ C,C=s3.heap.objs.size:=⟨_,rfl⟩;have I4:∀ tk,Inv (iH X cs N' C s3 H2 (D::fp)) [] (stC bX js σ) H2 {s3 with heap:=h1,toks:=tk}:=λtk=>by rw[hC];exact Qbp I3 ok hex Hu C2 HV
 have DC:D≠C:=by rw[hC,C7];exact Ub (Wi _)
 -- vS l6 objects, and vS list, in vS block
 have D8:∀{pl:List (ae×Obj)} {H':Hp} {b:ae},b∈D::fp->H' b=none->(∀ p∈pl,p.1≠b)->yP (iH X cs N' C s3 H2 (D::fp)) pl H' b:=λ{pl H' b} hb hn hp=>by
  obtain⟨⟨g0,g1,g2,g3,g4,g5⟩,lt⟩:=hex b hb;refine⟨hn,hC ▸ Ub lt,λz=>?_,.inl hb,λx c e=>?_,λp oU=>?_⟩
  ·rcases Xa.mp (I3.iF b z) with e|e
   ·exact g1 e
   ·exact g2 e
  ·rcases EM cs.names _ _ e with q|q
   ·exact g4 x c (Qv cs.names [] (λy hy e=>I3.ok.has y.1 (ok.free y hy e)) (λ_ _ z=>by simp at z) q)
   ·exact um (Xn (hC ▸ lt) q)
  ·rcases Xf.mp oU with z|z
   ·exact g5 p (wj _ z)
   ·exact hp p z
 have lp:∀ tk,bI (ah X.prog X.w) X.A (.compLoop (.ListComp elt [⟨tg,iter,ifs,0⟩] cs pos) 0 (.ref it) (.ref D) (iH X cs N' C s3 H2 (D::fp)).env) (RR (.ref D) C) {s3 with heap:=h1,toks:=tk}:=λtk=>by
  obtain⟨m0,w0⟩:=w0;refine QbP (λn s=>∃ i acc ys k σ' H',Inv (iH X cs N' C s3 H2 (D::fp)) [] σ' H' s/\tn i s.heap/\(∀ b∈fp,H' b=none)/\H' D=none/\s.heap.get? D=some {cls:=.type "list",data:=.seq ys k}/\Vals acc ys.toList/\acc.length<=sizeLine/\W i n acc σ' H') ?_ m0
   ⟨0,[],#[],0,_,_,I4 tk,keep _ _ _ mq λb hb o e=>C2 b o (L8 b o e),λb hb=>(f2 b hb).1,fD.1,C2 _ _ gD3,.nil,Wn _,w0⟩
  rintro n s5 ⟨i,acc,ys,k,σ5,H5,I5,t5,n5,d5,g5,v5,l5,w5⟩;have Ks:=I5.pinned (fp:=[D]) (λb hb=>by obtain rfl:=vc.mp hb;exact D8 xg d5 λp hp=>nomatch hp) (λb hb=>by obtain rfl:=vc.mp hb;exact⟨_,g5,λv z=>nomatch z⟩);have Hr:tE [D] s5.heap=[(D,{cls:=.type "list",data:=.seq ys k})]:=by simp[tE,g5]
  rw[Hr,Xe] at Ks;have NU:∀ b∈fp,yP (iH X cs N' C s3 H2 (D::fp)) [(D,{cls:=.type "list",data:=.seq ys k})] H5 b:=λb hb=>D8 (Ve _ hb) (n5 b hb) λp hp=>by
   obtain rfl:=vc.mp hp;exact um (Dv b hb)
  rcases turn i n acc σ5 H5 w5 with ⟨stop,qf⟩|⟨go,step⟩
  ·refine bc (done (iH X cs N' C s3 H2 (D::fp)) rfl rfl rfl rfl rfl rfl i _ s5 σ5 H5 _ Ks NU t5 stop) λr s6 ⟨hr,I6⟩=>?_;subst hr;obtain⟨g6,d6⟩:=yo I6 (vc.mpr rfl);have IX:Inv X pins σ H5 s6:=I3.rl (ch:=D::fp) I6.os I6.base I6.aL I6.bare λb hb=>by
    obtain⟨⟨_,e1,_,e3,e4,e5⟩,_⟩:=hex b hb;exact⟨e3,e1,e4,e5⟩
   obtain⟨_,e1,e2,e3,e4,e5⟩:=fD;have IXD:=ZW (o:=.lst acc) IX ⟨d6,e1,e2,e3,e4,e5⟩ Md ⟨l5,ys.toList,k,v5,by simpa using g6⟩;have fC:yP X pins (upd H5 D (.lst acc)) C:=by
    have hn:(upd H5 D (.lst acc)) C=none:=by rw[qc (Jd DC)];exact I6.free
    have z:=I3.iY (b:=C) (vo hC.symm) (I3.aL.fresh (vo hC.symm));exact⟨hn,z.2⟩
   obtain⟨m,hm,_⟩:=I6.loc;exact fin D C acc H5 s6 IXD fC (Wf Md (by rw[hC,C7];exact vz _)) ⟨m,hm⟩ (qf D d6)
  ·refine bc (item (iH X cs N' C s3 H2 (D::fp)) rfl rfl rfl rfl rfl i _ s5 σ5 H5 _ Ks NU t5 go) λr s6 ⟨u,hr,h6⟩=>?_;subst hr;refine bc h6 λ_ s7 ⟨x,H7,I7,r7,y7,t7,n7⟩=>?_;obtain⟨g7,d7⟩:=yo I7 (vc.mpr rfl);have I7p:=I7.pinned (fp:=fp) (λb hb=>D8 (Ve _ hb) (n7 b hb) λp hp=>by obtain rfl:=vc.mp hp;exact um (Dv b hb)) (obj _ _ t7);refine bc (hg _ _ _ _ _ s7 σ5 H7 x u _ I7p r7 (step x H7 y7)) λ_ s8 ⟨σ8,H8,I8,q8⟩=>?_;refine bc (oW _ _ _ _ _ s8 σ8 H8 _ I8 q8) λb s9 ⟨H9,I9,q9⟩=>?_;cases b with
   |false =>
    rw[if_neg Uh] at q9 ⊢;obtain⟨m',hm,w9⟩:=q9;obtain⟨g9,d9⟩:=yo I9 (wj _ (vc.mpr rfl));refine⟨m',hm,i+1,acc,ys,k,σ8,H9,I9.pins_of (λp hp=>nomatch hp),keep _ _ _ t7 λb hb o e=>(yo I9 (xf _ (Qs hb e))).1,λb hb=>?_,d9,g9,v5,l5,w9⟩;obtain⟨o,e,_⟩:=obj _ _ t7 b hb;exact(yo I9 (xf _ (Qs hb e))).2
   |true =>
    rw[if_pos rfl] at q9 ⊢;refine bc (k9 _ _ _ _ _ s9 σ8 H9 _ I9 q9) λyv tP ⟨y,ET,ES,r10,lt,m',hm,w10⟩=>?_;obtain⟨g10,IE⟩:=yo ES (wj _ (vc.mpr rfl));have t10:tn (i+1) tP.heap:=keep _ _ _ t7 λb hb o e=>(yo ES (xf _ (Qs hb e))).1;have n10:∀ b∈fp,ET b=none:=λb hb=>by
     obtain⟨o,e,_⟩:=obj _ _ t7 b hb;exact(yo ES (xf _ (Qs hb e))).2
    have Kt:Inv (iH X cs N' C s3 H2 (D::fp)) [] σ8 ET tP:=ES.pins_of λp hp=>nomatch hp;have lys:ys.size=acc.length:=by have:=v5.length;simp at this;lia
    refine wpAny_list_append_plain (hsz:=by lia) (show tP.heap.PlainList D ys from⟨k,g10⟩) λh11 p11 wY=>?_;obtain⟨_,a1,a2,a3,a4,a5⟩:=D8 (pl:=[]) (H':=ET) (b:=D) xg IE λp hp=>nomatch hp;obtain⟨k11,Ip⟩:=p11;refine⟨m',hm,i+1,acc++[y],ys.push yv,k11,σ8,ET,Kt.turned (t':=tP.toks) (it:=D) (λb o hb e=>(wY.2 b hb).trans e) IE a1 a3 a4 a5,keep _ _ _ t10 λb hb o e=>(wY.2 b (Ub (Dv b hb))).trans e,n10,IE,Ip,?_,by rw[Xg,xD];exact lt,w10⟩;rw[Array.toList_push];exact v5.append (.cons r10 .nil)
 have R1:∀ tk,bI (ah X.prog X.w) X.A (.compStart (.ListComp elt [⟨tg,iter,ifs,0⟩] cs pos) 0 (.ref it) (.ref D) (iH X cs N' C s3 H2 (D::fp)).env) (RR (.ref D) C) {s3 with heap:=h1,toks:=tk}:=λtk =>
  codeAny_compStart_list (lp tk) (self _ 0 _ _ _ (keep _ _ _ mq λb hb o e=>C2 b o (L8 b o e)) (lp tk))
 have R2:=R1 s2.toks;rw[<- es4] at R2;subst hD;rw[hC,o9] at R2;exact R2
end
section
variable {X:Cx} {pins:List (ae×Obj)} {σ:L2.St} {H:Hp} {s:Shared} {h':Heap}
theorem yn{t':Nat}{ch:List ae}(I:Inv X pins σ H s)(f:∀ b∈ch,yP X pins H b)(k:∀ b o,b∉ch->s.heap.get? b=some o->h'.get? b=some o):Inv X pins σ H {s with heap:=h',toks:=t'}:=by
 have nt:∀ b u,H b=some u->b∉ch:=λb u e z=>by
  have q:=(f b z).1;rw[e] at q;cases q
 refine I.step (g':=s.gens) (d':=s.drawn) (ch:=ch) (λb hb=>?_) (λb o _ _ hc e _=>k b o hc e) (λb o _ _ hc e _=>⟨o.slots,k b o hc e⟩) (λ_ _ _ _ n=>n) (λb o hc e=>⟨o,k b o hc e⟩) (λ_ _ e=>e) (λ_ _ _ e=>e) (λb ps e=>⟨#[],by rw[e];simp⟩) (λm hm=>?_) (λb u e=>?_) I.bare
 ·obtain⟨_,f1,f2,f3,f4,f5⟩:=f b hb;exact⟨f3,f1,f4,f5⟩
 ·obtain⟨o,es,ep,ho,r⟩:=hm;exact⟨o,es,ep,k _ o (λz=>(f _ z).2.1 rfl) ho,r⟩
 ·refine(I.aL b u e).jw (λc v hc q=>k c v ?_ q) (λ_ q=>q) λ_ _ q=>q
  rcases hc with z|z
  ·rw[z];exact nt b u e
  ·exact nt c _ z
noncomputable def fS(K:Jc)(H:Hp)(b:Bool)(a:ae)(xs:List V):Prop:=if b=true then gA K H a xs else fK K H a xs
theorem Yl    (I:Inv X pins σ H s)(h:fS X.K H b a xs):∃ av:List Value,Vals xs av/\bV s.heap b a av.toArray/\xs.length<=sizeLine:=by
 cases b with
 |false=>obtain⟨av,r,p,z⟩:=I.list (show fK X.K H a xs from h);exact⟨av,r,p.isList,z⟩
 |true=>obtain⟨av,r,p,z⟩:=I.tuple (show gA X.K H a xs from h);exact⟨av,r,p,z⟩
theorem QG    (I:Inv X pins σ H s)(h:fS X.K H b a xs)(h':fS X.K H b a ys):xs=ys:=by
 cases b with
 |false=>exact I.list_inj (show fK X.K H a xs from h) h'
 |true=>exact I.tuple_inj (show gA X.K H a xs from h) h'
noncomputable def J9(K:Jc)(b1 b2:Bool)(a1 a2:ae):It :=
 ⟨λi H=>∃ xs ys,fS K H b1 a1 xs/\fS K H b2 a2 ys/\i<xs.length/\i<ys.length,
 λi H x H'=>∃ T x1 y1,x=.ref T/\H T=none/\H'=upd H T (.tup [x1,y1])/\(∀ xs,fS K H b1 a1 xs->xs[i]?=some x1)/\(∀ ys,fS K H b2 a2 ys->ys[i]?=some y1),
 λi H=>∃ xs ys,fS K H b1 a1 xs/\fS K H b2 a2 ys/\(i=xs.length\/(i<xs.length/\i=ys.length))⟩
noncomputable def J'(K:Jc)(b:Bool)(a:ae):It :=
 ⟨λi H=>∃ xs,fS K H b a xs/\i<xs.length,
 λi H x H'=>∃ T x1,x=.ref T/\H T=none/\H'=upd H T (.tup [.int i,x1])/\(∀ xs,fS K H b a xs->xs[i]?=some x1),
 λi H=>∃ xs,fS K H b a xs/\i=xs.length⟩
theorem Qh{A:Around}(h:A.handled=none):A.in1.handled=none:=h
theorem Yck{P:ak}{w:World}{K:Jc}{es:List Expr}{kt:Nat}{pt:Pos}{b1 b2:Bool}{a1 a2 z TI TO i1 i2:ae}(Z:∀ m,(∀ a∈[a1,a2],a<m)->(∀ a∈[z,TI,TO,i1,i2],m<=a)->uS z TI TO i1 i2 [i1,a1] [i2,a2])
  (m:Nat) (h1:∀ a∈[a1,a2],a<m) (h2:∀ a∈[z,TI,TO,i1,i2],m<=a) :
  Turn P w K (.Tuple es kt pt) (J9 K b1 b2 a1 a2) [z,TI,TO,i1,i2] z (λi h=>dG h z TI TO .none/\bq h TI (.ref i1) (.ref i2)/\(∃ a b,bq h TO a b)/\cU h b1 i1 a1 i/\cU h b2 i2 a2 i) where
 mem:=by simp
 obj:=λi h ⟨e1,e2,⟨a,b,e3⟩,e4,e5⟩ c hc=>by
  simp only[Xa,Vc,or_false] at hc
  rcases hc with rfl|rfl|rfl|rfl|rfl
  ·exact⟨_,e1,λv q=>nomatch q⟩
  ·exact⟨_,e2,λv q=>nomatch q⟩
  ·exact⟨_,e3,λv q=>nomatch q⟩
  ·exact e4.obj
  ·exact e5.obj
 keep:=λi h h' ⟨e1,e2,⟨a,b,e3⟩,e4,e5⟩ k=>⟨k z (by simp) _ e1,k TI (by simp) _ e2,⟨a,b,k TO (by simp) _ e3⟩,e4.keeps λo e=>k i1 (by simp) o e,e5.keeps λo e=>k i2 (by simp) o e⟩
 item:=by
  intro X hP hw hK hc i pins s σ H E I hf ⟨e1,e2,⟨a,b,e3⟩,e4,e5⟩ hg;subst hP hw hK;obtain⟨xs,ys,q1,q2,l1,l2⟩:=hg;obtain⟨fo,v1,p1,_⟩:=Yl I q1;obtain⟨ia,v2,p2,_⟩:=Yl I q2;have ZZ:=Z m h1 h2;have n1:a1≠i1:=Ub (Xd (h1 a1 (by simp)) (h2 i1 (by simp)));have n2:a2≠i2:=Ub (Xd (h1 a2 (by simp)) (h2 i2 (by simp)));have D1:=zA (prog:=X.prog) (w:=X.w) (Qh (I.ok.hd hc)) b1 i1 a1 n1 fo.toArray;have D2:=zA (prog:=X.prog) (w:=X.w) (Qh (I.ok.hd hc)) b2 i2 a2 n2 ia.toArray;have Br:=v1.length;have HC:=v2.length;refine yap ZZ D1 D2 e1 e2 e3 ⟨e4,p1⟩ ⟨e5,p2⟩ (by simp;lia) (by simp;lia) λx y g tk px py f1 f2 f3 f4 f5 f6 f7=>⟨_,rfl,?_⟩;refine wpAny_letOwnedTupleGo_zip (s:={s with heap:=g,toks:=tk}) f1 λg' f8 f9=>?_;obtain⟨x1,pV⟩:∃ x1,xs[i]?=some x1:=⟨xs[i],by simp[l1]⟩;obtain⟨y1,Nw⟩:∃ y1,ys[i]?=some y1:=⟨ys[i],by simp[l2]⟩;obtain⟨u1,Bj,r1⟩:=v1.get pV;obtain⟨u2,hu2,r2⟩:=v2.get Nw;have ex:x=u1:=by have z:fo.toArray[i]?=some x:=px;simp[Bj] at z;exact z.symm
  have ey:y=u2:=by have z:ia.toArray[i]?=some y:=py;simp[hu2] at z;exact z.symm
  subst ex ey;have zlt:z≠s.heap.objs.size:=Ub (ua e1);have I1:Inv X pins σ H {s with heap:=g',toks:=tk}:=yn (ch:=[z,TI,TO,i1,i2]) I hf λc o cQ e=>by
   simp only[Xa,Vc,or_false,not_or] at cQ;exact(f9.2 c cQ.1).trans (f7 c o cQ.1 cQ.2.2.1 cQ.2.2.2.1 cQ.2.2.2.2 e)
  have fT:=I.iY (b:=s.heap.objs.size) (Ua _) (I.aL.fresh (Ua _));have gT:g'.get? s.heap.objs.size=some {cls:=.type "tuple",data:=.seq #[x,y]}:=(f9.2 _ (Jd zlt)).trans f5;have I2:Inv X pins σ (upd H s.heap.objs.size (.tup [x1,y1])) {s with heap:=g',toks:=tk}:=ZW I1 fT I.sz ⟨by show 2<=sizeLine;decide,[x,y],.cons r1 (.cons r2 .nil),⟨_,gT,rfl,_,rfl⟩⟩;have kz:∀ c∈[TI,TO,i1,i2],c≠z:=λc cQ=>by
   simp only[Xa,Vc,or_false] at cQ
   rcases cQ with rfl|rfl|rfl|rfl
   ·exact ZZ.Fp
   ·exact ZZ.pN
   ·exactλq=>ZZ.z1 (q ▸ ZZ.m1)
   ·exactλq=>ZZ.z2 (q ▸ ZZ.m2)
  refine⟨.ref s.heap.objs.size,_,I2,rfl,⟨_,x1,y1,rfl,fT.1,rfl,λzs hz=>by rw[QG I hz q1];exact pV,λzs hz=>by rw[QG I hz q2];exact Nw⟩,
   ⟨f8,(f9.2 TI (kz TI (by simp))).trans (f7 TI _ ZZ.Fp ZZ.vR ZZ.Mb ZZ.Ma e2),⟨x,y,(f9.2 TO (kz TO (by simp))).trans f2⟩,f3.1.keeps λo e=>(f9.2 i1 (kz i1 (by simp))).trans e,f4.1.keeps λo e=>(f9.2 i2 (kz i2 (by simp))).trans e⟩,λc cQ=>?_⟩
  have lt:c<s.heap.objs.size:=by
   simp only[Xa,Vc,or_false] at cQ
   rcases cQ with rfl|rfl|rfl|rfl|rfl
   ·exact ua e1
   ·exact ua e2
   ·exact ua e3
   ·exact let ⟨o,e,_⟩:=e4.obj;ua e
   ·exact let ⟨o,e,_⟩:=e5.obj;ua e
  rw[qc (Ub lt)];exact(hf c cQ).1
 done:=by
  intro X hP hw hK hc i pins s σ H E I hf ⟨e1,e2,⟨a,b,e3⟩,e4,e5⟩ hg;subst hP hw hK;obtain⟨xs,ys,q1,q2,hk⟩:=hg;obtain⟨fo,v1,p1,_⟩:=Yl I q1;obtain⟨ia,v2,p2,_⟩:=Yl I q2;have ZZ:=Z m h1 h2;have n1:a1≠i1:=Ub (Xd (h1 a1 (by simp)) (h2 i1 (by simp)));have n2:a2≠i2:=Ub (Xd (h1 a2 (by simp)) (h2 i2 (by simp)));have D1:=zA (prog:=X.prog) (w:=X.w) (Qh (I.ok.hd hc)) b1 i1 a1 n1 fo.toArray;have D2:=zA (prog:=X.prog) (w:=X.w) (Qh (I.ok.hd hc)) b2 i2 a2 n2 ia.toArray;have Br:=v1.length;have HC:=v2.length;refine ZaH ZZ D1 D2 e1 e2 e3 ⟨e4,p1⟩ ⟨e5,p2⟩ (by simp;lia) λg tk k=>⟨rfl,?_⟩;exact yn (ch:=[z,TI,TO,i1,i2]) I hf λc o cQ e=>by
   simp only[Xa,Vc,or_false,not_or] at cQ;exact k c o cQ.1 cQ.2.2.1 cQ.2.2.2.1 cQ.2.2.2.2 e
 self:=λ_ _ _ _ _ st h=>iC st.1 h
theorem qbL{P:ak}{w:World}{K:Jc}{es:List Expr}{kt:Nat}{pt:Pos}{b:Bool}{a e it:ae}(h1:a≠it)(h2:a≠e)(h3:e≠it) :
  Turn P w K (.Tuple es kt pt) (J' K b a) [e,it] e (λi h=>(∃ old,jQ h e it i old)/\cU h b it a i) where
 mem:=by simp
 obj:=λi h ⟨⟨old,e1⟩,e2⟩ c hc=>by
  simp only[Xa,Vc,or_false] at hc
  rcases hc with rfl|rfl
  ·exact⟨_,e1,λv q=>nomatch q⟩
  ·exact e2.obj
 keep:=λi h h' ⟨⟨old,e1⟩,e2⟩ k=>⟨⟨old,k e (by simp) _ e1⟩,e2.keeps λo q=>k it (by simp) o q⟩
 item:=by
  intro X hP hw hK hc i pins s σ H E I hf ⟨⟨old,e1⟩,e2⟩ hg;subst hP hw hK;obtain⟨xs,q1,l1⟩:=hg;obtain⟨fo,v1,p1,_⟩:=Yl I q1;have D1:=zA (prog:=X.prog) (w:=X.w) (Qh (I.ok.hd hc)) b it a h1 fo.toArray;have Br:=v1.length;refine eU D1 e1 ⟨e2,p1⟩ (by simp;lia) h3 (by simp[h3,Jd h2]) λx g tk px f1 f2 f3 f4 f5=>⟨_,rfl,?_⟩;refine dM (s:={s with heap:=g,toks:=tk+1}) f1 λg' f6 f7=>?_;obtain⟨x1,pV⟩:∃ x1,xs[i]?=some x1:=⟨xs[i],by simp[l1]⟩;obtain⟨u1,Bj,r1⟩:=v1.get pV;have ex:x=u1:=by have z:fo.toArray[i]?=some x:=px;simp[Bj] at z;exact z.symm
  subst ex;have elt:e≠s.heap.objs.size:=Ub (ua e1);have I1:Inv X pins σ H {s with heap:=g',toks:=tk+1}:=yn (ch:=[e,it]) I hf λc o cQ q=>by
   simp only[Xa,Vc,or_false,not_or] at cQ;exact(f7.2 c cQ.1).trans (f5 c o cQ.1 cQ.2 q)
  have fT:=I.iY (b:=s.heap.objs.size) (Ua _) (I.aL.fresh (Ua _));have gT:g'.get? s.heap.objs.size=some {cls:=.type "tuple",data:=.seq #[.int i tk,x]}:=(f7.2 _ (Jd elt)).trans f3;have I2:Inv X pins σ (upd H s.heap.objs.size (.tup [.int i,x1])) {s with heap:=g',toks:=tk+1}:=ZW I1 fT I.sz ⟨by show 2<=sizeLine;decide,[.int i tk,x],.cons ⟨_,rfl⟩ (.cons r1 .nil),⟨_,gT,rfl,_,rfl⟩⟩;refine⟨.ref s.heap.objs.size,_,I2,rfl,⟨_,x1,rfl,fT.1,rfl,λzs hz=>by rw[QG I hz q1];exact pV⟩,⟨⟨_,by have q:=f6;exact q⟩,f2.1.keeps λo q=>(f7.2 it (Jd h3)).trans q⟩,λc cQ=>?_⟩;have lt:c<s.heap.objs.size:=by
   simp only[Xa,Vc,or_false] at cQ
   rcases cQ with rfl|rfl
   ·exact ua e1
   ·exact let ⟨o,q,_⟩:=e2.obj;ua q
  rw[qc (Ub lt)];exact(hf c cQ).1
 done:=by
  intro X hP hw hK hc i pins s σ H E I hf ⟨⟨old,e1⟩,e2⟩ hg;subst hP hw hK;obtain⟨xs,q1,hk⟩:=hg;obtain⟨fo,v1,p1,_⟩:=Yl I q1;have D1:=zA (prog:=X.prog) (w:=X.w) (Qh (I.ok.hd hc)) b it a h1 fo.toArray;have Br:=v1.length;refine fb D1 e1 (by rw[show fo.toArray.size=i from by simp;lia];exact⟨e2,p1⟩) λg k=>⟨rfl,?_⟩;exact yn (t':=s.toks) (ch:=[e,it]) I hf λc o cQ q=>by
   simp only[Xa,Vc,or_false,not_or] at cQ;exact k c o cQ.2 q
 self:=λ_ _ _ _ _ st h=>let ⟨_,e1⟩:=st.1;cG e1 h
end
section
variable {X:Cx}
theorem Ov      (hc:X.calm=true)(T:Turn X.prog X.w X.K tg J fp it tn):Ob X tg J fp it tn :=
 λY e1 e2 e3 e4 e5 i pins s σ H E I f t g=>by
  have q:=T.item Y e1 e2 e3 (e4.trans hc) i pins s σ H E I f t g;rw[e5] at q;exact q
theorem LH      (hc:X.calm=true)(T:Turn X.prog X.w X.K tg J fp it tn):KH X J fp it tn :=
 λY e1 e2 e3 e4 e5 _ i pins s σ H E I f t g=>by
  have q:=T.done Y e1 e2 e3 (e4.trans hc) i pins s σ H E I f t g;rw[e5] at q;exact q
variable {elt iter tg:Expr} {ifs:List Expr} {cs:az} {pos:Pos} {wi:TI} {g:TG} {tc:TT} {te:TE}
theorem ycw(N')(bX)(js)(aL:QC X.env.scope X.N cs N' bX js=true)(hc:X.calm=true)(hi:PI X tg iter wi)(hg:∀ C s3 H ex,PG (iH X cs N' C s3 H ex) tg g)(oW:∀ C s3 H ex,m6 (iH X cs N' C s3 H ex) ifs tc)
  (k9:∀ C s3 H ex,PE (iH X cs N' C s3 H ex) elt te) (hs:∀ x,cJ iter X.env x=pure x:=by intro _;rfl):PE X (.ListComp elt [⟨tg,iter,ifs,0⟩] cs pos) (JV wi bX js g tc te):=by
 intro pins s σ H Q I h;have ok:=iN.of aL;rw[eval_ListComp];refine eJ (use:=none) rfl hs (Nc λy hy e=>I.ok.has y.1 (ok.free y hy e)) ok.kind ok.locs (bc (hi pins s σ H _ I h) λv s1 h1=>bc h1 λDD s2 h2=>?_);obtain⟨it,fp,tn,J,H2,e,I2,T,mq,f2,W,w0,turn⟩:=h2;subst e;refine MT (Q:=Q) (RR:=λacc C=>compPost (ah X.prog X.w) X.A X.xe none (EP X pins σ Q) acc C) ok hg oW k9 I2 T.mem T.obj T.keep (Ov hc T) (LH hc T) T.self mq f2 W w0 turn λD C acc H' s6 IX fC zC hm q=>?_;obtain⟨m,hm⟩:=hm;refine⟨m,hm,λh' sb=>⟨.ref D,_,?_,rfl,q⟩⟩;exact yn (t':=s6.toks) (ch:=[C]) IX (λb hb=>by obtain rfl:=vc.mp hb;exact fC) λb o hb e=>(sb.2 b λz=>hb (by simp[z])).trans e
theorem ZcG    (hN:X.N.Nodup)(HH:X.N[i]?=some x)(hx:Loc X.env.scope x)(N')(bX)(js)(aL:QC X.env.scope X.N cs N' bX js=true)(hc:X.calm=true)(hi:PI X tg iter wi)
  (hg:∀ C s3 H ex,PG (iH X cs N' C s3 H ex) tg g) (oW:∀ C s3 H ex,m6 (iH X cs N' C s3 H ex) ifs tc) (k9:∀ C s3 H ex,PE (iH X cs N' C s3 H ex) elt te)
  (Bl:bh (.ListComp elt [⟨tg,iter,ifs,0⟩] cs pos) (some (.Name x pos')) FI.line X.env=pure true:=by rfl) (hs:∀ x,cJ iter X.env x=pure x:=by intro _;rfl)
  (hf:X.fn x=true\/X.env.scope.names.lookup x=some .local:=by first|exact .inl rfl|exact .inr rfl|assumption) :
  PS X (.Assign [.Name x pos'] (.ListComp elt [⟨tg,iter,ifs,0⟩] cs pos) FI) (wM (JV wi bX js g tc te) (Jt i)):=by
 intro pins s σ H D0 I h;have ok:=iN.of aL;rw[exec_Assign_Name_used _ _ _ _ Bl];refine aa (b7 (aa ?_));show ag _ X.A (do let _<-comprehension (.ListComp elt [⟨tg,iter,ifs,0⟩] cs pos) cs X.env _ (newList []) false (eval iter X.env) (some (eP (.Name x pos') X.env))) _ _ s;refine aa (aM (eJ (use:=some (eP (.Name x pos') X.env)) (Q:=λ_ s'=>SP X pins D0 .next s') rfl hs (Nc λy hy e=>I.ok.has y.1 (ok.free y hy e)) ok.kind ok.locs (bc (hi pins s σ H _ I h) λv s1 h1=>bc h1 λDD s2 h2=>?_))
  (λ_ s' hq=>af (af hq)) λ_ _ e=>e)
 obtain⟨it,fp,tn,J,H2,e,I2,T,mq,f2,W,w0,turn⟩:=h2;subst e;refine MT (Q:=λv H'=>Jt i v σ H' D0.nx) (RR:=λacc C=>compPost (ah X.prog X.w) X.A X.xe (some (eP (.Name x pos') X.env)) (λ_ s'=>SP X pins D0 .next s') acc C) ok hg oW k9 I2 T.mem T.obj T.keep (Ov hc T) (LH hc T) T.self mq f2 W w0 turn λD C acc H' s6 IX fC zC hm q=>?_;obtain⟨m,hm⟩:=hm;obtain⟨oC,esC,epC,gC,dC,rC⟩:=id hm;have nc:∀ v,oC.data≠.cell v:=λv z=>by rw[dC] at z;cases z
 have IXp:=IX.pinned (fp:=[C]) (λb hb=>by obtain rfl:=vc.mp hb;exact fC) (λb hb=>by obtain rfl:=vc.mp hb;exact⟨oC,gC,nc⟩);show ag (ah X.prog X.w) X.A (eP (.Name x pos') X.env (.ref D)) _ X.xe s6;refine bc (KZ hN HH hx hf _ s6 σ _ (.ref D) (.ref D) _ IXp rfl q) λ_ s7 ⟨σ7,H7,I7,q7⟩=>?_;obtain⟨g7,d7⟩:=yo I7 (xf _ (Qs (vc.mpr rfl) gC));refine⟨m,⟨oC,esC,epC,g7,dC,rC⟩,λh' sb=>⟨σ7,H7,?_,q7⟩⟩;obtain⟨_,c1,c2,c3,c4,c5⟩:=fC;exact yn (t':=s7.toks) (ch:=[C]) I7.hV (λb hb=>by obtain rfl:=vc.mp hb;exact⟨d7,c1,c2,c3,c4,c5⟩) λb o hb e=>(sb.2 b λz=>hb (by simp[z])).trans e
theorem yz{a b:Nat}(h:a<b\/b<a):a≠b:=by lia
theorem tG  (h1:a≠b)(h2:a≠c):(a:ae)∉([b,c]:List ae):=by
 simp only[Xa,Vc,or_false,not_or];exact⟨h1,h2⟩
theorem qcz(n a1 a2:Nat)(h1:a1<n)(h2:a2<n):uS (n+4) (n+2) (n+3) n (n+1) [n,a1] [n+1,a2] where
 Fp:=yz (a:=n+2) (b:=n+4) (by lia)
 pN:=yz (a:=n+3) (b:=n+4) (by lia)
 vR:=yz (a:=n+2) (b:=n+3) (by lia)
 Mb:=yz (a:=n+2) (b:=n) (by lia)
 Ma:=yz (a:=n+2) (b:=n+1) (by lia)
 z1:=tG (yz (by lia)) (yz (by lia))
 z2:=tG (yz (by lia)) (yz (by lia))
 t1:=tG (yz (by lia)) (yz (by lia))
 t2:=tG (yz (by lia)) (yz (by lia))
 m1:=by simp
 m2:=by simp
 a1:=tG (yz (by lia)) (yz (by lia))
 a2:=tG (yz (by lia)) (yz (by lia))
theorem Ii  (h:(b:ae)∈([n+4,n+2,n+3,n,n+1]:List ae)):n<=b:=by
 simp only[Xa,Vc,or_false] at h
 rcases h with h|h|h|h|h <;> (have h':b=_:=h;rw[h'];first|exact WI _ _|exact Ua _)
theorem D7  (h:(b:ae)∈([n+1,n]:List ae)):n<=b:=by
 simp only[Xa,Vc,or_false] at h
 rcases h with h|h <;> (have h':b=_:=h;rw[h'];first|exact WI _ _|exact Ua _)
noncomputable def Bc(K:Jc)(ta:TA):TI:=λσ H R=>ta σ H λvs H1=>∃ b1 b2 a1 a2,vs=[.ref a1,.ref a2]/\(∃ xs,fS K H1 b1 a1 xs)/\(∃ ys,fS K H1 b2 a2 ys)/\R (J9 K b1 b2 a1 a2) H1
noncomputable def OU(K:Jc)(ta:TA):TI:=λσ H R=>ta σ H λvs H1=>∃ b a,vs=[.ref a]/\(∃ xs,fS K H1 b a xs)/\R (J' K b a) H1
theorem ZcT       (hg:Gl X "zip")(hm:X.mg "zip"=none)(ha:PA X [a,b] ta)(hs:ao [a,b] X.env=[(false,eval a X.env),(false,eval b X.env)]:=by rfl)(k8:ao [b] X.env=[(false,eval b X.env)]:=by rfl) :
  PI X (.Tuple es kt pt) (.Call (.Name "zip" p) [a,b] [] pos) (Bc X.K ta):=by
 intro pins s σ H R I h;refine mI (YI I hg hm boot_zip (Gf (bc (ha pos pins s σ H _ I h) λus s1 ⟨vs,H1,I1,r1,q1⟩=>?_) (by rw[hs,k8]) (by rw[k8];rfl)));obtain⟨b1,b2,a1,a2,e,⟨xs,h1⟩,⟨ys,h2⟩,q⟩:=q1;subst e;cases r1 with
 |cons r rr =>
  cases rr with
  |cons r' rr =>
   cases rr;obtain rfl:_=ka a1:=r;obtain rfl:_=ka a2:=r';obtain⟨fo,v1,p1,_⟩:=Yl I1 h1;obtain⟨ia,v2,p2,_⟩:=Yl I1 h2;have l1:=p1.lt;have l2:=p2.lt;refine Yb4 p1 p2 λg f1 f2 f3 f4 f5 f6=>?_;refine iC f1 ?_;refine⟨s1.heap.objs.size+4,[s1.heap.objs.size+4,s1.heap.objs.size+2,s1.heap.objs.size+3,s1.heap.objs.size,s1.heap.objs.size+1],_,_,H1,rfl,I1.kept (t':=s1.toks) f6,Yck (b1:=b1) (b2:=b2) (a1:=a1) (a2:=a2) (λ_ _ _=>qcz _ a1 a2 l1 l2) s1.heap.objs.size (λa DZ=>?_) (λa DZ=>Ii DZ),⟨f1,f2,⟨_,_,f3⟩,f4,f5⟩,λb hb=>I1.iY (Ii hb) (I1.aL.fresh (Ii hb)),q⟩;simp only[Xa,Vc,or_false] at DZ
   rcases DZ with rfl|rfl <;> assumption
theorem QcB       (hg:Gl X "enumerate")(hm:X.mg "enumerate"=none)(ha:PA X [a] ta)(hs:ao [a] X.env=[(false,eval a X.env)]:=by rfl) :
  PI X (.Tuple es kt pt) (.Call (.Name "enumerate" p) [a] [] pos) (OU X.K ta):=by
 intro pins s σ H R I h;refine mI (YI I hg hm jK (Gf (bc (ha pos pins s σ H _ I h) λus s1 ⟨vs,H1,I1,r1,q1⟩=>?_) hs rfl));obtain⟨b,l,e,⟨xs,h1⟩,q⟩:=q1;subst e;cases r1 with
 |cons r rr =>
  cases rr;obtain rfl:_=ka l:=r;obtain⟨fo,v1,p1,_⟩:=Yl I1 h1;have l1:=p1.lt;refine zbL p1 λg f1 f2 f3=>?_;refine cG f1 ?_;exact⟨s1.heap.objs.size+1,[s1.heap.objs.size+1,s1.heap.objs.size],_,_,H1,rfl,I1.kept (t':=s1.toks) f3,qbL (b:=b) (a:=l) (Ub l1) (Ub (wq l1)) (um (Wi _)),⟨⟨_,f1⟩,f2⟩,λc hc=>I1.iY (D7 hc) (I1.aL.fresh (D7 hc)),q⟩
end
noncomputable def lj(P:ak)(w:World):mJ:=λouter H s E e s'=>∃ x C t tb H',e=.ref x/\s'.os=s.os/\dI s'.gens/\Un (mS outer) [] H H' s.heap s'.heap/\fB P w H' s'.heap/\s'.heap.get? x=some (pD C t tb)/\Tb s'.heap x tb /\
 H' x=none/\s.heap.get? x=none/\(∀ T,tb=.ref T->H' T=none/\s.heap.get? T=none)/\E (.ref C) none H'
structure tx (X:Cx) (pins:List (ae×Obj)) (H:Hp) (b:ae):Prop where
 un:H b=none
 loc:b≠X.env.locals
 fs:b∉X.fs
 new:X.s₀.heap.get? b=none
 cell:∀ x c,X.env.cells.lookup x=some c->c≠b
 pin:∀ p∈X.pn++pins,p.1≠b
noncomputable def JU(X:Cx)(E:XK):Prop:=∀(pins:List (ae×Obj)) (σ:L2.St) (H:Hp) (s:Shared) (x C t:ae) (tb:Value),Inv X pins σ H s->s.heap.get? x=some (pD C t tb)->Tb s.heap x tb->tx X pins H x->(∀ T,tb=.ref T->tx X pins H T)->E (.ref C) none H->X.xe (.ref x) s
section
variable {X:Cx} {pins:List (ae×Obj)} {σ:L2.St} {H H':Hp} {s:Shared}
theorem Og  (I:Inv X pins σ H s)(hx:X.ex=[])(hb:s.heap.get? b=none)(hn:H' b=none):tx X pins H' b:=by
 have al:∀{c o},s.heap.get? c=some o->c≠b:=λ{c o} e z=>by rw[z,hb] at e;cases e
 refine⟨hn,λz=>?_,λz=>?_,?_,λx c e=>?_,λp hp=>al (I.pin p hp).1⟩
 ·obtain⟨m,⟨o,_,_,e,_⟩,_⟩:=I.loc;exact al e z.symm
 ·obtain⟨_,o,e,_⟩:=I.jF.mem z;exact al e rfl
 ·cases q:X.s₀.heap.get? b with
  |none=>rfl
  |some o =>
   obtain⟨o',e⟩:=I.base.there b o q (by rw[hx];exactλz=>nomatch z);exact absurd rfl (al e)
 ·obtain⟨v,o,e,_⟩:=I.cell x c e;exact al e
theorem zbQ  (hx:X.ex=[])(T:JU X E):Yc0 (lj X.prog X.w) X E:=by
 intro pins σ H s e s' I h;obtain⟨x,C,t,tb,H',rfl,os,bare,un,aL,e1,e2,e3,e4,e5,q⟩:=h;have I':Inv X pins σ H' s':=I.rl (ch:=[]) os un aL bare λb z=>nomatch z;exact T pins σ H' s' x C t tb I' e1 e2 (Og I hx e4 e3) (λT' z=>Og I hx (e5 T' z).2 (e5 T' z).1) q
theorem YbP       (ok:fB P w H h)(n:mH fs x tb h h')(hf:∀ b∈fs,H b=none)(hx:H x=none)(ht:∀ T,tb=.ref T->H T=none):fB P w H h':=λb u e=>by
 have go:∀ c v,H c≠none->h.get? c=some v->h'.get? c=some v:=λc v hc q=>n.keep c v (λz=>hc (hf c z)) (λz=>hc (z ▸ hx)) (λz=>hc (ht c z.symm)) q;refine(ok b u e).jw (λc v hc q=>go c v ?_ q) (λ_ q=>q) λ_ _ q=>q
 rcases hc with z|z
 ·rw[z,e];exactλz=>nomatch z
 ·rw[z];exactλz=>nomatch z
theorem LO       (n:mH fs x tb h h')(h1:b≠x)(h2:ka b≠tb)(e:h.get? b=some o):∃ sl,h'.get? b=some {o with slots:=sl}:=by
 by_cases z:b∈fs
 ·exact n.slot b o z h1 h2 e
 ·exact⟨o.slots,n.keep b o z h1 h2 e⟩
theorem Zb1      (u:Un fs ex H0 H h0 h)(n:mH Iq x tb h h')(hx:h0.get? x=none)(ht:∀ T,tb=.ref T->h0.get? T=none)(hs:∀ b o,h0.get? b=some o->b∉fs->b∉Iq):Un fs ex H0 H h0 h':=by
 have ne:∀ b o,h0.get? b=some o->b≠x/\ka b≠tb:=λb o e=>⟨λz=>(by rw[z,hx] at e;cases e),λz=>(by rw[ht b z.symm] at e;cases e)⟩;refine⟨λb o e q hb kK=>n.keep b o (hs b o e hb) (ne b o e).1 (ne b o e).2 (u.keep b o e q hb kK),λb o e q hb kK=>?_,u.free,λb o e kK=>?_,u.jY,u.jG,u.j0⟩
 ·obtain⟨sl,z⟩:=u.slot b o e q hb kK;obtain⟨tN,z'⟩:=LO n (ne b o e).1 (ne b o e).2 z;exact⟨tN,z'⟩
 ·obtain⟨o',z⟩:=u.there b o e kK;obtain⟨tN,z'⟩:=LO n (ne b o e).1 (ne b o e).2 z;exact⟨_,z'⟩
theorem QbY(I:Inv X pins σ H s)   (e:X.s₀.heap.get? b=some o)(hb:b∉X.fs):b∉mS X.stack:=λz=>by
 rcases Xa.mp (I.iF b z) with y|y
 ·exact absurd (Xd (ua e) I.ok.above) (by rw[y];exact ui _)
 ·exact hb y
end
theorem Le{P:ak}{w:World}{K:Jc}{mg:Str->Option Value}{base:Heap}{N:List Str}{qual:Str}{scope:az}{f:ae}{cd:Value}{A:Around}{outer:List Env}{s0:Shared}{H0:Hp}{E:XK} :
  JU (mY (lj P w) P w K mg base N qual scope f cd A outer s0 H0 E) E:=by
 intro pins σ H s x C t tb I e1 e2 fx ft q;refine QbR (env:=eO qual scope s0.heap.objs.size f cd) (outer:=outer) (L:=s0.heap.objs.size) I.ok.frames I.stack rfl e1 e2 λh' T n g1 g2 g3=>?_;refine⟨x,C,t,.ref T,H,rfl,I.os,I.bare,Zb1 I.base n fx.new (λT z=>(ft T z).new) λb o e hb=>QbY I e hb,YbP I.aL n I.kS fx.un λT z=>(ft T z).un,g1,g2,fx.un,fx.new,λT' z=>?_,q⟩;cases z;exact⟨I.aL.fresh g3,WE (Wf I.sz g3)⟩
theorem zcF{P:ak}{w:World}{K:Jc}{mg:Str->Option Value}{base:Heap}{N:List Str}{qual:Str}{scope:az}{f:ae}{cd:Value}{A:Around}{outer:List Env}{s0:Shared}{H0:Hp}{E:XK}{CX:mJ} :
  f' (ah P w) (mY CX P w K mg base N qual scope f cd A outer s0 H0 E).A (mY CX P w K mg base N qual scope f cd A outer s0 H0 E).env (mY CX P w K mg base N qual scope f cd A outer s0 H0 E).xe:=f'.leaving
abbrev bmV:List Value:=[.type "ValueError",.type "Exception",.type "BaseException",.type "object"]
noncomputable def nN(K:Jc)(C:ae):Prop:=PySem.W.excIn K C bmV "ValueError.__new__"=true
noncomputable def EF(K:Jc)(C:ae):List Value:=match K.lookup C with
 |some ⟨_,_,.cls cd,_⟩=>cd.mro.tail
 |_=>[]
structure CG (K:Jc) (C:ae):Prop where
 q:nN K C
 ga:Ud K (.ref C) "__getattribute__"=some (some (.builtin "BaseException.__getattribute__"))
 gt:Ud K (.ref C) "__getattr__"=some none
 cl:Ud K (.ref C) "__class__"=some (some (.builtin "object.__class__"))
 gn:Us K (.builtin "object.__class__") "__get__"=some (some (.builtin "getset_descriptor.__get__"))
 tk:Vu K (.builtin "object.__class__")=some true
 mo:uA K C (.type "object")=some true
 ci:(vt K C).isSome=true
section
variable {X:Cx} {pins pl:List (ae×Obj)} {σ σ0:L2.St} {H:Hp} {s:Shared} {E:XK}
noncomputable def Zu(CX:mJ)(X:Cx)(σ:L2.St)(E:XK):Prop:=∀(pins:List (ae×Obj)) (H:Hp) (s:Shared) (e:Value) (s':Shared),Inv X pins σ H s->CX X.stack H s E e s'->X.xe e s'
end
section
variable {X:Cx} {CX:mJ} {k:Nat} {f C:ae} {fd:bF} {ps:List Str} {sp:Sp} {dvs:List V} {ds:List Value} {E:XK} {x m:Str} {p pos apos:Pos} {e o:Expr} {es:List Expr} {ta:TE} {t:TA} {σ0:L2.St}
theorem JA       (F:fL X.prog X.w X.K X.mg X.base CX k f fd ps sp)(hr:dz k X.A)(hb:Binds X.K fd ps ds)(hd:Vals dvs ds)(hx:Zu CX X σ0 E)
  (I:Inv X pins σ0 H s) (r:Vals vs us) (h:sp (vs++dvs) H Q E):ag (ah X.prog X.w) X.A (call (.ref f) us) (EP X pins σ0 Q) X.xe s:=by
 have r2:Vals (vs++dvs) (us++ds):=r.append hd;have hl:(us++ds).length=ps.length:=by rw[<- r2.length];exact F.len _ _ _ _ h
 refine fi (cO (F.run X.A X.stack s H ⟨us,[]⟩ (us++ds) (vs++dvs) Q E hr I.BM (hb s us I.iB hl) r2 h) λr s' hq=>?_);cases r with
 |error e=>exact hx pins H s e s' I hq
 |ok fl =>
  cases fl with
  |ret u=>exact I.after hq
  |next=>exact Hg hq
  |brk=>exact Hg hq
  |cont=>exact Hg hq
noncomputable def Ox(σ0:L2.St)(sp:Sp)(dvs:List V)(E:XK)(t:TA):TE:=λσ H Q=>σ=σ0/\t σ H λvs H1=>sp (vs++dvs) H1 Q E
theorem Qcb(F:fL X.prog X.w X.K X.mg X.base CX k f fd ps sp)(hr:dz k X.A)(hg:Gl X x)(hm:X.mg x=some (.ref f))(hk:Wg X.K (.ref f)=true)(hb:Binds X.K fd ps ds)(hd:Vals dvs ds)(hx:Zu CX X σ0 E)
  (ha:PA X (e::es) t) (lZ:(x==("__debug__":Str))=false:=by decide) (he:ao (e::es) X.env=(false,eval e X.env)::ao es X.env:=by rfl) (bZ:(bf pos (ao es X.env)).any (·.1)=false:=by rfl) :
  PE X (.Call (.Name x p) (e::es) [] pos) (Ox σ0 sp dvs E t):=by
 intro pins s σ H Q I h;obtain(⟨rfl,h⟩):=h;refine aN (EH I hg hm ?_ lZ);refine wA (h₀:=X.base) I.ok.mod.AW hk (bc (ha pos pins s σ H _ I h) λus s1 ⟨vs,H1,I1,r,q⟩=>⟨I1.iB,?_⟩) he bZ;exact JA F hr hb hd hx I1 r q
theorem YbY       (M:Mk X.K C f)(F:fL X.prog X.w X.K X.mg X.base CX k f fd ps sp)(hr:dz (k+1) X.A)(hb:Binds X.K fd ps ds)(hd:Vals dvs ds)
  (hx:Zu CX X σ0 E) (I:Inv X pins σ0 H s) (r:Vals vs us)
  (h:∀ x dx,H x=none->H dx=none->dx≠x->sp (.ref x::(vs++dvs)) (upd (upd H dx (.own x)) x (.ins C dx [])) (λv H2=>v=.bG/\Q (.ref x) H2) E) :
  ag (ah X.prog X.w) X.A (call (.ref C) us) (EP X pins σ0 Q) X.xe s:=by
 have hq:=h (s.heap.objs.size+1) s.heap.objs.size (I.aL.fresh (vz _)) (I.aL.fresh (Ua _)) (Ub (Wi _));have I2:=Inv.made (C:=C) I;have r2:Vals (V.ref (s.heap.objs.size+1)::(vs++dvs)) (ka (s.heap.objs.size+1)::(us++ds)):=.cons rfl (r.append hd);have hl:(ka (s.heap.objs.size+1)::us++ds).length=ps.length:=by
  have e:=r2.length;rw[F.len _ _ _ _ hq] at e;exact e.symm
 refine fi (Zcd (f:=f) I.iB M.makes M.init (beq_iff_eq.mp M.fn) (cO (F.run _ X.stack _ _ ⟨ka (s.heap.objs.size+1)::us,[]⟩ (ka (s.heap.objs.size+1)::(us++ds)) _ _ E (hr.make C us [])
  (I2.BM.make C us []) (hb _ (ka (s.heap.objs.size+1)::us) I2.iB hl) r2 hq) λr s' Bp=>?_))
 cases r with
 |error e=>exact hx pins _ _ e s' I2 Bp
 |ok fl =>
  cases fl with
  |ret u =>
   obtain⟨v,H',I3,rv,ev,q3⟩:=I2.after Bp;subst ev;exact⟨rv,⟨V.ref (s.heap.objs.size+1),H',I3,rfl,q3⟩⟩
  |next=>exact Hg Bp
  |brk=>exact Hg Bp
  |cont=>exact Hg Bp
noncomputable def P0(σ0:L2.St)(C:ae)(sp:Sp)(dvs:List V)(E:XK)(t:TA):TE:=λσ H Q=>σ=σ0/\t σ H λvs H1=>∀ x dx,H1 x=none->H1 dx=none->dx≠x ->
 sp (.ref x::(vs++dvs)) (upd (upd H1 dx (.own x)) x (.ins C dx [])) (λv H2=>v=.bG/\Q (.ref x) H2) E
theorem Qb1(M:Mk X.K C f)(F:fL X.prog X.w X.K X.mg X.base CX k f fd ps sp)(hr:dz (k+1) X.A)(hg:Gl X x)(hm:X.mg x=some (.ref C))(hb:Binds X.K fd ps ds)(hd:Vals dvs ds)(hx:Zu CX X σ0 E)
  (ha:PA X (e::es) t) (lZ:(x==("__debug__":Str))=false:=by decide) (he:ao (e::es) X.env=(false,eval e X.env)::ao es X.env:=by rfl) (bZ:(bf pos (ao es X.env)).any (·.1)=false:=by rfl) :
  PE X (.Call (.Name x p) (e::es) [] pos) (P0 σ0 C sp dvs E t):=by
 intro pins s σ H Q I h;obtain(⟨rfl,h⟩):=h;refine aN (EH I hg hm ?_ lZ);refine wA (h₀:=X.base) I.ok.mod.AW M.kp (bc (ha pos pins s σ H _ I h) λus s1 ⟨vs,H1,I1,r,q⟩=>⟨I1.iB,?_⟩) he bZ;exact YbY M F hr hb hd hx I1 r q
end
structure pH (K:Jc) (x qual:Str) (st:Stmt) (f:ae) (fd:bF):Prop where
 ex:∃(oc:Value)(od:Option ae)(dV kV doc pm:Value)(an:Option ae)(dF ct:Value) (j9:Array (Option Value)),
  fd=ug x qual (Zl st) (qh st) (Yc st) dV kV doc pm an dF ct/\K.lookup f=some ⟨oc,od,.func fd,j9⟩/\Xl K dF qual=true
 kp:Wg K (.ref f)=true
theorem Zcz{K:Jc}{x qual:Str}{st:Stmt}{f:ae}{oc:Value}{od an:Option ae}{j9:Array (Option Value)}{dV kV doc pm dF ct:Value}(l:K.lookup f=some ⟨oc,od,.func (ug x qual (Zl st) (qh st) (Yc st) dV kV doc pm an dF ct),j9⟩)
  (c:Xl K dF qual=true) (k:Wg K (.ref f)=true):pH K x qual st f (ug x qual (Zl st) (qh st) (Yc st) dV kV doc pm an dF ct):=⟨⟨oc,od,dV,kV,doc,pm,an,dF,ct,j9,rfl,l,c⟩,k⟩
structure Cr (k:Nat) (A:Around) (x:ae):Prop where
 hd:A.handled=some (.ref x)
 dp:A.depth+3*k+5<bQ
 un:A.units+16*k+200<cT
structure CF (P:ak) (w:World) (K:Jc) (mg:Str->Option Value) (base:Heap) (k:Nat) (f:ae) (fd:bF) (ps:List Str) (sp:ae->ae->Sp):Prop where
 len:∀ x C vs H Q E,sp x C vs H Q E->vs.length=ps.length
 run:∀(x C t T:ae)(A:Around)(outer:List Env)(s:Shared)(H:Hp) (args:Args) (us:List Value) (vs:List V) (Q:VK),Cr k A x->lU P w K mg base A outer s H->s.heap.get? x=some (pD C t (.ref T))->H x=none->iA s fd args (ps.zip us)->Vals vs us->sp x C vs H Q E0 ->
  bI (ah P w) A (.call (.ref f) args) (CR CX0 outer P w H s Q E0) s
theorem qQ{prog:ak}{w:World}{A:Around}(hh:A.handled=none)(b:Bool)(I ax:ae)(jV:ax≠I)(items:Array Value) :
  mG prog w A I [I,ax] [I] items.size (λi v=>items[i]?=some v) (λi h=>cU h b I ax i/\bV h b ax items):=by
 cases b with
 |false=>exact mG.list hh I ax jV items
 |true =>
  exact{
   sub:=λb hb=>by simp at hb;simp[hb]
   frame:=λ_ _ _ st hk=>⟨st.1.keeps λo e=>hk I (by simp) o e,st.2.keeps λo e=>hk ax (by simp) o e⟩
   item:=λi s Q E hi st hQ=>by
    refine eT (show s.heap.IsTupleIter I ax i from st.1) (show s.heap.IsTuple ax items from st.2) (x:=items[i]) (by simp[hi]) λh' a sb=>?_;exact hQ _ h' s.toks (by simp[hi]) ⟨a,st.2.keeps λo e=>sb.extBut ax o jV e⟩ λb o hb e=>sb.extBut b o (λz=>hb (by simp[z])) e
   done:=λs Q E st hQ=>eY hh (show s.heap.IsTupleIter I ax items.size from st.1) (show s.heap.IsTuple ax items from st.2) (by simp) λh' he=>hQ h' s.toks λb o hb e=>he b o (λz=>hb (by simp[z])) e
   self:=λ_ _ _ _ st hQ=>fg (show Heap.IsTupleIter _ I ax _ from st.1) hQ}
theorem ZE{ns:List Int}{us:List Value}(r:Vals (ns.map V.int) us){i:Nat}{v:Value}(h:us.toArray[i]?=some v):∃ t,v=.int (ns.getD i 0) t:=by
 have h':us[i]?=some v:=by simpa using h
 have lt:i<us.length:=(xa.mp h').1;have hl:=r.length;rw[Wc] at hl;obtain⟨u,hu,ru⟩:=r.get (i:=i) (x:=.int (ns.getD i 0)) (by rw[Wb,va (by lia),Uf,va (by lia)];rfl);rw[hu] at h';cases h';exact ru
theorem ZcE{bs:List Bool}{us:List Value}(r:Vals (bs.map V.bl) us){i:Nat}{v:Value}(h:us.toArray[i]?=some v):v=.bool (bs.getD i true):=by
 have h':us[i]?=some v:=by simpa using h
 have lt:i<us.length:=(xa.mp h').1;have hl:=r.length;rw[Wc] at hl;obtain⟨u,hu,ru⟩:=r.get (i:=i) (x:=.bl (bs.getD i true)) (by rw[Wb,va (by lia),Uf,va (by lia)];rfl);rw[hu] at h';cases h';exact ru
theorem P9(ns:List Int):∀ k,k<=ns.length->l4 (λi=>ns.getD i 0) k=(ns.take k).sum
 |0,_=>by simp[l4]
 |k+1,h=>by
  have e:ns.take (k+1)=ns.take k++[ns.getD k 0]:=by
   rw[List.take_succ_eq_append_getElem (by lia),Uf,va (by lia)];rfl
  show l4 (λi=>ns.getD i 0) k+ns.getD k 0=_;rw[P9 ns k (by lia),e,Gm,Um,List.sum_nil,Int.add_zero]
theorem zcf(bs:List Bool):(uc bs.length).all (λi=>bs.getD i true)=bs.all id:=by
 rw[Bool.eq_iff_iff,uo,uo];constructor
 ·intro h x hx;obtain⟨i,hi,e⟩:=xu hx;have:=h i (Xj.mpr hi);rw[Uf,va hi] at this;rw[<- e];exact this
 ·intro h i hi;rw[Uf,va (Xj.mp hi)];exact h _ (vk _)
theorem JG(val:Nat->Int)(bt:Nat->Nat->Bool)(hb:∀ i j,bt i j=decide (val i<val j)):∀ k,eE bt k<=k/\∀ j,j<=k->val (eE bt k)<=val j
 |0=>⟨Ua _,λj hj=>by
  have:j=0:=by lia
  subst this;exact Vz _⟩
 |k+1=>by
  obtain⟨h1,h2⟩:=JG val bt hb k;show(if bt (k+1) (eE bt k) then k+1 else eE bt k)<=k+1/\∀ j,j<=k+1->val (if bt (k+1) (eE bt k) then k+1 else eE bt k)<=val j;rw[hb];by_cases c:val (k+1)<val (eE bt k)
  ·simp only[c,decide_true,if_true];refine⟨Ua _,λj hj=>?_⟩;by_cases e:j=k+1
   ·rw[e];exact Vz _
   ·have:=h2 j (by lia);lia
  ·simp only[c,decide_false,Uk,if_false];refine⟨by lia,λj hj=>?_⟩;by_cases e:j=k+1
   ·rw[e];lia
   ·exact h2 j (by lia)
theorem Qcq(val:Nat->Int)(bt:Nat->Nat->Bool)(hb:∀ i j,bt i j=decide (val j<val i)):∀ k,eE bt k<=k/\∀ j,j<=k->val j<=val (eE bt k):=λk=>by
 have h:=JG (λi=>- val i) bt (λi j=>by rw[hb];congr 1;apply propext;constructor <;> intro h <;> lia) k;exact⟨h.1,λj hj=>by have:=h.2 j hj;lia⟩
section
variable {X:Cx}
noncomputable def xP(K:Jc):List V->Hp->VK->Prop:=λxs H Q=>∃(b:Bool)(a:ae)(ns:List Int),xs=[.ref a]/\fS K H b a (ns.map V.int)/\Q (.int ns.sum) H
noncomputable def xW(K:Jc):List V->Hp->VK->Prop:=λxs H Q=>∃(b:Bool)(a:ae)(bs:List Bool),xs=[.ref a]/\fS K H b a (bs.map V.bl)/\Q (.bl (bs.all id)) H
noncomputable def xS(K:Jc):List V->Hp->VK->Prop:=λxs H Q=>∃(b:Bool)(a:ae)(ns:List Int),xs=[.ref a]/\fS K H b a (ns.map V.int)/\ns≠[]/\∀ m,m∈ns->(∀ k∈ns,m<=k)->Q (.int m) H
noncomputable def xT(K:Jc):List V->Hp->VK->Prop:=λxs H Q=>∃(b:Bool)(a:ae)(ns:List Int),xs=[.ref a]/\fS K H b a (ns.map V.int)/\ns≠[]/\∀ m,m∈ns->(∀ k∈ns,k<=m)->Q (.int m) H
theorem YM{a:ae}{us:List Value}(r:Vals [V.ref a] us):us=[ka a]:=by
 cases r with
 |cons r rr =>
  cases rr;obtain rfl:_=ka a:=r;rfl
theorem F'{s:Shared}{a:ae}(h:a<s.heap.objs.size)(o:Obj):∀ b∈[s.heap.objs.size,a],b<(s.heap.push o).objs.size:=λb hb=>by
 rw[vg];simp only[Xa,Vc,or_false] at hb
 rcases hb with e|e
 ·rw[e];exact Wi _
 ·rw[e];exact wq h
theorem qca(hc:X.calm=true):aH X (.builtin "sum") (xP X.K):=by
 intro pins s σ H xs us Q I r h;obtain⟨b,a,ns,rfl,hq,q⟩:=h;obtain rfl:=YM r;obtain⟨av,v,p,_⟩:=Yl I hq;have lt:=p.lt;refine call_sum_walkG (Zi p ⟨s.heap.objs.size,[s.heap.objs.size,a],[s.heap.objs.size],av.toArray.size,_,_,λi=>ns.getD i 0,rfl,qQ (Qh (I.ok.hd hc)) b _ a (Ub lt) av.toArray,⟨.new (wb _ rfl),p.keeps λo e=>wa _ e⟩,F' lt _,λi u hu=>ZE v hu,λh' tk t' k=>?_⟩);have hl:=v.length;rw[Wc] at hl;have e:l4 (λi=>ns.getD i 0) av.toArray.size=ns.sum:=by rw[wc,<- hl,P9 ns _ (Ua _),Uo]
 rw[e];exact⟨.int ns.sum,H,I.kept (t':=tk) (λc o e=>k c o (λz=>absurd (ua e) (by simp at z;rw[z];exact ui _)) (wa _ e)),⟨t',rfl⟩,q⟩
theorem zb9(hc:X.calm=true):aH X (.builtin "all") (xW X.K):=by
 intro pins s σ H xs us Q I r h;obtain⟨b,a,bs,rfl,hq,q⟩:=h;obtain rfl:=YM r;obtain⟨av,v,p,_⟩:=Yl I hq;have lt:=p.lt;refine call_all_walk (Zi p ⟨s.heap.objs.size,[s.heap.objs.size,a],[s.heap.objs.size],av.toArray.size,_,_,λi=>bs.getD i true,rfl,qQ (Qh (I.ok.hd hc)) b _ a (Ub lt) av.toArray,⟨.new (wb _ rfl),p.keeps λo e=>wa _ e⟩,λi u s' Q' E' hu hQ=>?_,λh' tk k=>?_⟩)
 ·rw[ZcE v hu];exact aD hQ
 have hl:=v.length;rw[Wc] at hl;rw[wc,<- hl,zcf];exact⟨.bl _,H,I.kept (t':=tk) (λc o e=>k c o (λz=>absurd (ua e) (by simp at z;rw[z];exact ui _)) (wa _ e)),rfl,q⟩
theorem Of{ns:List Int}{i:Nat}(h:i<ns.length):ns.getD i 0∈ns:=by
 rw[Uf,va h];exact vk _
theorem M4{ns:List Int}{k:Int}(h:k∈ns):∃ i,i<ns.length/\ns.getD i 0=k:=by
 obtain⟨i,hi,e⟩:=xu h;exact⟨i,hi,by rw[Uf,va hi];exact e⟩
theorem YbU(hc:X.calm=true):aH X (.builtin "min") (xS X.K):=by
 intro pins s σ H xs us Q I r h;obtain⟨b,a,ns,rfl,hq,ne,q⟩:=h;obtain rfl:=YM r;obtain⟨av,v,p,_⟩:=Yl I hq;have lt:=p.lt;have hl:=v.length;rw[Wc] at hl;have pos:0<ns.length:=Xr.mpr ne;refine call_min_walk (Zi p ⟨s.heap.objs.size,[s.heap.objs.size,a],[s.heap.objs.size],av.toArray.size,_,_,λi j=>decide (ns.getD i 0<ns.getD j 0),rfl,qQ (Qh (I.ok.hd hc)) b _ a (Ub lt) av.toArray,⟨.new (wb _ rfl),p.keeps λo e=>wa _ e⟩,F' lt _,by simp;lia,λi j vi vj s' Q' E' hi hj hQ=>?_,λu h' tk hu k=>?_⟩)
 ·obtain⟨t1,rfl⟩:=ZE v hi;obtain⟨t2,rfl⟩:=ZE v hj;exact lt_int hQ
 obtain⟨t,rfl⟩:=ZE v hu;obtain⟨b1,b2⟩:=JG (λi=>ns.getD i 0) _ (λ_ _=>rfl) (av.toArray.size-1);rw[wc] at b1 b2 ⊢;refine⟨.int _,H,I.kept (t':=tk) (λc o e=>k c o (λz=>absurd (ua e) (by simp at z;rw[z];exact ui _)) (wa _ e)),⟨t,rfl⟩,q _ (Of (by lia)) λm hm=>?_⟩;obtain⟨i,hi,e⟩:=M4 hm;rw[<- e];exact b2 i (by lia)
theorem qbS(hc:X.calm=true):aH X (.builtin "max") (xT X.K):=by
 intro pins s σ H xs us Q I r h;obtain⟨b,a,ns,rfl,hq,ne,q⟩:=h;obtain rfl:=YM r;obtain⟨av,v,p,_⟩:=Yl I hq;have lt:=p.lt;have hl:=v.length;rw[Wc] at hl;have pos:0<ns.length:=Xr.mpr ne;refine call_max_walk (Zi p ⟨s.heap.objs.size,[s.heap.objs.size,a],[s.heap.objs.size],av.toArray.size,_,_,λi j=>decide (ns.getD j 0<ns.getD i 0),rfl,qQ (Qh (I.ok.hd hc)) b _ a (Ub lt) av.toArray,⟨.new (wb _ rfl),p.keeps λo e=>wa _ e⟩,F' lt _,by simp;lia,λi j vi vj s' Q' E' hi hj hQ=>?_,λu h' tk hu k=>?_⟩)
 ·obtain⟨t1,rfl⟩:=ZE v hi;obtain⟨t2,rfl⟩:=ZE v hj;exact gt_int hQ
 obtain⟨t,rfl⟩:=ZE v hu;obtain⟨b1,b2⟩:=Qcq (λi=>ns.getD i 0) _ (λ_ _=>rfl) (av.toArray.size-1);rw[wc] at b1 b2 ⊢;refine⟨.int _,H,I.kept (t':=tk) (λc o e=>k c o (λz=>absurd (ua e) (by simp at z;rw[z];exact ui _)) (wa _ e)),⟨t,rfl⟩,q _ (Of (by lia)) λm hm=>?_⟩;obtain⟨i,hi,e⟩:=M4 hm;rw[<- e];exact b2 i (by lia)
noncomputable def sO:V->Option Value
 |.ty n=>some (.type n)
 |.ref a=>some (.ref a)
 |_=>none
theorem Zcm   (h:sO x=some c)(r:RelV x u):u=c:=by
 cases x with
 |ty n=>cases h;exact r
 |ref a=>cases h;exact r
 |_=>cases h
noncomputable def Mr(K:Jc):List V->Hp->VK->Prop:=λxs H Q=>∃ x cv t c b,xs=[x,cv]/\sO cv=some c/\gY K H x t/\uf K t c=some b/\Q (.bl b) H
theorem ZcC:aH X (.builtin "isinstance") (Mr X.K):=by
 intro pins s σ H xs us Q I r h;obtain⟨x,cv,t,c,b,rfl,e,ty,k,q⟩:=h;cases r with
 |cons r rr =>
  cases rr with
  |cons r' rr =>
   cases rr;have:=Zcm e r';subst this;exact zbW I r ty k λtk=>⟨.bl b,H,I.tok tk,rfl,q⟩
end
noncomputable def Ir(C x:ae):Heap->Prop:=λh=>∃ t T,h.get? x=some (pD C t (.ref T))
section
variable {X:Cx}
theorem Zcx     (r:(ze P w).is k u=true):RelV (kV k) u:=by
 rcases Qj (show sZ k u=true from r) with ⟨i,t,rfl,rfl⟩|⟨x,t,rfl,rfl⟩
 ·exact⟨t,rfl⟩
 ·exact⟨t,rfl⟩
theorem Lc  :∀(kvs:List (Key×V)) (us:List Value),us.length=kvs.length->(∀(j:Nat)(v:Value),us[j]?=some v->∃ kv:Key×V,kvs[j]?=some kv/\(ze P w).is kv.1 v=true)->Vals (kvs.map λkv=>kV kv.1) us
 |[],[],_,_=>.nil
 |[],_::_,e,_=>by simp at e
 |_::_,[],e,_=>by simp at e
 |kv::kvs,u::us,e,h=>by
  obtain⟨kv',e',r⟩:=h 0 u rfl;cases e';exact .cons (Zcx r) (Lc kvs us (by simpa using e) λj v ev=>h (j+1) v ev)
noncomputable def Yc4:List V->Hp->VK->Prop:=λxs H Q=>∃ a kvs,xs=[.ref a]/\H a=some (.dK kvs)/\∀ l,H l=none->Q (.ref l) (upd H l (.lst (kvs.map λkv=>kV kv.1)))
theorem Zbz(hc:X.calm=true):aH X (.type "list") Yc4:=by
 intro pins s σ H xs us Q I r h;obtain⟨a,kvs,rfl,hq,q⟩:=h;obtain rfl:=YM r;obtain⟨z,hd,vs,rel,dd⟩:=JR I.aL hq;obtain⟨o,es,ep,h1,h2,h3,h4⟩:=id dd;have da:s.heap.DictAt (ze X.prog X.w) a vs ep:=⟨o,es,h1,h2,h3,h4⟩;refine PySem.W.kdl_call (PySem.W.kdl_dict hd) (I.ok.hd hc) da (by rw[<- rel.length];exact z) λh' tk acc c keep HJ items=>?_;have hl:=rel.length;refine⟨.ref s.heap.objs.size,_,I.laid (t':=tk) keep (Ua _) (show ba X.prog X.w _ h' _ (.lst (kvs.map λkv=>kV kv.1)) from⟨by rw[Wc];exact z,acc.toList,c,?_,by simpa using HJ⟩),rfl,q _ (I.aL.fresh (Ua _))⟩;refine Lc (P:=X.prog) (w:=X.w) kvs acc.toList (by rw[wm,items.1];exact hl.symm) λj v e=>?_;obtain⟨k,x,e1,e2⟩:=items.2 j v (by rw[<- Array.getElem?_toList];exact e);have hk:=rel.keys;have e3:(kvs.map (·.1))[j]?=some k:=by rw[hk,Wb,e1];rfl
 rw[Wb] at e3;cases e4:kvs[j]? with
 |none=>rw[e4] at e3;cases e3
 |some kv=>rw[e4] at e3;cases e3;exact⟨kv,rfl,e2⟩
theorem Om:∀{ns:List Int}{us:List Value},Vals (ns.map V.int) us->gr us ns
 |[],_,r=>by cases r;exact .nil
 |n::ns,_,r=>by
  rw[xb] at r;cases r with
  |cons h t=>obtain⟨t',rfl⟩:=(show ∃ t,_=ja n t from h);exact .cons n t' (Om t)
theorem PV:∀{ns:List Int}{us:List Value},gr us ns->Vals (ns.map V.int) us
 |_,_,.nil=>.nil
 |_,_,.cons n t h=>.cons ⟨t,rfl⟩ (PV h)
noncomputable def ycD(K:Jc):List V->Hp->VK->Prop:=λxs H Q=>∃(a:ae)(ns:List Int),xs=[.ref a]/\fK K H a (ns.map V.int)/\ns.length<64/\∀ nZ:List Int,nZ.Perm ns->nZ.Pairwise (·<=·)->∀ l,H l=none->Q (.ref l) (upd H l (.lst (nZ.map V.int)))
theorem zbe:aH X (.builtin "sorted") (ycD X.K):=by
 intro pins s σ H xs us Q I r h;obtain⟨a,ns,rfl,hq,h64,q⟩:=h;obtain rfl:=YM r;obtain⟨av,v,pl,hz⟩:=I.list hq;have hl:=v.length;rw[Wc] at hl;obtain⟨o,ho,kM,n,hd⟩:=pl.isList;refine sorted_ints (vs:=av) (ns:=ns) ⟨o,ho,kM,n,hd⟩ (Om v) (by lia) λout nZ hi hp ho=>?_;obtain⟨e,he⟩:=sortedAll_at s.heap av out;have hlp:=hp.length_eq;refine⟨.ref (s.heap.objs.size+1),_,I.laid (t':=s.toks) (λb u e=>sortedAll_old e) (vz _) (show ba X.prog X.w _ _ _ (.lst (nZ.map V.int)) from⟨by rw[Wc,df];lia,out.toList,e,PV hi,by simpa[gR] using he⟩),rfl,q nZ hp ho _ (I.aL.fresh (vz _))⟩
end
noncomputable def Src(K:Jc)(mg:Str->Option Value)(x:Str)(st:Stmt)(ps:List Str):Prop:=∃ f fd,pH K x x st f fd/\Binds K fd ps []/\mg x=some (.ref f)
noncomputable def Cu(P:ak)(w:World)(K:Jc)(mg:Str->Option Value)(base:Heap)(x:Str)(k:Nat)(ps:List Str)(sp:Sp):Prop :=
 ∃ f fd,fL P w K mg base (lj P w) k f fd ps sp/\Binds K fd ps []/\Wg K (.ref f)=true/\mg x=some (.ref f)
section
variable {P:ak} {w:World} {K:Jc} {mg:Str->Option Value} {base:Heap} {x:Str} {ps:List Str} {sp:Sp}
noncomputable abbrev cxD(P:ak)(w:World)(K:Jc)(mg:Str->Option Value)(base:Heap)(N:List Str)(x:Str)(st:Stmt)(f:ae)(cd:Value)(A:Around)(outer:List Env)(s:Shared)(H:Hp)(E:XK):Cx :=
 mY (lj P w) P w K mg base N x (Yc st) f cd A outer s H E
theorem QcV{st:Stmt}{N:List Str}{k:Nat}(S:Src K mg x st ps)(sc:iz N ps (Yc st))(len:∀ vs H Q E,sp vs H Q E->vs.length=ps.length)
  (lK:∀(f:ae)(dF:Value)(A:Around)(outer:List Env)(s:Shared) (H:Hp) (vs:List V) (Q:VK) (E:XK),dz k (A.deeper (eO x (Yc st) s.heap.objs.size f dF))->sp vs H Q E ->
   ∃ t,iu (cxD P w K mg base N x st f dF A outer s H E) (qh st) t/\t {nx:=λ_ H'=>Q .bG H',rt:=Q} (start N vs) H):Cu P w K mg base x (k+1) ps sp:=by
 obtain⟨f,fd,F,b,m⟩:=S;refine⟨f,fd,?_,b,F.kp,m⟩;obtain⟨oc,od,dV,kV,doc,pm,an,dF,ct,j9,rfl,lk,ky⟩:=F.ex;exact EG lk ky sc len λA outer s H vs Q E hr lX=>lK f dF A outer s H vs Q E hr lX
end
section
variable {X:Cx} {k:Nat} {ps:List Str} {sp:Sp} {E:XK} {x:Str} {p pos:Pos} {e:Expr} {es:List Expr} {t:TA} {σ0:L2.St}
theorem qbP(d:Cu X.prog X.w X.K X.mg X.base x k ps sp)(hr:dz k X.A)(hg:Gl X x)(hx:Zu (lj X.prog X.w) X σ0 E)(ha:PA X (e::es) t)(lZ:(x==("__debug__":Str))=false:=by decide)
  (he:ao (e::es) X.env=(false,eval e X.env)::ao es X.env:=by rfl) (bZ:(bf pos (ao es X.env)).any (·.1)=false:=by rfl):PE X (.Call (.Name x p) (e::es) [] pos) (Ox σ0 sp [] E t):=by
 obtain⟨f,fd,F,b,kp,m⟩:=d;exact Qcb F hr hg m kp b .nil hx ha lZ he bZ
end
section
variable {X:Cx} {tg:Expr}
noncomputable def nP(K:Jc)(b:Bool)(a:ae):It:=if b=true then Rp K a else Rq K a
noncomputable def Nu(K:Jc)(tl:TE):TI:=λσ H R=>tl σ H λx H1=>∃ b a,x=.ref a/\(∃ xs,fS K H1 b a xs)/\R (nP K b a) H1
theorem Ai   (hl:PE X l tl):PI X tg l (Nu X.K tl):=by
 intro pins s σ H R I h;refine bc (hl pins s σ H _ I h) λv s1 ⟨x,H1,I1,r1,q1⟩=>?_;obtain⟨b,a,e,⟨xs,hq⟩,q⟩:=q1;subst e;cases r1;cases b with
 |false =>
  obtain⟨av,rv,p,hz⟩:=I1.list (show fK X.K H1 a xs from hq);refine eu p.isList ?_;refine⟨s1.heap.objs.size,[s1.heap.objs.size],_,_,H1,rfl,I1.kept (t':=s1.toks) λb o e=>wa _ e,ZbQ a _,⟨_,wb _ rfl,rfl,rfl⟩,λb hb=>?_,q⟩;obtain rfl:=vc.mp hb;exact I1.iY (Ua _) (I1.aL.fresh (Ua _))
 |true =>
  obtain⟨av,rv,p,hz⟩:=I1.tuple (show gA X.K H1 a xs from hq);refine gL (show s1.heap.IsTuple a av.toArray from p) ?_;refine⟨s1.heap.objs.size,[s1.heap.objs.size],_,_,H1,rfl,I1.kept (t':=s1.toks) λb o e=>wa _ e,zbx a _,⟨_,wb _ rfl,rfl,rfl⟩,λb hb=>?_,q⟩;obtain rfl:=vc.mp hb;exact I1.iY (Ua _) (I1.aL.fresh (Ua _))
end
theorem nP.go{K:Jc}{b:Bool}{a:ae}{i:Nat}{H:Hp}{xs:List V}(h:fS K H b a xs)(hi:i<xs.length):(nP K b a).go i H:=by
 cases b with
 |false=>exact⟨xs,xs[i],h,by simp[hi]⟩
 |true=>exact⟨xs,xs[i],h,by simp[hi]⟩
theorem nP.stop{K:Jc}{b:Bool}{a:ae}{H:Hp}{xs:List V}(h:fS K H b a xs):(nP K b a).stop xs.length H:=by
 cases b with
 |false=>exact⟨xs,h,Ua _⟩
 |true=>exact⟨xs,h,Ua _⟩
theorem nP.oq{K:Jc}{b:Bool}{a:ae}{i:Nat}{H H':Hp}{xs:List V}{x:V}(h:fS K H b a xs)(y:(nP K b a).oq i H x H'):H'=H/\xs[i]?=some x:=by
 cases b with
 |false=>exact⟨y.1,y.2 xs h⟩
 |true=>exact⟨y.1,y.2 xs h⟩
noncomputable def P6(P:ak)(w:World)(K:Jc)(mg:Str->Option Value)(base:Heap)(x:Str)(C:ae)(k:Nat)(ps:List Str)(sp:Sp):Prop :=
 ∃ f fd,Mk K C f/\fL P w K mg base (lj P w) k f fd ps sp/\Binds K fd ps []/\mg x=some (.ref C)
section
variable {X:Cx} {k:Nat} {ps:List Str} {sp:Sp} {E:XK} {x:Str} {C:ae} {p pos:Pos} {e:Expr} {es:List Expr} {t:TA} {σ0:L2.St}
theorem YbM(d:P6 X.prog X.w X.K X.mg X.base x C k ps sp)(hr:dz (k+1) X.A)(hg:Gl X x)(hx:Zu (lj X.prog X.w) X σ0 E)(ha:PA X (e::es) t)(lZ:(x==("__debug__":Str))=false:=by decide)
  (he:ao (e::es) X.env=(false,eval e X.env)::ao es X.env:=by rfl) (bZ:(bf pos (ao es X.env)).any (·.1)=false:=by rfl):PE X (.Call (.Name x p) (e::es) [] pos) (P0 σ0 C sp [] E t):=by
 obtain⟨f,fd,M,F,b,m⟩:=d;exact Qb1 M F hr hg m b .nil hx ha lZ he bZ
end
section
variable {X:Cx} (K:Jc)
noncomputable def F4(K:Jc):List V->Hp->VK->Prop:=λxs H Q=>∃ p ys,xs=[.ref p]/\(fK K H p ys\/gA K H p ys)/\Q (.int ys.length) H
noncomputable def F0(K:Jc):List V->Hp->VK->Prop:=λxs H Q=>∃ p ys,xs=[.ref p]/\(fK K H p ys\/gA K H p ys)/\∀ l,H l=none->Q (.ref l) (upd H l (.lst ys))
noncomputable def FW(K:Jc):List V->Hp->VK->Prop:=λxs H Q=>∃ p ys,xs=[.ref p]/\((fK K H p ys/\∀ l,H l=none->Q (.ref l) (upd H l (.tup ys)))\/(gA K H p ys/\Q (.ref p) H))
theorem A2(h:X.K=K:=by rfl):aH X (.builtin "len") (F4 K):=h ▸ Qa6
theorem zcX(h:X.K=K:=by rfl):aH X (.type "list") (F0 K):=h ▸ YaZ
theorem qcH(h:X.K=K:=by rfl):aH X (.type "tuple") (FW K):=h ▸ zaM
theorem AZ(c:X.calm=true:=by rfl)(h:X.K=K:=by rfl):aH X (.builtin "sum") (xP K):=h ▸ qca c
theorem k_all(c:X.calm=true:=by rfl)(h:X.K=K:=by rfl):aH X (.builtin "all") (xW K):=h ▸ zb9 c
theorem A0(c:X.calm=true:=by rfl)(h:X.K=K:=by rfl):aH X (.builtin "min") (xS K):=h ▸ YbU c
theorem A1(c:X.calm=true:=by rfl)(h:X.K=K:=by rfl):aH X (.builtin "max") (xT K):=h ▸ qbS c
theorem A3(h:X.K=K:=by rfl):aH X (.builtin "isinstance") (Mr K):=h ▸ ZcC
noncomputable def F6(K:Jc):R2:=λx y H Q=>∃ b p xs i v,x=.ref p/\y=.int i/\fS K H b p xs/\uN xs i=some v/\Q v H
theorem GU(h:X.K=K:=by rfl):CB X (F6 K):=by
 subst h;intro value slice pins s σ H x y v u Q I rx ry hq hs;obtain⟨b,p,xs,i,z,e1,e2,hq,ha,q⟩:=hq;cases b with
 |false=>exact Qcv value slice pins s σ H x y v u Q I rx ry ⟨p,xs,i,z,e1,e2,hq,ha,q⟩ hs
 |true=>exact qcS value slice pins s σ H x y v u Q I rx ry ⟨p,xs,i,z,e1,e2,hq,ha,q⟩ hs
theorem A4     (he:PE X e ta)(hb:aX e f X.env (eval e X.env)=eval e X.env:=by rfl)(h:X.K=K:=by rfl):PE X (.Attribute e f pos) (v8 K ta f):=h ▸ YcR he hb
theorem GS   (hl:PE X l tl)(h:X.K=K:=by rfl):PI X tg l (Nu K tl):=h ▸ Ai hl
theorem AY       (hg:Gl X "zip")(hm:X.mg "zip"=none)(ha:PA X [a,b] ta)(hs:ao [a,b] X.env=[(false,eval a X.env),(false,eval b X.env)]:=by rfl)(k8:ao [b] X.env=[(false,eval b X.env)]:=by rfl)(h:X.K=K:=by rfl) :
  PI X (.Tuple es kt pt) (.Call (.Name "zip" p) [a,b] [] pos) (Bc K ta):=h ▸ ZcT hg hm ha hs k8
theorem ycX       (hg:Gl X "enumerate")(hm:X.mg "enumerate"=none)(ha:PA X [a] ta)(hs:ao [a] X.env=[(false,eval a X.env)]:=by rfl)(h:X.K=K:=by rfl) :
  PI X (.Tuple es kt pt) (.Call (.Name "enumerate" p) [a] [] pos) (OU K ta):=h ▸ QcB hg hm ha hs
end
end L3
end
section
namespace L3
open PySem PySem.Spec PyProof.Rows L2 M3
noncomputable def O8(P:ak)(w:World)(K:Jc)(mg:Str->Option Value)(base:Heap)(x:Str)(k:Nat)(ps:List Str)(sp:ae->ae->Sp):Prop :=
 ∃ f fd,CF P w K mg base k f fd ps sp/\Binds K fd ps []/\Wg K (.ref f)=true/\mg x=some (.ref f)
end L3
end
section
namespace L2
open PySem PySem.Spec PyProof.Rows
noncomputable def gx(lo hi st:Int):Nat:=if lo<hi then((hi-lo-1)/st+1).toNat else 0
noncomputable def pG(lo st:Int)(n:Nat):It:=⟨λi _=>i<n,λi H x H'=>H'=H/\x=.int (lo+i*st),λi _=>n<=i⟩
theorem ybl{P:ak}{w:World}{K:Jc}{tg:Expr}(it:ae)(lo st:Int)(n:Nat):Turn P w K tg (pG lo st n) [it] it (λi h=>fV h it (lo+(i:Nat)*st) ((n:Int)-(i:Nat)) st) where
 mem:=by simp
 obj:=λi h st b hb=>by
  have e:b=it:=by simpa using hb
  subst e;exact⟨_,st,λv z=>by
   have z':Data.fields _=Data.cell v:=z;cases z'⟩
 keep:=λi h h' st k=>k it (by simp) _ st
 item:=by
  intro X hP hw hK hc i pins s σ H E I hf kI hg;subst hP hw hK;obtain⟨f0,f1,f2,f3,f4,f5⟩:=hf it (by simp);have W:=mG.range (prog:=X.prog) (w:=X.w) (I.ok.hd hc) it lo st n;refine W.item i s _ _ hg kI λv h' tk hv wQ kk=>?_;obtain⟨t,rfl⟩:=hv;have I1:Inv X pins σ H {s with heap:=h',toks:=tk}:=I.turned (λb o hb e=>kk b o (by simpa using hb) e) f0 f1 f3 f4 f5;exact⟨_,rfl,De (s:={s with heap:=h',toks:=tk}) (n:="range_iterator") wQ rfl rfl (by decide) ⟨.int (lo+i*st),H,I1,⟨t,rfl⟩,⟨rfl,rfl⟩,wQ,λb hb=>(hf b hb).1⟩⟩
 done:=by
  intro X hP hw hK hc i pins s σ H E I hf kI hg;subst hP hw hK;obtain⟨f0,f1,f2,f3,f4,f5⟩:=hf it (by simp);exact eZ (I.ok.hd hc) kI (by have:n<=i:=hg;lia) λh' eb=>⟨rfl,I.turned (t':=s.toks) (λb o hb e=>eb b o hb e) f0 f1 f3 f4 f5⟩
 self:=λ_ _ _ _ _ st h=>fh st h
theorem PZ{lo hi st:Int}(h:0<st):jf lo hi st=gx lo hi st:=by
 unfold jf gx;rw[if_pos h];split
 ·have:=jo (a:=hi-lo-1) (b:=st) (by lia) (by lia)
  lia
 ·rfl
theorem Yco{a b c:Int}(h1:-(2^30)<=a)(h2:a<2^30)(h3:-(2^30)<=b)(h4:b<2^30)(h5:0<c)(h6:c<2^30):Hf a b c=true:=by
 have e:jf a b c=gx a b c:=PZ h5;have el:(gx a b c:Int)<=2^31:=by
  unfold gx;split
  ·have h7:0<=(b-a-1)/c:=jo (by lia) (by lia);have h8:(b-a-1)/c<=b-a-1:=Int.ediv_le_self _ (by lia)
   lia
  ·simp
 unfold Hf;rw[e];have f:∀ x:Int,-(2^62)<=x->x<2^62->Jf x=true:=by
  intro x k1 k2;unfold Jf;simp
  lia
 rw[f a (by lia) (by lia),f b (by lia) (by lia),f c (by lia) (by lia),f _ (by lia) (by lia),if_pos h5,f (b+(c-1)) (by lia) (by lia)];simp
section
variable {X:Cx} {tg:Expr}
theorem QbL{pins:List (ae×Obj)}{σ:St}{H:Hp}{s:Shared}{R:It->Hp->Prop}{E:Value->Shared->Prop}{lo hi st:Int}{t u v:Tok}{tk:Nat}(I:Inv X pins σ H s)(h1:-(2^30)<=lo)(h2:lo<2^30)(h3:-(2^30)<=hi)(h4:hi<2^30)(h5:0<st)(h6:st<2^30)
  (q:R (pG lo st (gx lo hi st)) H):ag (ah X.prog X.w) X.A (jA (.ref s.heap.objs.size)) (J8 X pins σ tg R) E {s with heap:=s.heap.push {cls:=.type "range",data:=.fields #[.int lo t,.int hi u,.int st v]},toks:=tk}:=by
 refine gM (IsRange.new ..) (Yco h1 h2 h3 h4 h5 h6) ?_;have I1:Inv X pins σ H {s with heap:=s.heap.push {cls:=.type "range",data:=.fields #[.int lo t,.int hi u,.int st v]},toks:=tk}:=I.kept λb o e=>wa _ e;refine⟨(s.heap.push {cls:=.type "range",data:=.fields #[.int lo t,.int hi u,.int st v]}).objs.size,[(s.heap.push {cls:=.type "range",data:=.fields #[.int lo t,.int hi u,.int st v]}).objs.size],_,_,H,rfl,
  I1.kept (t':=tk) λb o e=>wa _ e,ybl _ lo st (gx lo hi st),?_,λb hb=>?_,q⟩
 ·have e1:lo+((0:Nat):Int)*st=lo:=by simp
  have e2:((gx lo hi st:Nat):Int)-((0:Nat):Int)=jf lo hi st:=by rw[PZ h5];simp
  show fV _ _ (lo+((0:Nat):Int)*st) (((gx lo hi st:Nat):Int)-((0:Nat):Int)) st;rw[e1,e2];exact wb _ rfl
 ·have e:b=(s.heap.push {cls:=.type "range",data:=.fields #[.int lo t,.int hi u,.int st v]}).objs.size:=by simpa using hb
  subst e;exact I1.iY (Ua _) (I1.aL.fresh (Ua _))
noncomputable def Bd(ta:TA):TI:=λσ H R=>ta σ H λvs H1=>∃ i j k:Int,vs=[.int i,.int j,.int k]/\(-(2^30)<=i/\i<2^30/\-(2^30)<=j/\j<2^30/\0<k/\k<2^30)/\R (pG i k (gx i j k)) H1
theorem YbS{a b c:Expr}{ta:TA}{p pos:Pos}(hg:Gl X "range")(hm:X.mg "range"=none)(ha:PA X [a,b,c] ta)(hs:ao [a,b,c] X.env=[(false,eval a X.env),(false,eval b X.env),(false,eval c X.env)]:=by rfl)(k8:ao [b,c] X.env=[(false,eval b X.env),(false,eval c X.env)]:=by rfl) :
  PI X tg (.Call (.Name "range" p) [a,b,c] [] pos) (Bd ta):=by
 intro pins s σ H R I h;refine mI (YI I hg hm jJ (Gf (bc (ha pos pins s σ H _ I h) λus s1 ⟨vs,H1,I1,r1,q1⟩=>?_) (by rw[hs,k8]) (by rw[k8];rfl)));obtain⟨i,j,k,e,⟨q1,q2,q3,q4,q5,q6⟩,q⟩:=q1;subst e;cases r1 with
 |cons r rr =>
  cases rr with
  |cons r' rr =>
   cases rr with
   |cons r'' rr =>
    cases rr;obtain⟨t,rfl⟩:=r;obtain⟨t',rfl⟩:=r';obtain⟨t'',rfl⟩:=r'';exact call_range_3 (by lia) (QbL I1 q1 q2 q3 q4 q5 q6 q) (.inl (PyProof.noPylong_small (by lia)))
noncomputable def Qci:V->List V->Hp->VK->Prop:=λx vs H Q=>∃ l b xs zs,x=.ref l/\vs=[.ref b]/\H l=some (.lst xs)/\Rd H b (.lst zs)/\xs.length+zs.length<=sizeLine/\Q .bG (upd H l (.lst (xs++zs)))
theorem Qbu:Ro X "list.extend" Qci:=by
 intro pins s σ H x vs v us Q I rx rv h;obtain⟨l,b,xs,zs,rfl,rfl,hH,hB,hz,q⟩:=h;cases rx;obtain⟨u,rfl,ru⟩:=rv.one;cases ru;obtain⟨z,av,n,r,hl,e⟩:=I.AM hH;obtain⟨z2,ia,n2,r2,e2⟩:=hB.ok I.aL;have HC:=r2.length;have hsz:av.toArray.size+ia.toArray.size<=sizeLine:=by rw[wc,wc];lia
 have nC:¬(!av.toArray.isEmpty&&Kl (av.toArray.size+ia.toArray.size))=true:=by
  rw[Lv hsz,Bool.and_false];exact Uh
 refine gW F.slot_list_extend ⟨_,e,rfl⟩ F.entry_list_extend (F.args_list_extend_2 _ _)
  (AutoSeq1.list_extend_list_list_0 l av.toArray n b ia.toArray n2 nC (by rw[wc];lia) (by lia)) ⟨e,e2,?_⟩
 refine⟨.bG,_,I.AN (its':=av++ia) hH e (by simp) (r.append r2) ?_,rfl,q⟩;rw[Xg]
 lia
end
end L2
end
section
namespace L3
open PySem PySem.Spec PyProof.Rows L2 M3
theorem ZR
  (jE:aX o name env (eval o env)=eval o env)
  (nD:((bf pos (ao args env)).all (λx=>!x.1)&&(dt pos (bH [] env)).all (λx=>x.1.isSome)&&decide (args.length+([]:List cP).length+(if([]:List cP).isEmpty then 0 else 1)<30))=true)
  (dR:(apos.endLine==pos.line)=true)
  (h:ag (ah prog w) A (eval o env) (λov s₁=>∀ pl,ag (ah prog w) A (kO ov name pl) (λfx s₂=>ag (ah prog w) A (lM pos fx.1 fx.2 (bf pos (ao args env)) (dt pos (bH [] env))) Q E s₂) E s₁) E s) :
  ag (ah prog w) A (eval (.Call (.Attribute o name apos) args [] pos) env) Q E s:=by
 rw[arm_eval_Call,jE];refine aa (aM h (λov s₁ h₁=>?_) λ_ _ e=>e);refine aa (b7 ?_);have Bv:methodCallForm (args.length+([]:List cP).length) (bf pos (ao args env)) (dt pos (bH [] env))=true:=nD;have G':j' true o env apos pos=pure pos:=by unfold j';simp[dR]
 unfold methodCall;rw[Bv];refine aa (aI (aM (h₁ _) (λfx s₂ h₂=>?_) λ_ _ e=>e));exact aa (fN G' h₂)
section
variable {X:Cx} {k:Nat} {E:XK} {x m:Str} {p pos apos:Pos} {e o:Expr} {es:List Expr} {ta:TE} {t:TA} {σ0:L2.St}
noncomputable def Pz(P:ak)(w:World)(K:Jc)(mg:Str->Option Value)(base:Heap)(k:Nat)(C:ae)(m:Str)(sp:Sp):Prop :=
 lV K C/\∃ f fd ps,Meth K C m f/\fL P w K mg base (lj P w) k f fd ps sp/\Binds K fd ps []
noncomputable def KD(X:Cx)(k:Nat)(σ0:L2.St)(m:Str)(E:XK)(ta:TE)(t:TA):TE:=λσ H Q=>σ=σ0/\ta σ H λx H1=>∃ a C dx fs sp,x=.ref a/\H1 a=some (.ins C dx fs)/\fs.lookup m=none/\Pz X.prog X.w X.K X.mg X.base k C m sp /\
 t σ H1 λvs H2=>sp (x::vs) H2 Q E
theorem yck(he:PE X o ta)(hr:dz k X.A)(hx:Zu (lj X.prog X.w) X σ0 E)(ha:PA X (e::es) t)
  (sd:ao (e::es) X.env=(false,eval e X.env)::ao es X.env) (bZ:(bf pos (ao es X.env)).any (·.1)=false)
  (jE:aX o m X.env (eval o X.env)=eval o X.env) (nD:((bf pos (ao (e::es) X.env)).all (λx=>!x.1)&&(dt pos (bH [] X.env)).all (λx=>x.1.isSome)&&decide ((e::es).length+([]:List cP).length+(if([]:List cP).isEmpty then 0 else 1)<30))=true) (dR:(apos.endLine==pos.line)=true) :
  PE X (.Call (.Attribute o m apos) (e::es) [] pos) (KD X k σ0 m E ta t):=by
 intro pins s σ H Q I h;obtain(⟨rfl,h⟩):=h;refine ZR jE nD dR (bc (he pins s σ H _ I h) λu s1 ⟨x,H1,I1,rx,a,C,dx,fs,sp,ex,ea,l,⟨c,f,fd,ps,hm,F,hb⟩,q⟩ pl=>?_);subst ex;obtain rfl:u=ka a:=rx;refine Pe I1 ea c hm l ?_;refine wA (first:=[.ref a]) (h₀:=X.base) I.ok.mod.AW hm.kp (bc (ha pos pins s1 σ H1 _ I1 q) λus s2 ⟨vs,H2,I2,r,q2⟩=>⟨I2.iB,?_⟩) sd bZ;exact JA (us:=.ref a::us) (vs:=.ref a::vs) (dvs:=[]) F hr hb .nil hx I2 (.cons rfl r) (by rw[xk];exact q2)
theorem qbN(he:PE X o ta)(hr:dz k X.A)(hx:Zu (lj X.prog X.w) X σ0 E)
  (jE:aX o m X.env (eval o X.env)=eval o X.env) (dR:(apos.endLine==pos.line)=true) :
  PE X (.Call (.Attribute o m apos) [] [] pos) (KD X k σ0 m E ta vZ):=by
 intro pins s σ H Q I h;obtain(⟨rfl,h⟩):=h;refine ZR jE (by rfl) dR (bc (he pins s σ H _ I h) λu s1 ⟨x,H1,I1,rx,a,C,dx,fs,sp,ex,ea,l,⟨c,f,fd,ps,hm,F,hb⟩,q⟩ pl=>?_);subst ex;obtain rfl:u=ka a:=rx;refine Pe I1 ea c hm l ?_;exact wF (first:=[.ref a]) I1.iB hm.kp (JA (us:=[.ref a]) (vs:=[.ref a]) (dvs:=[]) F hr hb .nil hx I1 (.cons rfl .nil) (by rw[xk];exact q))
structure pF (K:Jc) (C:ae):Prop where
 makes:Uu K C=true
 init:Ud K (.ref C) "__init__"=some (some (.builtin "object.__init__"))
 kp:Wg K (.ref C)=true
theorem qbR       (M:pF X.K C)(I:Inv X pins σ H s)
  (h:∀ x dx,H x=none->H dx=none->dx≠x->Q (.ref x) (upd (upd H dx (.own x)) x (.ins C dx []))):ag (ah X.prog X.w) X.A (call (.ref C) []) (EP X pins σ Q) X.xe s:=by
 have hq:=h (s.heap.objs.size+1) s.heap.objs.size (I.aL.fresh (vz _)) (I.aL.fresh (Ua _)) (Ub (Wi _));have I2:=Inv.made (C:=C) I;have Y:=uB (M:=ah X.prog X.w) I.iB M.makes;have hx:((s.heap.push wg).push (Ug C s.heap.objs.size)).get? (s.heap.objs.size+1)=some (Ug C s.heap.objs.size):=by
  have:=wb (s.heap.push wg) (o:=Ug C s.heap.objs.size) rfl
  rwa [vg] at this
 refine fi (YbT I.iB M.makes M.init (λself=>PySem.W.Looks.of_pure (PySem.W.oi_bind self)) ?_);have t1:gc (ah X.prog X.w) ((s.heap.push wg).push (Ug C s.heap.objs.size)) (typeOf (.ref (s.heap.objs.size+1))) (.ref C):=(PySem.W.Looks.ld hx).andThen .now;have t2:gc (ah X.prog X.w) ((s.heap.push wg).push (Ug C s.heap.objs.size)) (isInstance (.ref (s.heap.objs.size+1)) (.type "object")) true:=t1.andThen (Y.top.keeps λb o e=>wa _ (wa _ e));refine bU PySem.W.oi_plain PySem.W.entry_oi (@PySem.W.check_slot (ah X.prog X.w) _ _ _ "object.__init__" "object" "__init__" (.ref (s.heap.objs.size+1)) [] [] _ PySem.W.oi_kind PySem.W.oi_split t2 (PySem.W.oi_args (.ref (s.heap.objs.size+1))) ?_);rw[PySem.W.oi_run];exact af (And.intro rfl ⟨V.ref (s.heap.objs.size+1),_,I2,rfl,hq⟩)
noncomputable def Zc0(C:ae):TE:=λσ H Q=>∀ x dx,H x=none->H dx=none->dx≠x->Q (.ref x) (upd (upd H dx (.own x)) x (.ins C dx []))
theorem YbW  (M:pF X.K C)(hg:Gl X x)(hm:X.mg x=some (.ref C))(lZ:(x==("__debug__":Str))=false):PE X (.Call (.Name x p) [] [] pos) (Zc0 C):=by
 intro pins s σ H Q I h;refine aN (EH I hg hm ?_ lZ);exact wF I.iB M.kp (qbR M I h)
noncomputable def vV(K:Jc)(te:TE)(ts:TO):TE:=λσ H Q=>te σ H λx H1=>ts σ H1 λst H2=>st=some (-1)/\∃ a xs,x=.ref a/\fK K H2 a xs/\∀ q,H2 q=none->Q (.ref q) (upd H2 q (.lst xs.reverse))
theorem Qcy{te:TE}{ts:TO}{st:Expr}{p2:Pos}(he:PE X e te)(hs:PO X (some st) ts):PE X (.Subscript e (.Slice none none (some st) p2) pos) (vV X.K te ts):=by
 intro pins s σ H Q I h;refine jO (bc (he pins s σ H _ I h) λv s1 ⟨x,H1,I1,r1,q1⟩=>?_);refine wpAny_Slice ?_;rw[gG];refine af (af (bc (hs pins s1 σ H1 _ I1 q1) λvs s3 ⟨z,H3,I3,pz,q3⟩=>?_));obtain⟨rfl,a,xs,rfl,hx,q⟩:=q3;cases r1;have I4:Inv X pins σ H3 {s3 with heap:=s3.heap.push {cls:=.type "slice",data:=.fields #[.none,.none,vs]}}:=I3.kept (t':=s3.toks) λb ob q=>wa _ q;obtain⟨av,r,ht,hz⟩:=I4.list hx;have hlen:av.toArray.size=xs.length:=by rw[wc];exact r.length.symm
 show ag (ah X.prog X.w) X.A (gD e (.Slice none none (some st) p2) (.ref a) (.ref s3.heap.objs.size)) (EP X pins σ Q) X.xe {s3 with heap:=s3.heap.push {cls:=.type "slice",data:=.fields #[.none,.none,vs]}};refine tail_any (ops:=[.ref a,.ref s3.heap.objs.size]) ht.isList.typeIs slot_list_getitem.lookup ?_ (by rfl);refine eI ht.isList (Heap.IsSliceOf.new ..) .none .none pz (by decide) ?_ (by rw[hlen];exact hz);rw[PySem.W.krv_pick];refine⟨.ref _,_,I4.laid (t':=s3.toks) (o:=.lst xs.reverse) (λb ob q=>wa _ q) (Ua _) ?_,rfl,q _ (I4.aL.fresh (Ua _))⟩;refine⟨by rw[WF];exact hz,av.reverse,0,r.reverse,?_⟩;have:=wb (s3.heap.push {cls:=.type "slice",data:=.fields #[.none,.none,vs]}) (o:={cls:=.type "list",data:=.seq av.reverse.toArray}) rfl;simpa using this
end
end L3
end
section
namespace L3
open PySem PySem.Spec PyProof.Rows L2 M3
noncomputable def sY(kf:Int->Int)(b k:Int):Int:=if kf k<kf b then k else b
section
variable {prog:ak} {w:World} {A:Around} {E:Value->Shared->Prop} {s:Shared} {q I S:ae} {fp:List ae} {St:Nat->Heap->Prop} {vs:Array Value} {ns:List Int} {kf:Int->Int} {g:Heap} {R:iM->Shared->Prop}
noncomputable def uY(I S:ae)(g h:Heap):Prop:=∀ b o,b≠I->b≠S->g.get? b=some o->h.get? b=some o
noncomputable def F9(prog:ak)(w:World)(A:Around)(s:Shared)(q I S:ae)(g:Heap)(kf:Int->Int)(ns:List Int):Prop :=
 ∀(n:Int)(t:Tok)(h:Heap)(tk:Nat),n∈ns->uY I S g h->ag (ah prog w) A.in1 (call (.ref q) [.int n t])
  (λu s'=>∃ h' ju t',u=.int (kf n) t'/\s'={s with heap:=h',toks:=ju}/\∀ b o,h.get? b=some o->h'.get? b=some o) (λ_ _=>False) {s with heap:=h,toks:=tk}
theorem ZbT(W:mG prog w A.in1 I fp [I] vs.size (λi v=>vs[i]?=some v) St)(D3:S∉fp)(tZ:S≠I)(hlen:vs.size=ns.length)(hv:∀(i:Nat)(v:Value),vs[i]?=some v->∃ n t,ns[i]?=some n/\v=ja n t)
  (turn:F9 prog w A s q I S g kf ns)  (hR:∀ t h' ju,uY I S g h'->R (.ok (.ret (.int best t))) {s with heap:=h',toks:=ju}) :
  ∀(r j:Nat)(h:Heap)(tk:Nat)(b:Int)(tv tb:Tok) (c:Nat),ns.length-j=r->j<=ns.length->uY I S g h->h.get? S=some (gR "list" #[.int b tv,.int (kf b) tb] c)->St j h->best=(ns.drop j).foldl (sY kf) b ->
   bI (ah prog w) A (.builtin "min.loop" ⟨[.ref I,.ref q,.ref S],[]⟩) R {s with heap:=h,toks:=tk}:=by
 have lH:(toString "min"++toString ".loop":String)="min.loop":=by decide
 intro r
 induction r with
 |zero =>
  intro j h tk b tv tb c hr hj kp hS st hb;have ej:j=ns.length:=by lia
  refine bO jh ?_;rw[jg Gg _];show ag _ A.in1 (fX (.ref S) >>= _) _ _ _;refine aa (aK hS rfl ?_);show ag _ A.in1 (tryCatch (cX (.ref I)) _ >>= _) _ _ _;refine aa (bD (W.done _ _ _ (by rw[hlen,<- ej];exact st) λh' ju jW=>?_));have BE:=jW S _ (by simpa using tZ) hS;show ag _ A.in1 (updateSeq S (λ_=>#[]) >>= _) _ _ _;refine aa ?_;refine fu BE rfl (aa (cz (af ?_)));have eb:best=b:=by rw[hb,ej];simp
  subst eb;have s1:=jm h' S (jk λ_=>(#[]:Array Value));exact hR tv _ _ λx o n1 n2 e=>s1.extBut x o n2 (jW x o (by simpa using n1) (kp x o n1 n2 e))
 |succ r ih =>
  intro j h tk b tv tb c hr hj kp hS st hb;have mD:j<ns.length:=by lia
  refine bO jh ?_;rw[jg Gg _];show ag _ A.in1 (fX (.ref S) >>= _) _ _ _;refine aa (aK hS rfl ?_);show ag _ A.in1 (tryCatch (cX (.ref I)) _ >>= _) _ _ _;refine aa (bD (W.item j _ _ _ (by rw[hlen];exact mD) st λv h' ju hP kI jW=>?_));obtain⟨n,t,en,rfl⟩:=hv j v hP;have BE:=jW S _ (by simpa using tZ) hS;have AU:uY I S g h':=λx o n1 n2 e=>jW x o (by simpa using n1) (kp x o n1 n2 e);show ag _ A.in1 (tryCatch (cx [.int n t] (call (.ref q) [.int n t])) _ >>= _) _ _ _;refine aa (bD (aI (aM (turn n t h' ju (ue en) AU) (λx xM he=>?_) λ_ _ hF=>hF.elim)));obtain⟨h2,L9,t2,rfl,rfl,k2⟩:=he;have t8:=k2 _ _ BE;have mq:St (j+1) h2:=W.frame _ _ _ kI λx _ o e=>k2 x o e;have rY:uY I S g h2:=λx o n1 n2 e=>k2 x o (AU x o n1 n2 e);have BP:ns.drop j=n::ns.drop (j+1):=by
   rw[Wv mD]
   congr 1
   exact gb.inj ((va mD).symm.trans en)
  rw[BP,Wh] at hb;show ag _ A.in1 (tryCatch (cx [.int n t,.int (kf n) t2] (richCompare .Lt (.int (kf n) t2) (.int (kf b) tb) >>= _)) _ >>= _) _ _ _;refine aa (bD (aI (aa (HT.nu _ _ _ _ _ _ _ _ _ _ ?_))));refine aa (aI (aD ?_));refine aa (cz (af ?_));by_cases kN:kf n<kf b
  ·have s1:=jm h2 S (jk λ_=>#[.int n t,.int (kf n) t2]);obtain⟨c2,rg⟩:∃ c2,(h2.update S (jk λ_=>#[.int n t,.int (kf n) t2])).get? S=some (gR "list" #[.int n t,.int (kf n) t2] c2):=⟨_,iX t8 λ_=>#[.int n t,.int (kf n) t2]⟩;simp only[kN,decide_true,if_true];refine aa ?_;refine fu t8 rfl (aa (cz ?_));rw[lH];refine af ⟨b8 Gg _,ih (j+1) _ _ n t t2 c2 (by lia) mD (λx o n1 n2 e=>s1.extBut x o n2 (rY x o n1 n2 e)) rg (W.frame _ _ _ mq λx hx o e=>s1.extBut x o (λz=>D3 (z ▸ hx)) e) ?_⟩;rw[hb,sY,if_pos kN]
  ·simp only[kN,decide_false,Uk,if_false];refine aa (cz ?_);rw[lH];refine af ⟨b8 Gg _,ih (j+1) _ _ b tv tb c (by lia) mD rY t8 mq ?_⟩;rw[hb,sY,if_neg kN]
theorem ybO     (hh:A.handled=none)(hl:bV s.heap tup l vs)(hlen:vs.size=(n0::ns).length)(hv:∀(i:Nat)(v:Value),vs[i]?=some v->∃ n t,(n0::ns)[i]?=some n/\v=ja n t)
  (turn:F9 prog w A s q s.heap.objs.size (s.heap.push (cR tup l)).objs.size s.heap kf (n0::ns))
  (hQ:∀ t h' ju,(∀ b o,s.heap.get? b=some o->h'.get? b=some o)->Q (.int (ns.foldl (sY kf) n0) t) {s with heap:=h',toks:=ju}) :
  ag (ah prog w) A (call (.builtin "min") [.ref l] [(jj "key",.ref q)]) Q E s:=by
 have lH:(toString "min"++toString ".loop":String)="min.loop":=by decide
 have Hz:l<s.heap.objs.size:=hl.lt;refine kmk_tree PySem.F.kind_min PySem.F.plain_min PySem.F.entry_min (kmk_min_key _ _) ?_;show ag _ A.in1 (Builtin.Builtins.bindParams "min" ["key","default"] 0 ⟨[],[(jj "key",.ref q)]⟩ >>= _) _ _ s;refine aa (fN (show Builtin.Builtins.bindParams "min" ["key","default"] 0 ⟨[],[(jj "key",.ref q)]⟩=pure [some (.ref q),none] from rfl) ?_);refine aa (af ?_);refine aa (Zi hl ?_);refine aa (wpAny_newList ?_ (Wn _));rw[lH];refine af ⟨b8 Gg _,?_⟩;generalize hI:s.heap.objs.size=I at turn Hz ⊢;generalize hS:(s.heap.push (cR tup l)).objs.size=S at turn ⊢;have eS:S=I+1:=by rw[<- hS,<- hI];exact size_push' ..
 have Ie:I<S:=by rw[eS];exact Wi _
 have HB:l≠I:=Ub Hz;have hlS:l≠S:=Ub (Xn Hz Ie);have tZ:S≠I:=um Ie;have D3:S∉[I,l]:=by simp;exact⟨tZ,Jd hlS⟩
 have old:∀ b o,s.heap.get? b=some o->b≠I/\b≠S:=λb o e=>by
  have z:=ua e;rw[hI] at z;exact⟨Ub z,Ub (Xn z Ie)⟩
 have gI:((s.heap.push (cR tup l)).push (gR "list" #[] 0)).get? I=some (cR tup l):=by
  refine wa _ ?_;rw[<- hI];exact wb _ rfl
 have gS:((s.heap.push (cR tup l)).push (gR "list" #[] 0)).get? S=some (gR "list" #[] 0):=by
  rw[<- hS];exact wb _ rfl
 have gk:∀ b o,s.heap.get? b=some o->((s.heap.push (cR tup l)).push (gR "list" #[] 0)).get? b=some o:=λb o e=>wa _ (wa _ e);have W:=qQ (prog:=prog) (w:=w) (A:=A.in1) hh tup I l HB vs;refine bO jh ?_;rw[jg Gg _];show ag _ A.in1 (fX (.ref S) >>= _) _ _ _;refine aa (aK gS rfl ?_);show ag _ A.in1 (tryCatch (cX (.ref I)) _ >>= _) _ _ _;refine aa (bD (W.item 0 _ _ _ (by rw[hlen];simp) ⟨cU.new gI,hl.keeps λo e=>gk l o e⟩ λv h' ju hP kI jW=>?_));obtain⟨n,t,en,rfl⟩:=hv 0 v hP;obtain rfl:n0=n:=by simpa using en
 have BE:=jW S _ (by simpa using tZ) gS;have AU:uY I S s.heap h':=λx o n1 n2 e=>jW x o (by simpa using n1) (gk x o e);show ag _ A.in1 (tryCatch (cx [.int n0 t] (call (.ref q) [.int n0 t])) _ >>= _) _ _ _;refine aa (bD (aI (aM (turn n0 t h' ju (xg) AU) (λx xM he=>?_) λ_ _ hF=>hF.elim)));obtain⟨h2,L9,t2,rfl,rfl,k2⟩:=he;have t8:=k2 _ _ BE;have s1:=jm h2 S (jk λ_=>#[.int n0 t,.int (kf n0) t2]);obtain⟨c2,rg⟩:∃ c2,(h2.update S (jk λ_=>#[.int n0 t,.int (kf n0) t2])).get? S=some (gR "list" #[.int n0 t,.int (kf n0) t2] c2):=⟨_,iX t8 λ_=>#[.int n0 t,.int (kf n0) t2]⟩;show ag _ A.in1 (updateSeq S (λ_=>#[.int n0 t,.int (kf n0) t2]) >>= _) _ _ _;refine aa ?_;refine fu t8 rfl ?_;rw[lH];have mq:=W.frame _ _ _ (W.frame _ _ _ kI λx _ o e=>k2 x o e) λx hx o e=>s1.extBut x o (λz=>D3 (z ▸ hx)) e;refine af ⟨b8 Gg _,ZbT (best:=ns.foldl (sY kf) n0) W D3 tZ hlen hv turn (λt h' ju k=>hQ t h' ju λb o e=>k b o (old b o e).1 (old b o e).2 e) _ 1 _ _ n0 t t2 c2 rfl (by simp) (λx o n1 n2 e=>s1.extBut x o n2 (k2 x o (AU x o n1 n2 e))) rg mq (by simp)⟩
end
noncomputable abbrev oA:Str:="ink"
noncomputable abbrev qB:Str:="want"
noncomputable abbrev Yx(pa:Pos):kR:=⟨[],[⟨oA,none,pa⟩],none,[],[],none,[]⟩
noncomputable abbrev zy(p1 p2 p3 p4 p5:Pos):Expr:=.Call (.Name "abs" p1) [.BinOp (.Name qB p2) .Sub (.Name oA p3) p4] [] p5
noncomputable abbrev fw:az:={kind:=.function,names:=[(oA,.local),(qB,.free),("abs",.globalImplicit)],isGenerator:=false,isCoroutine:=false,more:=[]}
noncomputable def pC(i:Int):Int:=if i<0 then -i else i
section
variable {prog:ak} {w:World} {A:Around} {s:Shared} {q I S c' cw:ae} {ns:List Int} {g:Heap} {qual:Str} {pa p1 p2 p3 p4 p5:Pos} {pm kQ:Value} {wv:Int} {tw:Tok} {mg mb:Str->Option Value}
theorem Yce(lF:A.depth<bQ)(hq:g.get? q=some (Vr "<lambda>" qual (Yx pa) (zy p1 p2 p3 p4 p5) fw [(qB,cw)] pm c' kQ))(ky:g.CodeRec (.ref c') qual)(By:g.IsCell cw (some (.int wv tw)))
  (sr:g.NoLimit) (oV:g.Ns au mg) (hmb:g.Ns builtinsNs mb) (ha:mg "abs"=none) (hb:mb "abs"=some (.builtin "abs")) (hI:g.objs.size<=I) (hS:g.objs.size<=S) :
  F9 prog w A s q I S g (λn=>pC (wv-n)) ns:=by
 intro n t h tk _ kp;have kp:∀ b o,g.get? b=some o->h.get? b=some o:=λb o e=>kp b o (Ub (Xd (ua e) hI)) (Ub (Xd (ua e) hS)) e;refine fi (PySem.W.kla_callFunE (s:={s with heap:=h,toks:=tk}) (fd:=uD "<lambda>" qual (Yx pa) (zy p1 p2 p3 p4 p5) fw [(qB,cw)] pm (.ref c') kQ) lF (kp _ _ hq) rfl rfl rfl rfl (ky.keeps kp) ?_);rw[show bindArgs (uD "<lambda>" qual (Yx pa) (zy p1 p2 p3 p4 p5) fw [(qB,cw)] pm (.ref c') kQ) ⟨[.int n t],[]⟩=pure [(oA,.int n t)] from rfl];refine af (wpAny_newFunctionEnv (show ∀ y∈fw.names,y.2≠.cell by decide) (λy hy=>by rw[vc.mp hy];rfl) (λh₁ pX Nz=>⟨(sr.keeps kp).fresh _ Nz,?_⟩) rfl);have NH:∀ b o,h.get? b=some o->h₁.get? b=some o:=λb o e=>Nz.extBut b o (Ub (ua e)) (wa _ e);have HD:∀ b o,g.get? b=some o->h₁.get? b=some o:=λb o e=>NH b o (kp b o e);refine PySem.W.kla_codeExpr ?_;refine aN (Je rfl rfl (He (oV.keeps HD) ha (hmb.keeps HD) hb ?_) (by decide));refine kg ?_;refine Ke ?_;refine wpAny_BinOp ?_;have ecw:h₁.IsCell cw (some (.int wv tw)):=let ⟨o,e,d⟩:=By;⟨o,HD _ _ e,d⟩;refine fj (gw rfl rfl rfl ecw ?_ (by decide)) (by decide);refine fj (fO rfl rfl pX (v:=.int n t) rfl ?_) (by decide);refine sub_int ?_;refine je ?_;exact call_abs_int λu tk=>⟨_,_,_,rfl,rfl,NH⟩
end
end L3
end
section
namespace L3
open PySem PySem.Spec PyProof.Rows L2 M3
noncomputable def ZI(P:ae)(lp:Pos)(oc:Option ae):Heap->Prop:=λh=>∃ ps:Array Value,h.get? P=some (UD ps)/\TriplesOk ps.toList/\codeAmong lp ps.toList=oc.map ka
noncomputable def ng(c':ae)(q:Str):Heap->Prop:=λh=>h.CodeRec (.ref c') q
noncomputable def Oc(H:Hp)(P:ae)(lp:Pos)(q:Str):Prop:=H P=some (.ext (ZI P lp none))\/∃ c',c'≠P/\H P=some (.ext (ZI P lp (some c')))/\H c'=some (.ext (ng c' q))
noncomputable def CN(H:Hp)(P:ae)(lp:Pos)(q:Str)(H2:Hp):Prop:=H2=H\/∃ c',H P=some (.ext (ZI P lp none))/\H c'=none/\H2=upd (upd H c' (.ext (ng c' q))) P (.ext (ZI P lp (some c')))
structure lh (mg:Str->Option Value) (base:Heap) (c P:ae):Prop where
 code:Hc base c P
 bmain:∃ bm ob,mg "__builtins__"=some (.ref bm)/\bm≠builtinsNs/\base.get? bm=some ob/\ob.cls=.type "module"/\ob.dict=some builtinsNs/\ob.data=.plain
theorem J6        (x:ZI T lp oc h):ba P w H h T (.ext (ZI T lp oc)):=by
 obtain⟨ps,e,r⟩:=id x;exact⟨x,⟨_,e⟩,λh1 h2 ⟨ps,e,r⟩ k=>⟨ps,k _ e,r⟩⟩
theorem qcB       (x:ng c' q h):ba P w H h c' (.ext (ng c' q)):=by
 obtain⟨c,oc,vs,tq,e0,e,r⟩:=id x;cases e0;exact⟨x,⟨_,e⟩,λh1 h2 ⟨c,oc,vs,tq,e0,e,r⟩ k=>by cases e0;exact⟨c',oc,vs,tq,rfl,k _ e,r⟩⟩
section
variable {X:Cx} {pins:List (ae×Obj)} {σ:L2.St} {H:Hp} {s:Shared} {h':Heap} {P c':ae} {lp:Pos} {q:Str}
theorem QcI  (I:Inv X pins σ H s)(hP:H P=some (.ext (ZI P lp none)))(hx:ke P s.heap h')(hc:s.heap.objs.size<=c')(cd:ng c' q h')(tb:ZI P lp (some c') h') :
  Inv X pins σ (upd (upd H c' (.ext (ng c' q))) P (.ext (ZI P lp (some c')))) {s with heap:=h',toks:=t'}:=by
 have BB:H c'=none:=I.aL.fresh hc;have tT:∀ b u,H b=some u->(∀ φ,u≠HO.ext φ)->b≠P:=λb u e n z=>by
  rw[z,hP] at e;cases e;exact n _ rfl
 have neN:∀ b,H b=none->b≠P:=λb e z=>by rw[z,hP] at e;cases e
 have AJ:∀ b u,H b=some u->b≠c':=λb u e z=>by rw[z,BB] at e;cases e
 have hcP:c'≠P:=neN _ BB;have same:∀ b,b≠P->b≠c'->upd (upd H c' (.ext (ng c' q))) P (.ext (ZI P lp (some c'))) b=H b:=λb n1 n2=>by rw[qc n1,qc n2]
 refine I.un ⟨λb o e n _ _=>hx b o (neN b n) e,λb o e n _ _=>⟨o.slots,hx b o (neN b n) e⟩,λb o e n _=>?_,λb o e _=>?_,λb xs e=>?_,λb o u e=>?_,λb ps e=>⟨#[],?_⟩⟩ λb u e=>?_
 ·rw[same b (neN b n) λz=>absurd (ua e) (by rw[z];exact Nat.not_lt.mpr hc)];exact n
 ·by_cases hb:b=P
  ·obtain⟨ps,e1,_⟩:=tb;exact⟨_,by rw[hb];exact e1⟩
  ·exact⟨o,hx b o hb e⟩
 ·rw[same b (tT b _ e λφ z=>nomatch z) (AJ b _ e)];exact e
 ·rw[same b (tT b _ e λφ z=>nomatch z) (AJ b _ e)];exact e
 ·rw[same b (tT b _ e λφ z=>nomatch z) (AJ b _ e),e];simp
 ·by_cases hb:b=P
  ·subst hb;rw[qd] at e;cases e;exact J6 tb
  ·rw[qc hb] at e;by_cases kN:b=c'
   ·subst kN;rw[qd] at e;cases e;exact qcB cd
   ·rw[qc kN] at e;refine(I.aL b u e).jw (λc v hc q=>hx c v ?_ q) (λc z=>?_) λc xs z=>?_
    ·rcases hc with z|z
     ·rw[z];exact hb
     ·exact tT c _ z λφ z=>nomatch z
    ·rw[same c (tT c _ z λφ z=>nomatch z) (AJ c _ z)];exact z
    ·rw[same c (tT c _ z λφ z=>nomatch z) (AJ c _ z)];exact z
theorem Qbd   (h:env.cells.lookup qB=some cw):gV fw env=pure [(qB,cw)]:=by
 unfold gV lg;simp[h]
noncomputable def v7(K:Jc)(P:ae)(lp:Pos)(q:Str)(j:Nat)(te:TE):TE:=λσ H Q=>te σ H λx H1=>∃(b:Bool)(a:ae)(n0:Int)(ns:List Int)(wv:Int),x=.ref a/\fS K H1 b a ((n0::ns).map V.int)/\σ[j]?=some (some (.int wv))/\Oc H1 P lp q /\
 ∀ H2,CN H1 P lp q H2->Q (.int (ns.foldl (sY λk=>pC (wv-k)) n0)) H2
noncomputable abbrev PK(e:Expr)(Dl pa p1 p2 p3 p4 p5 lp pk pc:Pos):Expr:=.Call (.Name "min" Dl) [e] [⟨some "key",.Lambda (Yx pa) (zy p1 p2 p3 p4 p5) fw lp,pk⟩] pc
theorem Ycd         (I:Inv X pins σ H s)(nE:X.calm=true)(lF:X.A.depth<bQ)(Hy:X.mg "abs"=none)
  (hq:s.heap.get? f=some (Vr "<lambda>" qual (Yx pa) (zy p1 p2 p3 p4 p5) fw [(qB,cw)] pm c' kQ)) (ky:s.heap.CodeRec (.ref c') qual)  (By:s.heap.IsCell cw (some (.int wv tw)))
  (sq:fS X.K H b a ((n0::ns).map V.int)) (h:Q (.int (ns.foldl (sY λk=>pC (wv-k)) n0)) H) :
  ag (ah X.prog X.w) X.A (call (.builtin "min") [.ref a] [(jj "key",.ref f)]) (EP X pins σ Q) X.xe s:=by
 obtain⟨av,rv,si,hz⟩:=Yl I sq;obtain⟨mb,hb1,hb2⟩:=I.mod.blt;have hl:=rv.length;refine ybO (kf:=λk=>pC (wv-k)) (ns:=ns) (n0:=n0) (I.ok.hd nE) si (by simp at hl ⊢;lia) (λi v e=>?_) (Yce lF hq ky By I.nolimit (I.mod.glob.keeps I.bk) (hb1.keeps I.bk) Hy ((hb2 _ (by decide)).trans rfl) (Ua _) (Ux (by rw[size_push'];exact Wi _))) λt h' ju k=>⟨.int _,H,I.kept k,⟨_,rfl⟩,h⟩;have e':av[i]?=some v:=by simpa using e
 have hi:i<(n0::ns).length:=by
  have:=(xa.mp e').1;rw[Wc] at hl
  lia
 obtain⟨u,hu,rx⟩:=rv.get (i:=i) (x:=V.int (n0::ns)[i]) (by rw[Wb,va hi];rfl);rw[e'] at hu;cases hu;obtain⟨t,rfl⟩:=rx;exact⟨_,t,va hi,rfl⟩
theorem Ycy{K:Jc}{H2:Hp}{b:Bool}{a:ae}{xs:List V}(sq:fS K H b a xs)(k:∀ b u,H b=some u->(∀ φ,u≠HO.ext φ)->H2 b=some u):fS K H2 b a xs:=by
 cases b with
 |false =>
  rcases(show fK K H a xs from sq) with (e|⟨o,e⟩)|z
  ·exact(show fK K H2 a xs from .inl (.inl (k _ _ e λφ z=>nomatch z)))
  ·exact(show fK K H2 a xs from .inl (.inr ⟨o,k _ _ e λφ z=>nomatch z⟩))
  ·exact(show fK K H2 a xs from .inr z)
 |true =>
  rcases(show gA K H a xs from sq) with (e|⟨o,e⟩)|z
  ·exact(show gA K H2 a xs from .inl (.inl (k _ _ e λφ z=>nomatch z)))
  ·exact(show gA K H2 a xs from .inl (.inr ⟨o,k _ _ e λφ z=>nomatch z⟩))
  ·exact(show gA K H2 a xs from .inr z)
theorem ycs      (he:PE X e te)(hg:Gl X "min")(hm:X.mg "min"=none)(Hy:X.mg "abs"=none)(nE:X.calm=true)(lF:X.A.depth<bQ)
  (p9:X.env.code=.ref c) (L:lh X.mg X.base c P) (hN:X.N[j]?=some qB) (hk:X.env.kindOf qB=some .cell) (hs:ao [e] X.env=[(false,eval e X.env)]:=by rfl) :
  PE X (PK e Dl pa p1 p2 p3 p4 p5 lp pk pc) (v7 X.K P lp (X.env.qual++"<lambda>") j te):=by
 intro pins s σ H Q I h;refine aN (YI I hg hm rfl ?_);refine callWith_kw (rest:=[]) ?_ (by rw[hs];rfl) (by rw[hs];rfl);rw[hs];refine Ke (bc (he pins s σ H _ I h) λu s1 ⟨x,H1,I1,r1,b,a,n0,ns,wv,ex,sq,ew,tok,q1⟩=>je ?_);subst ex;obtain rfl:u=.ref a:=r1;refine wpAny_evalAll_cons (aa ?_);refine PySem.W.kla_eval rfl ?_
 -- vS cell of want
 obtain⟨m,hn,hl⟩:=id I1.loc;obtain⟨uw,rw_,lw⟩:=hl j qB (.int wv) hN ew (.inr (.inl hk));obtain⟨tw,rfl⟩:=rw_
 rcases lw with ⟨jW,_⟩|⟨_,cw,By,lJ⟩
 ·rw[hk] at jW;cases jW
 have kM:=Qbd By;obtain⟨bm,ob,b1,b2,b3,b4,b5,b6⟩:=L.bmain;have Bu:=I1.mod.glob.keeps I1.bk;have oa:=I1.bk _ _ b3;have C:=L.code.keeps I1.bk;have fin:∀{s2:Shared}{H2:Hp}{f c':ae}{pm kQ:Value},Inv X pins σ H2 s2->CN H1 P lp (X.env.qual++"<lambda>") H2->fS X.K H2 b a ((n0::ns).map V.int) ->
   s2.heap.get? f=some (Vr "<lambda>" (X.env.qual++"<lambda>") (Yx pa) (zy p1 p2 p3 p4 p5) fw [(qB,cw)] pm c' kQ)->s2.heap.CodeRec (.ref c') (X.env.qual++"<lambda>")->s2.heap.IsCell cw (some (.int wv tw)) ->
   ag (ah X.prog X.w) X.A (i6 pc >>= λ_=>pure (ka f)) (λv s₁=>ag (ah X.prog X.w) X.A (evalAll []) (λvs s₂=>ag (ah X.prog X.w) X.A (call (.builtin "min") [.ref a] ([jj "key"].zip (v::vs))) (EP X pins σ Q) X.xe s₂) X.xe s₁) X.xe s2:=λ{s2 H2 f c' pm kQ} I2 nx sq2 hq ky HS =>
  aa (b7 (af (wpAny_evalAll_nil (Ycd I2 nE lF Hy hq ky HS sq2 (q1 _ nx)))))
 rcases tok with hP|⟨c',hcP,hP,cQ⟩
 ·obtain⟨⟨ps,e1,e2,e3⟩,_⟩:=I1.aL P _ hP;have hgP:au≠P:=λq=>by
   obtain⟨o,es,ep,e,hd,_⟩:=Bu;rw[q,e1] at e;cases e;cases hd
  have HY:bm≠P:=λq=>by
   rw[q,e1] at oa;cases oa;cases b4
  have HZ:bm≠au:=λq=>by
   obtain⟨o,es,ep,e,hd,_⟩:=Bu;rw[q,e] at oa;cases oa;rw[hd] at b6;cases b6
  refine PySem.W.kla_makeFunction (mg:=X.mg) kM I1.ok.glob Bu p9 C e1 e2 e3 hgP ⟨bm,ob,b1,b2,HZ,HY,oa,b4,b5,b6⟩ λc' kQ h' tk hx NJ mD G8 G4=>?_;have kK:ke P s1.heap (h'.push (Vr "<lambda>" (X.env.qual++"<lambda>") (Yx pa) (zy p1 p2 p3 p4 p5) fw [(qB,cw)] ((X.mg "__name__").getD .none) c' kQ)):=λb o n e=>wa _ (hx b o n e);have cd:ng c' (X.env.qual++"<lambda>") (h'.push (Vr "<lambda>" (X.env.qual++"<lambda>") (Yx pa) (zy p1 p2 p3 p4 p5) fw [(qB,cw)] ((X.mg "__name__").getD .none) c' kQ)):=G8.keeps λb o e=>wa _ e;have tb:ZI P lp (some c') (h'.push (Vr "<lambda>" (X.env.qual++"<lambda>") (Yx pa) (zy p1 p2 p3 p4 p5) fw [(qB,cw)] ((X.mg "__name__").getD .none) c' kQ)) :=
   ⟨_,wa _ G4,by rw[xF];exact TriplesOk_snoc _ _ _ _ e2,by rw[xF];exact codeAmong_snoc _ e2 e3⟩
  have BB:H1 c'=none:=I1.aL.fresh NJ;have I2:=QcI (t':=tk) I1 hP kK NJ cd tb;refine fin I2 (.inr ⟨c',hP,BB,rfl⟩) ?_ (wb _ rfl) cd ?_
  ·refine Ycy sq λb u e n=>?_;rw[qc λz=>by rw[z,hP] at e;cases e;exact n _ rfl,qc λz=>by rw[z,BB] at e;cases e];exact e
  ·obtain⟨o,e,d⟩:=lJ;refine⟨o,kK _ _ (λq=>?_) e,d⟩;rw[q,e1] at e;cases e;cases d
 ·obtain⟨⟨ps,e1,e2,e3⟩,_⟩:=I1.aL P _ hP;obtain⟨cd,_⟩:=I1.aL c' _ cQ;have HY:bm≠P:=λq=>by
   rw[q,e1] at oa;cases oa;cases b4
  have HZ:bm≠au:=λq=>by
   obtain⟨o,es,ep,e,hd,_⟩:=Bu;rw[q,e] at oa;cases oa;rw[hd] at b6;cases b6
  refine PySem.W.kla_makeFunctionHit (mg:=X.mg) kM I1.ok.glob Bu p9 C e1 e2 e3 ⟨bm,ob,b1,b2,HZ,HY,oa,b4,b5,b6⟩ λkQ h' tk hk hsz=>?_;have jW:∀ b o,s1.heap.get? b=some o->(h'.push {cls:=.type "function",data:=.func (uD "<lambda>" (X.env.qual++"<lambda>") (Yx pa) (zy p1 p2 p3 p4 p5) fw [(qB,cw)] ((X.mg "__name__").getD .none) (.ref c') kQ)}).get? b=some o:=λb o e=>wa _ (hk b o e);obtain⟨o,e,d⟩:=lJ;exact fin (I1.kept (t':=tk) jW) (.inl rfl) sq (wb _ rfl) (Heap.CodeRec.keeps cd jW) ⟨o,jW _ _ e,d⟩
end
end L3
end
section
namespace L3
open PySem PySem.Spec PyProof.Rows L2 M3
theorem Fc{α β:Type}{F:α->β->Prop}:∀{l₁:List α}{l₂:List β},bW F l₁ l₂->l₁.length=l₂.length
 |_,_,.nil=>rfl
 |_,_,.cons r t=>by simp[Fc t]
end L3
end
section
namespace L3
open PySem PySem.Spec PyProof.Rows L2 M3
theorem Ych:gO (.type "list") "__getattr__"=pure none:=by rw[iT,fJ];kernel_rfl
theorem ZbB:gO (.type "list") "keys"=pure none:=by rw[iT,fJ];kernel_rfl
section
variable {prog:ak} {w:World} {A:Around} {h:Heap} {g:Array lR} {d:Drawn} {t:Nat} {os:OsState} {a:ae} {av:Array Value} {n:Nat}
noncomputable abbrev xX(av:Array Value)(n:Nat):Obj:={cls:=.type "list",data:=.seq av n}
theorem zb6    (hx:h.get? a=some (xX av n))(hh:A.handled=none)
  (hE:∀ h' ju e,Gd h h' e (.ref a) "keys"->E (.ref e) ⟨h',g,d,ju,os⟩) :
  ag (ah prog w) A (Builtin.«object.__getattribute__» ⟨[.ref a,.str "keys" tk],[]⟩) Q E ⟨h,g,d,t,os⟩:=by
 have hT:(⟨h,g,d,t,os⟩:Shared).TypeIs (.ref a) "list":=⟨_,hx,rfl⟩;have f1:=ZbB;unfold Builtin.«object.__getattribute__»
 repeat (any_goals (first|assumption|wp_step))
 exact wpAny_raiseAttrError hh hE (attrMsg_fits (by decide +kernel) (by decide +kernel))
theorem zcu   (hx:h.get? a=some (xX av n))(hh:A.handled=none)
  (hR:∀ h' ju e,Gd h h' e (.ref a) "keys"->R (.error (.ref e)) ⟨h',g,d,ju,os⟩) :
  bI (ah prog w) A (.call (.builtin "list.__getattribute__") ⟨[.ref a,.str "keys" tk],[]⟩) R ⟨h,g,d,t,os⟩ :=
 bU kh.plain PySem.F.entry_list_ga (kh.check _ _ _ _ _ _ _ _ (show(⟨h,g,d,t,os⟩:Shared).TypeIs (.ref a) "list" from⟨_,hx,rfl⟩) (PySem.F.args_list_getattribute_2 _ _) (zb6 hx hh hR))
theorem AV    (hx:h.get? a=some (xX av n))(hh:A.handled=none)
  (hE:∀ h' ju e,Gd h h' e (.ref a) "keys"->E (.ref e) ⟨h',g,d,ju,os⟩) :
  ag (ah prog w) A (getAttrBy (.ref a) (.str "keys" tk) false) Q E ⟨h,g,d,t,os⟩:=by
 have hT:(⟨h,g,d,t,os⟩:Shared).TypeIs (.ref a) "list":=⟨_,hx,rfl⟩;have f2:=kh.lookup;have f3:=kh.bind (.ref a);have f4:=Ych
 repeat (any_goals (first|assumption|wp_step))
 refine zcu hx hh λh' ju e ne=>?_;obtain⟨t',u',he⟩:=ne.there;have f5:=gP;show ag _ _ (gU _ _ _ _ _ _ _) _ _ _;unfold gU
 repeat (any_goals (first|assumption|wp_step))
 exact hE _ _ _ ne
theorem zcz   (hx:h.get? a=some (xX av n))(hh:A.handled=none)
  (hQ:∀ h' ju,(∀ b o,h.get? b=some o->h'.get? b=some o)->Q none ⟨h',g,d,ju,os⟩) :
  ag (ah prog w) A (getAttr? (.ref a) "keys") Q E ⟨h,g,d,t,os⟩:=by
 have f5:=gP;unfold getAttr? getAttrBy?
 repeat (any_goals (first|assumption|with_reducible apply AV hx hh|wp_step))
 intro h' ju e ne;obtain⟨t',u',he⟩:=ne.there
 repeat (any_goals (first|assumption|wp_step))
 exact hQ _ _ ne.keeps
end
theorem qW:plainId "dict.update.loop"=true:=by decide +kernel
theorem Pn:lL table "dict.update.loop"=some Builtin.«dict.update.loop»:=entryFor_of_fast (by kernel_rfl)
noncomputable def yk(ps:List (List Key×ae×Value))(xs:List (List Key×ae×Value)):List (List Key×ae×Value):=ps.foldl (λacc p=>eA acc p.1 p.2.1 p.2.2) xs
theorem zbb{K:Type} [DecidableEq K] (xs:List (K×ae×Value))(k:K)(a)(v):(eA xs k a v).length<=xs.length+1:=by
 unfold eA;split <;> simp
theorem Q7:∀(ps xs:List (List Key×ae×Value)),(yk ps xs).length<=xs.length+ps.length
 |[],xs=>by simp[yk]
 |p::ps,xs=>by
  have h1:=Q7 ps (eA xs p.1 p.2.1 p.2.2);have h2:=zbb xs p.1 p.2.1 p.2.2;show(yk ps (eA xs p.1 p.2.1 p.2.2)).length<=_;simp only[Uc];lia
section
variable {prog:ak} {w:World} {A:Around} {R:iM->Shared->Prop} {D I l:ae} {items:Array Value} {h₀:Heap}
noncomputable def Ycs(prog:ak)(w:World)(h:Heap)(items:Array Value)(ps:List (List Key×ae×Value)):Prop :=
 ∀(i:Nat)(v:Value),items[i]?=some v->∃ T p,v=.ref T/\ps[i]?=some p/\gK h T #[.ref p.2.1,p.2.2]/\(aA (ze prog w)).is h p.1 p.2.1
theorem M5{h h':Heap}{xs:List (List Key×ae×Value)}{i:Nat}(x:h.DictOfH (aA (ze prog w)) D xs)(BF:D≠I)(st:h.IsListIter I l i)(sb:∀ b o,b≠I->h.get? b=some o->h'.get? b=some o):h'.DictOfH (aA (ze prog w)) D xs:=by
 obtain⟨o,es,ep,e1,e2,e3,e4,e5,e6⟩:=x;refine⟨o,es,ep,sb D o BF e1,e2,e3,e4,λy hy=>?_,e6⟩;obtain⟨o',av,n,k1,k2,k3⟩:=e5 y hy;refine⟨o',av,n,sb _ _ (λe=>?_) k1,k2,k3⟩;obtain⟨o2,q1,q2,_⟩:=st;rw[e,q1] at k1;cases k1;rw[q2] at k2;exact absurd k2 (by decide)
theorem ZaL(ps:List (List Key×ae×Value))(i:Nat)(p:List Key×ae×Value)(h:ps[i]?=some p):yk (ps.take (i+1)) []=eA (yk (ps.take i) []) p.1 p.2.1 p.2.2:=by
 unfold yk;rw[ww,h];simp
theorem Ycg(hu:A.units+2<cT)(hh:A.handled=none)(ps:List (List Key×ae×Value))(hps:ps.length=items.size)(hz:items.size<sizeLine)(BF:D≠I)(HB:l≠I)(hlD:l≠D)
  (AX:∀ h',(∀ b o,b≠D->b≠I->h₀.get? b=some o->h'.get? b=some o)->Ycs prog w h' items ps) :
  ∀(m i:Nat)(s:Shared)(t:Tok),items.size-i=m->i<=items.size->s.heap.IsListIter I l i->s.heap.IsList l items->(∀ b o,b≠D->b≠I->h₀.get? b=some o->s.heap.get? b=some o) ->
  s.heap.DictOfH (aA (ze prog w)) D (yk (ps.take i) []) ->
  (∀ h' tk,h'.DictOfH (aA (ze prog w)) D (yk ps [])->(∀ b o,b≠D->b≠I->h₀.get? b=some o->h'.get? b=some o)->R (.ok (.ret .none)) {s with heap:=h',toks:=tk}) ->
  bI (ah prog w) A (.builtin "dict.update.loop" ⟨[.ref D,.ref I,.int i t,.none],[]⟩) R s:=by
 intro m
 induction m with
 |zero =>
  intro i s t hm hi st hl hk hd hR;have kL:i=items.size:=by lia
  refine bO Pn ?_;rw[jg qW _];show ag _ A.in1 (cX (.ref I) >>= _) _ _ s;refine aa (fF hh st hl (by simp[kL]) λh' eb=>?_);show ag _ _ (Kp D [] >>= _) _ _ _;refine aa (af (af (hR h' _ ?_ λb o h1 h2 e=>eb b o h2 (hk b o h1 h2 e))));have:=M5 hd BF st eb
  rwa [kL,<- hps,Uo] at this
 |succ m ih =>
  intro i s t hm hi st hl hk hd hR;have mD:i<items.size:=by lia
  refine bO Pn ?_;rw[jg qW _];show ag _ A.in1 (cX (.ref I) >>= _) _ _ s;refine aa (e8 st hl (x:=items[i]) (by simp[mD]) λh' kI sb=>?_);have jW:∀ b o,b≠D->b≠I->h₀.get? b=some o->h'.get? b=some o:=λb o h1 h2 e=>(sb.2 b h2).trans (hk b o h1 h2 e);obtain⟨T,p,e1,e2,e3,e4⟩:=AX h' jW i items[i] (by simp[mD]);have sC:=M5 hd BF st sb.extBut;obtain⟨oT,t1,t2,tn,t3⟩:=e3;have hlen:(yk (ps.take i) []).length<=sizeLine:=by
   have:=Q7 (ps.take i) [];simp only[vh,Vm] at this
   lia
  rw[e1];show ag _ _ (cx _ _ >>= _) _ _ _;refine aa (aI ?_);refine aa (bD (aa (cE (T:="tuple") ⟨oT,t1,t2⟩ ?_)));rw[if_pos (by decide)];refine aa (aK t1 t3 (af ?_));show ag _ _ (cx [ka p.2.1,p.2.2] (dictSet D (.ref p.2.1) p.2.2)) _ _ _;refine aI (wpAny_dictSet_heap (knd:=aA (ze prog w)) (dN (by lia)) e4 sC (λuJ HR rO=>?_) hlen);refine af ⟨b8 qW _,?_⟩;have HG:∀ b o,b≠D->b≠I->h₀.get? b=some o->uJ.get? b=some o:=λb o h1 h2 e=>(rO.2 b h1).trans (jW b o h1 h2 e);refine ih (i+1) _ _ (by lia) mD (kI.at λo e=>(rO.2 I (Jd BF)).trans e) (hl.at λo e=>(rO.2 l hlD).trans ((sb.2 l HB).trans e)) HG (by rw[ZaL ps i p e2];exact HR) λh3 tk hd3 hk3=>hR h3 tk hd3 hk3
end
section
variable {X:Cx}
noncomputable def Gs(H:Hp):List V->List (List Key×V)->Prop:=bW λv kv=>∃ T K,v=V.ref T/\H T=some (.tup [.ref K,kv.2])/\H K=some (.tup (kv.1.map kV))
noncomputable def Zy(kJ kvs:List (List Key×V)):List (List Key×V):=kJ.foldl (λacc kv=>qC acc kv.1 kv.2) kvs
theorem K6:∀(kJ kvs:List (List Key×V)),(Zy kJ kvs).length<=kvs.length+kJ.length
 |[],kvs=>by simp[Zy]
 |p::kJ,kvs=>by
  have h1:=K6 kJ (qC kvs p.1 p.2);have h2:=qH kvs p.1 p.2;show(Zy kJ (qC kvs p.1 p.2)).length<=_;simp only[Uc];lia
theorem PM     (ok:fB P w H h):∀{vs:List V}{kJ:List (List Key×V)} {us:List Value},Gs H vs kJ->Vals vs us ->
  ∃ ps,KT H kJ ps/\ps.length=us.length/\∀(i:Nat)(v:Value),us[i]?=some v->∃ T p,v=.ref T/\ps[i]?=some p/\gK h T #[.ref p.2.1,p.2.2]/\(aA (ze P w)).is h p.1 p.2.1
 |_,_,_,.nil,.nil=>⟨[],.nil,rfl,λi v e=>by simp at e⟩
 |_,_,_,.cons (a:=v) (b:=kv) hv tv,.cons (b:=u) hu tu=>by
  obtain⟨ps,k1,k2,k3⟩:=PM ok tv tu;obtain⟨T,K,rfl,hT,hK⟩:=hv;obtain rfl:u=ka T:=hu;obtain⟨_,av,r,o,e1,e2,n,e3⟩:=ok T _ hT
  rcases av with _|⟨x,_|⟨y,_|⟨z,av⟩⟩⟩
  ·cases r
  ·cases r with|cons _ t=>cases t
  ·cases r with
   |cons hx t=>cases t with
    |cons hy t =>
     obtain rfl:x=ka K:=hx;refine⟨(kv.1,K,y)::ps,.cons ⟨rfl,hK,hy⟩ k1,by simp[k2],λi v e=>?_⟩;cases i with
     |zero=>simp at e;subst e;exact⟨T,_,rfl,rfl,⟨o,e1,e2,n,by simpa using e3⟩,CM ok hK⟩
     |succ i=>simpa using k3 i v (by simpa using e)
  ·cases r with|cons _ t=>cases t with|cons _ t=>cases t
theorem YcP    (k:KT H kJ ps):∀{kvs:List (List Key×V)} {xs:List (List Key×ae×Value)},KT H kvs xs->KT H (Zy kJ kvs) (yk ps xs):=by
 induction k with
 |nil=>intro kvs xs r;exact r
 |@cons p q as bs h t ih =>
  intro kvs xs r;have e:=r.put p.1 (b:=q.2.1) h.2.1 h.2.2;show KT H (Zy as (qC kvs p.1 p.2)) (yk bs (eA xs q.1 q.2.1 q.2.2));rw[<- h.1];exact ih e
noncomputable def qc0:List V->Hp->VK->Prop:=λxs H Q=>∃ a vs kJ,xs=[.ref a]/\Rd H a (.lst vs)/\Gs H vs kJ/\kJ.length<sizeLine/\∀ p o,H p=none->Q (.ref p) (upd H p (.eQ o (.dT (Zy kJ []))))
theorem qbr(hc:X.calm=true)(hu:X.A.units+3<cT):aH X (.type "dict") qc0:=by
 intro pins s σ H xs us Q I r h;obtain⟨a,vs,kJ,rfl,ha,pv,hz,q⟩:=h;obtain rfl:=YM r;obtain⟨_,av,n,rv,hg⟩:=ha.ok I.aL;obtain⟨ps,k1,k2,k3⟩:=PM I.aL pv rv;have hh:=I.ok.hd hc;have hlk:kJ.length=ps.length:=Fc k1;have Nj:a<s.heap.objs.size:=ua hg;refine callType_codes (Q₁:=λobj s₁=>obj=.ref s.heap.objs.size/\s₁={s with heap:=s.heap.push {cls:=.type "dict",data:=.dict #[]}}) PySem.F.kt_called_dict (PySem.F.kt_typeCall_dict_1 _) PySem.F.entry_dict_init (kt_code_dict_new _ ⟨rfl,rfl⟩) ?_;rintro obj s₁ ⟨rfl,rfl⟩;obtain⟨_,G5,xs0,r0,oD,es0,ep0,d1,d2,d3,d4,d5⟩:=KW (P:=X.prog) (w:=X.w) (H:=H) s.heap I.big;cases r0;generalize pW:s.heap.push {cls:=.type "dict",data:=.dict #[]}=h1 at d1;have HK:h1.get? a=some (xX av.toArray n):=by rw[<- pW];exact wa _ hg
 have sz1:h1.objs.size=s.heap.objs.size+1:=by rw[<- pW];simp
 have kp1:∀ b o,s.heap.get? b=some o->h1.get? b=some o:=λb o e=>by rw[<- pW];exact wa _ e
 refine⟨⟨oD,d1,d2.1⟩,PySem.F.args_dict_init_2 _ _,?_⟩;unfold Builtin.«dict.__init__»;refine aa ?_;unfold Go;refine aa (fG ⟨oD,d1,d2.1⟩ ?_);show ag _ _ (pure (s.heap.objs.size,[ka a])) _ _ _;refine af ?_;show ag _ _ (Jo "dict.__init__" s.heap.objs.size (.ref a) [] .none) _ _ _;unfold Jo;refine aa (cE (T:="list") ⟨_,HK,rfl⟩ ?_);rw[if_pos (by decide)];refine aa (zcz HK hh λh2 L9 rY=>?_);have hg2:=rY _ _ HK;rw[if_pos (by decide)];refine aa (cV ?_);refine aa (eu (items:=av.toArray) ⟨_,hg2,rfl,n,rfl⟩ ?_);refine af ⟨b8 qW _,?_⟩;generalize DO:h2.push {cls:=.type "list_iterator",data:=.fields #[.ref a,.int 0 0]}=h3;have Nn:∀ b o,h2.get? b=some o->h3.get? b=some o:=λb o e=>by rw[<- DO];exact wa _ e
 have kp:∀ b o,s.heap.get? b=some o->h3.get? b=some o:=λb o e=>Nn _ _ (rY _ _ (kp1 _ _ e));have Dw:s.heap.objs.size<h2.objs.size:=ua (rY _ _ d1);refine Ycg (A:=X.A.in1) (D:=s.heap.objs.size) (I:=h2.objs.size) (l:=a) (items:=av.toArray) (h₀:=s.heap) (by show X.A.units+1+2<cT;lia) hh ps (by simp[k2]) (by rw[wc,<- k2,<- hlk];exact hz) (Ub Dw) (Ub (Xn Nj Dw)) (Ub Nj)
  (λh' kk i v e=>?_) av.toArray.size 0 _ (0:Tok) (by simp) (Wn _) ?_ ?_ ?_ ?_ λh' tk hd hk=>?_
 ·obtain⟨T,p,e1,e2,⟨oT,t1,t2⟩,oK,iK,nK,q1,q2⟩:=k3 i v (by simpa using e);have up:∀ b o,s.heap.get? b=some o->h'.get? b=some o:=λb o e=>kk b o (Ub (ua e)) (Ub (Xn (ua e) Dw)) e;exact⟨T,p,e1,e2,⟨oT,up _ _ t1,t2⟩,oK,iK,nK,up _ _ q1,q2⟩
 ·exact⟨_,by rw[<- DO];exact wb _ rfl,rfl,rfl⟩
 ·exact⟨_,kp _ _ hg,rfl,n,rfl⟩
 ·exactλb o _ _ e=>kp _ _ e
 ·refine⟨oD,es0,ep0,Nn _ _ (rY _ _ d1),d2,d3,?_,λx hx=>?_,?_⟩
  ·simpa[yk] using d4
  ·simp[yk] at hx
  ·simp[yk]
 ·obtain⟨o,es,ep,e1,e2,e3,e4,e5,e6⟩:=hd;have up:∀ b o,s.heap.get? b=some o->h'.get? b=some o:=λb o e=>hk b o (Ub (ua e)) (Ub (Xn (ua e) Dw)) e;have fr:H s.heap.objs.size=none:=I.aL.fresh (Ua _);refine⟨rfl,.ref s.heap.objs.size,_,I.laid (a:=s.heap.objs.size) (o:=.eQ o (.dT (Zy kJ []))) (t':=tk) up (Ua _) ⟨e1,?_⟩,rfl,q _ o fr⟩;refine⟨?_,G5,yk ps [],?_,o,es,ep,e1,e2,e3,e4,e6⟩
  ·have:=K6 kJ [];simp only[vh] at this
   lia
  ·exact(YcP k1 (kvs:=[]) (xs:=[]) .nil).keeps λb ys e=>by rw[qc (yf e fr)];exact e
end
end L3
end
section
namespace L3
open PySem PySem.Spec PyProof.Rows L2 M3
noncomputable def NN:Nat:=11400714785074694791
noncomputable def uI:Nat:=14029467366897019727
noncomputable def D5:Nat:=2870177450012600261
noncomputable def Ig:Nat:=839798700976720815
noncomputable def hM:Nat:=18446744073709551616
noncomputable def uQ(x:Nat):Nat:=((x*2147483648)%hM+x/8589934592)*NN%hM
noncomputable def hI1:Nat:=614540362697595703
theorem ycA:NN*hI1%hM=1:=by decide +kernel
theorem ZcI:uI*Ig%hM=1:=by decide +kernel
theorem zbn  (hi:p*i%hM=1)(h:x*p%hM=y*p%hM):x%hM=y%hM:=by
 have e:∀ z,(z*p%hM)*i%hM=z%hM:=λz=>by
  rw[Ww (z*p%hM),Nat.mod_mod,<- Ww,Nat.mul_assoc,Ww,hi];simp
 rw[<- e x,<- e y,h]
theorem MQ  (hx:x<hM):(x*2147483648)%hM+x/8589934592=(x%8589934592)*2147483648+x/8589934592:=by
 have e:x*2147483648=(x%8589934592)*2147483648+hM*(x/8589934592):=by unfold hM;lia
 rw[e,Nat.add_mul_mod_self_left,wn];unfold hM;lia
theorem qbY  (hx:x<hM)(hy:y<hM)(h:uQ x=uQ y):x=y:=by
 have:=zbn ycA h;rw[MQ hx,MQ hy] at this;have q1:x/8589934592<2147483648:=by unfold hM at hx;lia
 have q2:y/8589934592<2147483648:=by unfold hM at hy;lia
 have r1:x%8589934592<8589934592:=Vn _ (by lia);have r2:y%8589934592<8589934592:=Vn _ (by lia);have x1:=Up x 8589934592;have y1:=Up y 8589934592;generalize x/8589934592=q at *;generalize y/8589934592=q' at *;generalize x%8589934592=r at *;generalize y%8589934592=r' at *;rw[wn (by unfold hM;lia),wn (by unfold hM;lia)] at this;omega
noncomputable def pB(a:Nat):Nat:=uQ ((D5+a*uI)%hM)
noncomputable def mh(a b:Nat):Nat:=uQ ((pB a+b*uI)%hM)
noncomputable def nO(z:Nat):Nat:=(z+(2 ^^^ (D5 ^^^ 3527539)))%hM
noncomputable def hG(a:Nat):Nat:=pB a*Ig%hM
noncomputable def Zw:Nat:=64
theorem Lz:∀ a<Zw,∀ c<Zw,a≠c->Zw<=(hG a+(hM-hG c))%hM:=by decide +kernel
theorem J3:∀ a<Zw,∀ b<Zw,nO (mh a b)≠hM-1:=by decide +kernel
theorem Zb2  (ha:a<Zw)(hb:b<Zw)(hc:c<Zw)(hd:d<Zw)(h:mh a b=mh c d):a=c/\b=d:=by
 have hm:0<hM:=by decide
 have h1:=qbY (Vn _ hm) (Vn _ hm) h;have h2:(hG a+b)%hM=(hG c+d)%hM:=by
  have e:∀ u v,((pB u+v*uI)%hM*Ig)%hM=(hG u+v)%hM:=λu v=>by
   rw[Ww,Nat.mod_mod,<- Ww,VC,Nat.add_mod,Nat.mul_assoc,Ww v,ZcI];unfold hG;simp[Nat.add_mod]
  rw[<- e,<- e,h1]
 by_cases DY:a=c
 ·refine⟨DY,?_⟩;rw[DY] at h2;have:hG c<hM:=Vn _ hm;unfold hM Zw at *
  lia
 ·exfalso;have q1:=Lz a ha c hc DY;have q2:=Lz c hc a ha (Jd DY);have l1:hG a<hM:=Vn _ hm;have l2:hG c<hM:=Vn _ hm;generalize hG a=x at *;generalize hG c=y at *;unfold hM Zw at *
  lia
theorem Qx:∀ a<Zw,ib (a:Int)=(a:Int):=by decide +kernel
noncomputable def rJ(m p1 p2 p5 q u v:Nat)(hashes:List Int):Int :=
 let acc:=hashes.foldl (init:=p5) λacc h =>
  let acc:=(acc+(h%(m:Int)).toNat*p2)%m
  let acc:=(acc*u)%m+acc/v
  (acc*p1)%m
 let acc:=(acc+(hashes.length ^^^ q))%m
 if acc==m-1 then 1546275796 else if acc<2^63 then acc else(acc:Int)-m
noncomputable def IW(m p1 u v x:Nat):Nat:=((x*u)%m+x/v)*p1%m
noncomputable def xY(m p1 p2 p5 u v a b:Nat):Nat:=IW m p1 u v ((IW m p1 u v ((p5+(a%m)*p2)%m)+(b%m)*p2)%m)
theorem ycU(hs):Hj hs=rJ (2^64) 11400714785074694791 14029467366897019727 2870177450012600261 (2870177450012600261 ^^^ 3527539) (2^31) (2^33) hs:=rfl
theorem yci(m p1 p2 p5 q u v a b:Nat):rJ m p1 p2 p5 q u v [(a:Int),(b:Int)]=if(xY m p1 p2 p5 u v a b+(2 ^^^ q))%m=m-1 then 1546275796 else if(xY m p1 p2 p5 u v a b+(2 ^^^ q))%m<2^63 then(((xY m p1 p2 p5 u v a b+(2 ^^^ q))%m:Nat):Int) else(((xY m p1 p2 p5 u v a b+(2 ^^^ q))%m:Nat):Int)-(m:Int):=by
 have e:∀ x:Nat,((x:Int)%(m:Int)).toNat=x%m:=λx=>by
  rw[<- Int.natCast_emod,Uj]
 simp only[rJ,xY,IW,Wh,List.foldl_nil,beq_iff_eq,Uc,vh,e,uq,Nat.reduceAdd];rfl
theorem Ae:(2^64:Nat)=hM:=by decide +kernel
theorem Ah:(2^31:Nat)=2147483648:=by decide +kernel
theorem Ag:(2^33:Nat)=8589934592:=by decide +kernel
theorem Af:(2^63:Nat)=9223372036854775808:=by decide +kernel
noncomputable def uW(a b:Nat):Nat:=nO (uQ ((uQ ((D5+(a%hM)*uI)%hM)+(b%hM)*uI)%hM))
theorem qbU(a b:Nat):Hj [(a:Int),(b:Int)]=if uW a b=hM-1 then 1546275796 else if uW a b<9223372036854775808 then(uW a b:Int) else(uW a b:Int)-(hM:Int):=by
 have h:=yci (2^64) 11400714785074694791 14029467366897019727 2870177450012600261 (2870177450012600261 ^^^ 3527539) (2^31) (2^33) a b;rw[<- ycU,Ae,Ah,Ag,Af] at h;exact h
noncomputable def C'(a b:Nat):Int:=if nO (mh a b)<9223372036854775808 then(nO (mh a b):Int) else(nO (mh a b):Int)-(hM:Int)
theorem Pc  (ha:a<Zw)(hb:b<Zw):Hj [(a:Int),(b:Int)]=C' a b:=by
 have l:Zw<hM:=by decide
 rw[qbU];have e:uW a b=nO (mh a b):=by
  unfold uW mh pB;rw[wn (Xn ha l),wn (Xn hb l)]
 rw[e];rw[if_neg (J3 a ha b hb)];rfl
theorem qbX  (ha:a<Zw)(hb:b<Zw)(hc:c<Zw)(hd:d<Zw)(h:dQ (C' a b)=dQ (C' c d)):a=c/\b=d:=by
 have n1:=J3 a ha b hb;have n2:=J3 c hc d hd;have l1:nO (mh a b)<hM:=Vn _ (by decide);have l2:nO (mh c d)<hM:=Vn _ (by decide);have r:∀ z:Nat,z<hM->z≠hM-1->dQ (if z<9223372036854775808 then(z:Int) else(z:Int)-(hM:Int))=if z<9223372036854775808 then(z:Int) else(z:Int)-(hM:Int):=λz l n=>by
  unfold hM at *;unfold dQ;split
  ·rw[if_pos (by simp;lia),if_neg (by simp)]
  ·rw[if_pos (by simp;lia),if_neg (by simp;lia)]
 unfold C' at h;rw[r _ l1 n1,r _ l2 n2] at h;have e:nO (mh a b)=nO (mh c d):=by
  unfold hM at *;split at h <;> split at h <;> lia
 refine Zb2 ha hb hc hd ?_;have s1:mh a b<hM:=Vn _ (by decide);have s2:mh c d<hM:=Vn _ (by decide);unfold nO at e;generalize (2 ^^^ (D5 ^^^ 3527539))=k at e;unfold hM at *
 lia
noncomputable def I0(k:Int×Int):Prop:=(0<=k.1/\k.1<64)/\0<=k.2/\k.2<64
theorem Yb7    (h1:I0 k)(h2:I0 k')(h:(aA (ze P w)).hash [(Jb k.1:Key),Jb k.2]=(aA (ze P w)).hash [(Jb k'.1:Key),Jb k'.2]):k=k':=by
 obtain⟨a,b⟩:=k;obtain⟨c,d⟩:=k';obtain⟨⟨a0,a1⟩,b0,b1⟩:=h1;obtain⟨⟨c0,c1⟩,d0,d1⟩:=h2;simp only at a0 a1 b0 b1 c0 c1 d0 d1;obtain⟨a,rfl⟩:=Vd a0;obtain⟨b,rfl⟩:=Vd b0;obtain⟨c,rfl⟩:=Vd c0;obtain⟨d,rfl⟩:=Vd d0;have la:a<Zw:=by unfold Zw;lia
 have lb:b<Zw:=by unfold Zw;lia
 have lc:c<Zw:=by unfold Zw;lia
 have ld:d<Zw:=by unfold Zw;lia
 have h:dQ (Hj [ib a,ib b])=dQ (Hj [ib c,ib d]):=h;rw[Qx a la,Qx b lb,Qx c lc,Qx d ld,Pc la lb,Pc lc ld] at h;obtain⟨rfl,rfl⟩:=qbX la lb lc ld h;rfl
end L3
end
section
namespace L3
open PySem PySem.Spec PyProof.Rows L2 M3
theorem K'{α:Type}(f:α->Int):∀(l:List α)(c:Int),(l.map f).Nodup->(l.filter λx=>f x==c).length<=1
 |[],_,_=>by simp
 |x::l,c,h=>by
  rw[xb,Xk] at h;have ih:=K' f l c h.2;by_cases e:f x=c
  ·have z:(l.filter λx=>f x==c)=[]:=by
    rw[List.filter_eq_nil_iff];intro y hy q;exact h.1 (ud.mpr ⟨y,hy,by rw[e];simpa using q⟩)
   simp[wx,e,z]
  ·simp[wx,e];exact ih
section
variable {prog:ak} {w:World} {A:Around} {E:Value->Shared->Prop} {s:Shared} {K:Type} [DecidableEq K] {knd:KeyKind prog w K}
theorem Zbc   (hT:s.TypeIs (.ref a) "tuple")(h:Q false s):ag (ah prog w) A (Jp (.ref a)) Q E s:=by
 unfold Jp;refine aa (iS hT PySem.F.slot_tuple_eq.lookup ?_);exact af h
theorem qcC{id:String}{d:ae}{o:Obj}{es:Array gu}{ep:Nat}{xs:List (List K×ae×Value)}{Q:Array gu->Shared->Prop}(ho:s.heap.get? d=some o)(hd:o.data=.dict es ep)
  (he:es.toList=xs.map (jI (aA knd))) (his:∀ x∈xs,(aA knd).is s.heap x.1 x.2.1) (hn:(xs.map λx=>(aA knd).hash x.1).Nodup) (h:Q es s) :
  ag (ah prog w) A (Ho id d) Q E s:=by
 unfold Ho;refine aa (cH ho hd (aa ?_));rw[<- Array.forIn_toList];have sD:∀ c:Int,¬(es.filter λe=>e.hash==c).size>1:=λc q=>by
  have h1:(es.filter λe=>e.hash==c).size=(es.toList.filter λe=>e.hash==c).length:=by rw[<- Array.toList_filter,wm]
  have h2:=K' (λe:gu=>e.hash) es.toList c (by rw[he,Ue];exact hn)
  lia
 refine wpAny_forIn_list _ (λrest _ s'=>s'=s/\∀ e∈rest,∃ x∈xs,e=jI (aA knd) x) _ ?_ ?_ _ _ ⟨rfl,λe hm=>?_⟩
 ·rintro e rest b s' ⟨rfl,hr⟩;obtain⟨x,hx,rfl⟩:=hr e (xg);obtain⟨ok,ik,nk,k1,k2,k3⟩:=his x hx;refine aa (Zbc ⟨ok,k1,k2⟩ ?_);rw[if_pos (by rfl)];rw[if_neg (sD _)];exact af ⟨rfl,λe he=>hr e (Ve _ he)⟩
 ·rintro b s' ⟨rfl,_⟩;exact af h
 ·rw[he] at hm;obtain⟨x,hx,rfl⟩:=ud.mp hm;exact⟨x,hx,rfl⟩
theorem qbW{nm:String}{d o:ae}{xs more:List (List K×ae×Value)}{Q:Unit->Shared->Prop}(hdo:d≠o)(hoS:(o==bo)=false)
  (hd:s.heap.DictOfH (aA knd) d xs) (ho:s.heap.DictOfH (aA knd) o more) (hz:more.length<=sizeLine) (hn:(more.map λx=>(aA knd).hash x.1).Nodup) (hx:xs=[]\/more=[])
  (hQ:∀ h',h'.DictOfH (aA knd) d (if more=[] then xs else more)->Hd d s.heap h'->Q () {s with heap:=h'}) :
  ag (ah prog w) A (jp nm d o) Q E s:=by
 obtain⟨od,esd,epd,d1,d2,d3,d4,d5,d6⟩:=id hd;obtain⟨oo,BL,epo,o1,o2,o3,o4,o5,o6⟩:=id ho;have hlen:BL.size=more.length:=by rw[<- wm,o4,Wc]
 unfold jp;rw[if_neg (by simpa using hdo)];unfold Builtin.Dict.showsAll;rw[if_neg (by rw[hoS];exact Uh)];refine aa (af ?_);refine aa (cH o1 o3 ?_);by_cases hm:more=[]
 ·subst hm;obtain rfl:BL=#[]:=by
   apply vx;rw[hlen];rfl
  rw[if_neg (by simp)];refine aa (wpAny_dictEpoch o1 o3 ?_);refine aa (cH o1 o3 ?_);have hq:=hQ s.heap (by rw[if_pos rfl];exact hd) (Heap.SameBut.refl _ _);refine aa ?_;rw[Std.Legacy.Range.forIn_eq_forIn_range'];simp only[Std.Legacy.Range.size,wc,vh,Vx,Nat.add_sub_cancel,Nat.div_one,List.range'_zero,XD];exact af (af hq)
 ·obtain rfl:xs=[]:=hx.resolve_right hm;have he:esd=#[]:=by
   apply vx;rw[<- wm,d4];rfl
  subst he;have nF:(decide (BL.size<=8)&&BL.all λe=>(keyPart e.key).isSome)=false:=by
   rw[Bool.and_eq_false_iff]
   right
   rw[<- Array.all_toList,o4];cases more with
   |nil=>exact absurd rfl hm
   |cons x r=>rfl
  simp only[nF];rw[if_pos (by rfl)];refine aa (cH d1 d3 ?_);rw[if_pos (by rfl)];refine aa (qcC o1 o3 o4 o5 hn ?_);have jV:BL.isEmpty=false:=by
   rw[Array.isEmpty_eq_false_iff];intro z;rw[z] at hlen;exact hm (List.length_eq_zero_iff.mp (by simpa using hlen.symm))
  rw[if_pos (by rw[jV];rfl)];refine aa (wpAny_updateDictKeysTo d1 d3 (af (hQ _ ?_ (jm ..))) (by lia));rw[if_neg hm];refine⟨_,_,epd+1,Xp _ d1 (Obj.isFreed_of_dict (Gk d3 _)),d2.mapDictKeys _,Gk d3 _,o4,λx hx=>?_,o6⟩;exact(aA knd).keeps (o5 x hx) d1 d3 (jm ..)
end
theorem ZbO:typeOf (.builtin "dict.update")=pure (.type "method_descriptor"):=by
 show builtinType _=_;rw[builtinType_eq_fast]
 kernel_rfl
theorem Ybw:lL table "dict.update"=some Builtin.«dict.update»:=entryFor_of_tree (by kernel_rfl)
theorem ybT(u v):ma "dict.update" ⟨[u,v],[]⟩:=by
 unfold ma;rw[j6 (id:="dict.update") (n:="etadpu".toList) (o:="tcid".toList) (by kernel_rfl) PySem.F.owner_dict]
 kernel_rfl
section
variable {X:Cx} {pins:List (ae×Obj)} {σ:L2.St} {H:Hp} {s:Shared} {a b:ae} {A:Around} {E:Value->Shared->Prop}
theorem Zck   (I:Inv X pins σ H s)(ea:H a=some (.dT kvs))(eb:Rd H b (.dT more))(jV:a≠b)(hx:kvs=[]\/more=[])
  (hn:(more.map λx=>(aA (ze X.prog X.w)).hash x.1).Nodup) (h:∀ s',Inv X pins σ (upd H a (.dT (if more=[] then kvs else more))) s'->Q .none s') :
  ag (ah X.prog X.w) A (call (.builtin "dict.update") [.ref a,.ref b]) Q E s:=by
 obtain⟨za,ha,xs,ra,da⟩:=Lo I.aL ea;obtain⟨zb,hb,ys,rb,db⟩:=EE I.aL eb;have hl:=Fc rb;have hk:∀(l:List (List Key×V)) (m:List (List Key×ae×Value)),KT H l m->(m.map λx=>(aA (ze X.prog X.w)).hash x.1)=l.map λx=>(aA (ze X.prog X.w)).hash x.1:=by
  intro l m r
  induction r with
  |nil=>rfl
  |cons h t ih=>rw[xb,xb,ih,h.1]
 have e1:xs=[]\/ys=[]:=by
  rcases hx with rfl|rfl
  ·left;cases ra;rfl
  ·right;cases rb;rfl
 refine bg Hh da.typeIs Ybw ?_ (ybT _ _);unfold Builtin.«dict.update»;refine aa ?_;unfold Go;refine aa (fG da.typeIs ?_);show ag _ _ (pure (a,[ka b])) _ _ s;refine af ?_;show ag _ _ (Jo "dict.update" a (.ref b) [] .none) _ _ s;unfold Jo;refine aa (cE db.typeIs ?_);rw[if_neg (by decide)];refine aa ?_;unfold Builtin.Dict.merge;refine aa ?_;unfold Builtin.Dict.readDirectly;refine aa (iD db.typeIs isSubtype_dict_dict ?_);simp only[Bool.not_true,Uk,if_false];refine aa (iS db.typeIs PySem.F.slot_dict_iter.lookup (af ?_));simp only[beq_self_eq_true,if_true];refine aa (af ?_);refine qbW (knd:=ze X.prog X.w) jV hb da db (by rw[<- hl];exact zb) (by rw[hk _ _ rb];exact hn) e1 λh' dd hs=>?_;show ag _ _ (Kp a [] >>= _) _ _ _;refine aa (af (af ⟨_,rfl,h _ ?_⟩));obtain⟨q,es,ep,hq,h2,h3,h4,_,h5⟩:=dd;have kt:KT H (if more=[] then kvs else more) (if ys=[] then xs else ys):=by
  by_cases z:more=[]
  ·have z2:ys=[]:=by subst z;cases rb;rfl
   rw[if_pos z,if_pos z2];exact ra
  ·have z2:ys≠[]:=λz3=>z (by subst z3;cases rb;rfl);rw[if_neg z,if_neg z2];exact rb
 refine Ez (t':=s.toks) I (by rw[ea];exact Kg) hs ⟨q,hq⟩ ⟨by split <;> assumption,ha,_,kt.keeps λc ys ec=>?_,q,es,ep,hq,h2,h3,h4,h5⟩;rw[qc (PH ec ea (λz=>nomatch z))];exact ec
end
noncomputable def wK(X:Cx)(td ty:TE):TE:=λσ H Q=>td σ H λx H1=>∃ a,x=.ref a/\Rr H1 a/\ty σ H1 λy H2=>∃ b kvs more,y=.ref b/\H2 a=some (.dT kvs)/\Rd H2 b (.dT more)/\a≠b/\(kvs=[]\/more=[]) /\
 (more.map λx=>(aA (ze X.prog X.w)).hash x.1).Nodup/\Q .bG (upd H2 a (.dT (if more=[] then kvs else more)))
theorem ycr     (ho:PE X o td)(he:PE X e ty)(m:M1 X o "update" apos e ip):PE X (.Call (.Attribute o "update" apos) [e] [] ip) (wK X td ty):=by
 intro pins s σ H Q I h;refine wpAny_Call_method m.base m.few m.line PySem.F.plainAttrs_dict Hh ZbO (bc (ho pins s σ H _ I h) λu s1 ⟨x,H1,I1,rx,a,ex,d,q1⟩=>?_);subst ex;obtain rfl:u=ka a:=rx;obtain⟨t1,t2,_⟩:=Qc4 I1 d;refine⟨t1,t2,?_⟩;rw[m.trees];refine Ge rfl (Kf (Ke (bc (he pins s1 σ H1 _ I1 q1) λiv s2 ⟨y,H2,I2,ry,b,kvs,more,ey,ea,eb,jV,hx,hn,q2⟩=>je ?_)));subst ey;obtain rfl:iv=ka b:=ry;exact Zck I2 ea eb jV hx hn λs3 I3=>⟨.bG,_,I3,rfl,q2⟩
end L3
end
section
namespace M3
open PySem
open Sem (wp)
noncomputable abbrev mW(t:Tok):List (Str×Value):=[("start",.int 1 t)]
set_option tactic.hygienic true in
theorem Zbo(tup)(l)(xs:Array Value)(t) :
  lQ (Builtin.«enumerate.__new__» ⟨[.type "enumerate",.ref l],mW t⟩) (λ_ R s=>(bV s.heap tup l xs/\∃ o,s.heap.get? l=some o) /\
   ∀ h2,h2=(s.heap.push (cR tup l)).push {cls:=.type "enumerate",data:=.fields #[.none,.bool false,.ref s.heap.objs.size,cW 1,.none,.none]} ->
   R (.ok (.ret (.ref (s.heap.push (cR tup l)).objs.size))) {s with heap:=h2}) :=
 .of_wp λprog w A R s h=>by
  obtain⟨hp,g,d,tk,os⟩:=s;obtain⟨⟨x1,o,ho⟩,h⟩:=h;have r9:=j4;have kx:Heap.get? (Hn ⟨hp,g,d,tk,os⟩) l=some o:=ho;have y1:bV (Hn ⟨hp,g,d,tk,os⟩) tup l xs:=x1
  wp_walk using wpAny_loadPart' kx
  refine iQ λst=>af ?_;split
  ·rename_i c _ _ _ _ _;cases(c==Ja "enumerate")
   ·wp_walk using wpAny_loadPart' kx,Zi y1
    exact⟨_,rfl,h _ rfl⟩
   ·wp_walk using wpAny_loadPart' kx,Zi y1
    exact⟨_,rfl,h _ rfl⟩
  ·wp_walk using wpAny_loadPart' kx,Zi y1
   exact⟨_,rfl,h _ rfl⟩
theorem Zco(a)(t):kA "enumerate" ⟨[a],mW t⟩=pure ():=by kernel_rfl
theorem zck(a)(t):iI "enumerate.__new__" ⟨[.type "enumerate",a],mW t⟩=pure ():=by kernel_rfl
theorem qcb(o a)(t):ma "object.__init__" ⟨[o,a],mW t⟩:=by
 unfold ma;rw[j6 (id:="object.__init__") (n:="__tini__".toList) (o:="tcejbo".toList) (by kernel_rfl) F.owner_object]
 kernel_rfl
theorem YbV     (hl:gO (.type T) "__init__"=pure (some (.builtin "object.__init__")))
  (hm:Bind.madeBy (.type T)=pure (some newId)) (jV:(some newId != some "object.__new__")=true) :
  lQ (Builtin.«object.__init__» ⟨self::rest,mW t⟩) (λ_ R s=>s.TypeIs self T/\R (.ok (.ret .none)) s):=by
 refine lQ.of_wp λprog w A R s ⟨hT,hq⟩=>?_;cases rest <;> (repeat (any_goals (first|assumption|wp_step))) <;> exact⟨_,rfl,hq⟩
section
variable {prog:ak} {w:World} {A:Around} {E:Value->Shared->Prop} {s:Shared}
theorem yb6       (ft:TypeCalled T newId "object.__init__")(jV:(some newId != some "object.__new__")=true)
  (hct:kA T ⟨[v],mW t⟩=pure ()) (DX:iI newId ⟨[.type T,v],mW t⟩=pure ()) (sI:lL table newId=some Bn) (g:lQ (Bn ⟨[.type T,v],mW t⟩) S)
  (h:S A.in1 (wants (λobj s₁=>s₁.TypeIs obj T/\Q obj s₁) E) s):ag (ah prog w) A (call (.type T) [v] (mW t)) Q E s:=by
 obtain⟨c,tl,hmro⟩:=ft.mro;have ND:=ft.made;have r9:=ft.sub;refine fi (codeAny_of_tree ?_);show ag _ _ (callAny (.type T) _) _ _ _;refine af ⟨jT.quiet_builtin _ (by decide +kernel),bO F.entry_type_call ?_⟩;rw[Around.under_plain (weight_type_call_type T [v] (mW t)) (units_type_call_type T [v] (mW t))];have h1:=ft.notType;have h2:=ft.canCreate
 repeat (any_goals (first|assumption|wp_step))
 refine cO (bU ft.plain sI (fN DX (g prog w A.in1 _ s h))) λr s₁ hr=>?_;cases r with
 |error e=>exact hr
 |ok fl =>
  cases fl with
  |ret obj =>
   obtain⟨hT,hq⟩:=hr;have hli:=ft.init.lookup;have hbi:=ft.init.bind obj
   repeat (any_goals (first|assumption|wp_step))
   refine cO (bU ft.init.plain F.entry_object_init (ft.init.check _ _ _ _ _ _ _ _ hT (qcb obj v t) (YbV (t:=t) ft.init.lookup ft.made jV prog w A.in1 (wants (λr s₂=>r=.none/\Q obj s₂) E) s₁ ⟨hT,rfl,hq⟩))) λr₂ s₂ G7=>?_;cases r₂ with
   |error e=>exact G7
   |ok fl₂ =>
    cases fl₂ with
    |ret r =>
     obtain⟨rfl,hq⟩:=G7
     repeat (any_goals (first|assumption|wp_step))
    |_=>exact G7.elim
  |_=>exact hr.elim
theorem Ybs      (x1:bV s.heap tup l xs)
  (h:∀ h',jQ h' (s.heap.objs.size+1) s.heap.objs.size 1 .none->cU h' tup s.heap.objs.size l 0->(∀ b o,s.heap.get? b=some o->h'.get? b=some o)->Q (.ref (s.heap.objs.size+1)) {s with heap:=h'}) :
  ag (ah prog w) A (call (.type "enumerate") [.ref l] (mW t)) Q E s:=by
 have ho:∃ o,s.heap.get? l=some o:=by
  cases tup with
  |true=>obtain⟨o,e,_⟩:=(show s.heap.IsTuple l xs from x1);exact⟨o,e⟩
  |false=>obtain⟨o,e,_⟩:=(show s.heap.IsList l xs from x1);exact⟨o,e⟩
 refine yb6 Hi (by decide) (Zco _ _) (zck _ _) Ji (Zbo tup l xs t) ⟨⟨x1,ho⟩,λh2 e2=>?_⟩;have n1:(s.heap.push (cR tup l)).objs.size=s.heap.objs.size+1:=vg ..;have q2:jQ h2 (s.heap.push (cR tup l)).objs.size s.heap.objs.size 1 .none:=by rw[e2];exact wb _ rfl
 have q1:h2.get? s.heap.objs.size=some (cR tup l):=by rw[e2];exact wa _ (wb _ rfl)
 rw[n1] at q2;show _/\_;rw[n1];exact⟨⟨_,q2,rfl⟩,h _ q2 (.new q1) λb o e=>by rw[e2];exact wa _ (wa _ e)⟩
theorem ybY        (hs:ao [e] env=[(false,eval e env)])
  (h:ag M A (eval e env) (λv s₁=>ag M A (eval ve env) (λu s₂=>ag M A (call (.type T) [v] [(name,u)]) Q E s₂) E s₁) E s) :
  ag M A (lM pos (.type T) [] (bf pos (ao [e] env)) (dt pos (bH [⟨some name,ve,kp⟩] env))) Q E s:=by
 have hb:bf pos (ao [e] env)=(false,eval e env)::[]:=by rw[hs];rfl
 unfold lM;rw[hb];refine aa (aI (PyProof.Rows.evalArgs_kwB rfl (Ke (aM h (λv s₁ h₁=>je (PyProof.Rows.kws_cons (aM h₁ (λu s₂ h₂=>PyProof.Rows.kws_nil (aa (b7 ?_))) λ_ _ x=>x))) λ_ _ x=>x))));refine aa (af ?_);exact aa (aM h₂ (λr s₂ hr=>aa (aI (wpAny_point (af hr)))) λ_ _ x=>x)
end
end M3
namespace L3
open PySem PySem.Spec PyProof.Rows L2 M3
theorem Qck{prog:ak}{w:World}{A:Around}{it:ae}{fp:List ae}{n:Nat}{P:Nat->Value->Prop}{St:Nat->Heap->Prop}(D:fE prog w A it fp n P St) :
  fE prog w A it fp (n+1) (λi v=>P (i-1) v) (λi h=>0<i/\St (i-1) h) where
 live:=λi h st=>D.live _ h st.2
 frame:=λi h h' st k=>⟨st.1,D.frame _ h h' st.2 k⟩
 item:=λi s Q E hi st hQ=>D.item (i-1) s Q E (by have:=st.1;lia) st.2 λx h' tk px kI sb=>hQ x h' tk px ⟨Nat.succ_pos _,by rw[show i+1-1=i-1+1 from by have:=st.1;lia];exact kI⟩ sb
 done:=λs Q E st hE=>D.done s Q E st.2 hE
noncomputable def tj(K:Jc)(b:Bool)(a:ae):It :=
 ⟨λi H=>∃ xs,fS K H b a xs/\i<xs.length,
 λi H x H'=>∃ T x1,x=.ref T/\H T=none/\H'=upd H T (.tup [.int ((i+1:Nat):Int),x1])/\(∀ xs,fS K H b a xs->xs[i]?=some x1),
 λi H=>∃ xs,fS K H b a xs/\i=xs.length⟩
theorem QbA{P:ak}{w:World}{K:Jc}{es:List Expr}{kt:Nat}{pt:Pos}{b:Bool}{a e it:ae}(h1:a≠it)(h2:a≠e)(h3:e≠it) :
  Turn P w K (.Tuple es kt pt) (tj K b a) [e,it] e (λi h=>(∃ old,jQ h e it ((i+1:Nat):Int) old)/\cU h b it a i) where
 mem:=by simp
 obj:=λi h ⟨⟨old,e1⟩,e2⟩ c hc=>by
  simp only[Xa,Vc,or_false] at hc
  rcases hc with rfl|rfl
  ·exact⟨_,e1,λv q=>nomatch q⟩
  ·exact e2.obj
 keep:=λi h h' ⟨⟨old,e1⟩,e2⟩ k=>⟨⟨old,k e (by simp) _ e1⟩,e2.keeps λo q=>k it (by simp) o q⟩
 item:=by
  intro X hP hw hK hc i pins s σ H E I hf ⟨⟨old,e1⟩,e2⟩ hg;subst hP hw hK;obtain⟨xs,q1,l1⟩:=hg;obtain⟨fo,v1,p1,_⟩:=Yl I q1;have D1:=zA (prog:=X.prog) (w:=X.w) (Qh (I.ok.hd hc)) b it a h1 fo.toArray;have Br:=v1.length;refine eU (Qck D1) e1 ⟨Nat.succ_pos _,e2,p1⟩ (by simp;lia) h3 (by simp[h3,Jd h2]) λx g tk px f1 f2 f3 f4 f5=>⟨_,rfl,?_⟩;refine dM (s:={s with heap:=g,toks:=tk+1}) f1 λg' f6 f7=>?_;obtain⟨x1,pV⟩:∃ x1,xs[i]?=some x1:=⟨xs[i],by simp[l1]⟩;obtain⟨u1,Bj,r1⟩:=v1.get pV;have ex:x=u1:=by have z:fo.toArray[i]?=some x:=px;simp[Bj] at z;exact z.symm
  subst ex;have elt:e≠s.heap.objs.size:=Ub (ua e1);have I1:Inv X pins σ H {s with heap:=g',toks:=tk+1}:=yn (ch:=[e,it]) I hf λc o cQ q=>by
   simp only[Xa,Vc,or_false,not_or] at cQ;exact(f7.2 c cQ.1).trans (f5 c o cQ.1 cQ.2 q)
  have fT:=I.iY (b:=s.heap.objs.size) (Ua _) (I.aL.fresh (Ua _));have gT:g'.get? s.heap.objs.size=some {cls:=.type "tuple",data:=.seq #[.int ((i+1:Nat):Int) tk,x]}:=(f7.2 _ (Jd elt)).trans f3;have I2:Inv X pins σ (upd H s.heap.objs.size (.tup [.int ((i+1:Nat):Int),x1])) {s with heap:=g',toks:=tk+1}:=ZW I1 fT I.sz ⟨by show 2<=sizeLine;decide,[.int ((i+1:Nat):Int) tk,x],.cons ⟨_,rfl⟩ (.cons r1 .nil),⟨_,gT,rfl,_,rfl⟩⟩;refine⟨.ref s.heap.objs.size,_,I2,rfl,⟨_,x1,rfl,fT.1,rfl,λzs hz=>by rw[QG I hz q1];exact pV⟩,⟨⟨_,by have q:=f6;exact q⟩,f2.2.1.keeps λo q=>(f7.2 it (Jd h3)).trans q⟩,λc cQ=>?_⟩;have lt:c<s.heap.objs.size:=by
   simp only[Xa,Vc,or_false] at cQ
   rcases cQ with rfl|rfl
   ·exact ua e1
   ·exact let ⟨o,q,_⟩:=e2.obj;ua q
  rw[qc (Ub lt)];exact(hf c cQ).1
 done:=by
  intro X hP hw hK hc i pins s σ H E I hf ⟨⟨old,e1⟩,e2⟩ hg;subst hP hw hK;obtain⟨xs,q1,hk⟩:=hg;obtain⟨fo,v1,p1,_⟩:=Yl I q1;have D1:=zA (prog:=X.prog) (w:=X.w) (Qh (I.ok.hd hc)) b it a h1 fo.toArray;have Br:=v1.length;refine fb D1 e1 (by rw[show fo.toArray.size=i from by simp;lia];exact⟨e2,p1⟩) λg k=>⟨rfl,?_⟩;exact yn (t':=s.toks) (ch:=[e,it]) I hf λc o cQ q=>by
   simp only[Xa,Vc,or_false,not_or] at cQ;exact k c o cQ.2 q
 self:=λ_ _ _ _ _ st h=>let ⟨_,e1⟩:=st.1;cG e1 h
noncomputable abbrev Eu(a:Expr)(j:Nat)(p cp kp pos:Pos):Expr:=.Call (.Name "enumerate" p) [a] [⟨some "start",.Constant (.int 1) j cp,kp⟩] pos
noncomputable def QcW(K:Jc)(te:TE):TI:=λσ H R=>te σ H λv H1=>∃ b a,v=.ref a/\(∃ xs,fS K H1 b a xs)/\R (tj K b a) H1
theorem zci{X:Cx}{a:Expr}{te:TE}{j:Nat}{p cp kp pos:Pos}{es:List Expr}{kt:Nat}{pt:Pos}(hg:Gl X "enumerate")(hm:X.mg "enumerate"=none)(ha:PE X a te)(hs:ao [a] X.env=[(false,eval a X.env)]) :
  PI X (.Tuple es kt pt) (Eu a j p cp kp pos) (QcW X.K te):=by
 intro pins s σ H R I h;refine aN (YI I hg hm jK ?_);refine ybY hs (bc (ha pins s σ H _ I h) λu s1 ⟨v,H1,I1,r1,b,l,e,⟨xs,h1⟩,q⟩=>gN ?_);subst e;obtain rfl:u=ka l:=r1;have I2:=I1.tok (s1.toks+1);obtain⟨fo,v1,p1,_⟩:=Yl I2 h1;have l1:=p1.lt;refine Ybs p1 λg f1 f2 f3=>?_;refine cG f1 ?_;exact⟨s1.heap.objs.size+1,[s1.heap.objs.size+1,s1.heap.objs.size],_,_,H1,rfl,I2.kept (t':=s1.toks+1) f3,QbA (b:=b) (a:=l) (Ub l1) (Ub (wq l1)) (um (Wi _)),⟨⟨_,f1⟩,f2⟩,λc hc=>I2.iY (D7 hc) (I2.aL.fresh (D7 hc)),q⟩
end L3
end
section
namespace MP
open PySem
inductive FV where
 |bG|bl (b:Bool)|int (i:Int)|str (s:Str)
 |tup (xs:List FV)|lst (xs:List FV)|obj (c:String) (ns:List String) (vs:List FV)|bP (ns:List Int)|tab (kvs:List ((Int×Int)×Int))|cY (ks:List (Int×Int))
inductive MV where
 |f (x:FV)|ref (a:Nat)|tup (xs:List MV)|exc (c:String)
inductive Cell where
 |lst (xs:List MV)|obj (c:String) (fs:List (String×MV))|fI (ks:List Int)|tab (kvs:List ((Int×Int)×Int))|cY (ks:List (Int×Int))|code|dead
noncomputable abbrev MH:=List Cell
noncomputable abbrev aF:=List (Option MV)
inductive R (α:Type) where
 |ok (x:α) (h:MH)|exc (c:String) (h:MH)|stuck
noncomputable abbrev RD{γ δ:Sort _}(_k:γ->δ)(τ:Type):Type:=τ
namespace R
noncomputable def bind{α β:Type}(r:R α)(k:α->MH->R β):RD k (R β):=match r with
 |.ok x h=>k x h
 |.exc c h=>.exc c h
 |.stuck=>.stuck
variable {α β:Type}
@[simp] theorem ay{x:α}{h:MH}{k:α->MH->R β}:(R.ok x h).bind k=k x h:=id rfl
@[simp] theorem nJ{c:String}{h:MH}{k:α->MH->R β}:(R.exc c h:R α).bind k=.exc c h:=id rfl
@[simp] theorem l9{k:α->MH->R β}:(R.stuck:R α).bind k=.stuck:=id rfl
end R
noncomputable def opt{α β:Type}(o:Option α)(k:α->R β):RD k (R β):=match o with
 |some x=>k x
 |none=>.stuck
@[simp] theorem zc{α β:Type}{x:α}{k:α->R β}:opt (some x) k=k x:=id rfl
@[simp] theorem Ap{α β:Type}{k:α->R β}:opt none k=.stuck:=id rfl
noncomputable def Yy:MV->Bool
 |.f .bG=>true
 |_=>false
noncomputable def Zk:List MV->Option (List FV)
 |[]=>some []
 |.f x::r=>(Zk r).map (x::·)
 |_::_=>none
noncomputable def yg(xs:List MV):MV:=match Zk xs with
 |some ys=>.f (.tup ys)
 |none=>.tup xs
noncomputable def Qr(fz:Bool)(xs:List MV)(h:MH):R MV:=match fz with
 |true=>opt (Zk xs) λys=>.ok (.f (.lst ys)) h
 |false=>.ok (.ref h.length) (h++[.lst xs])
noncomputable def Qc(h:MH)(a:Nat):Option (List MV):=match h[a]? with
 |some (.lst xs)=>some xs
 |_=>none
noncomputable def qb(h:MH):MV->Option (List MV)
 |.f (.tup xs)=>some (xs.map .f)
 |.f (.lst xs)=>some (xs.map .f)
 |.f (.bP ns)=>some (ns.map λi=>.f (.int i))
 |.tup xs=>some xs
 |.ref a=>Qc h a
 |_=>none
noncomputable def listOf(h:MH):MV->Option (List MV)
 |.f (.lst xs)=>some (xs.map .f)
 |.ref a=>Qc h a
 |_=>none
noncomputable def zk:MV->Option (List MV)
 |.f (.tup xs)=>some (xs.map .f)
 |.tup xs=>some xs
 |_=>none
noncomputable def yc:MV->Option Int
 |.f (.int i)=>some i
 |_=>none
noncomputable def yG:MV->Option Bool
 |.f (.bl b)=>some b
 |_=>none
@[simp] noncomputable def Qf:List MV->Option (List Int)
 |[]=>some []
 |.f (.int i)::r=>(Qf r).map (i::·)
 |_::_=>none
@[simp] noncomputable def yt:List MV->Option (List Bool)
 |[]=>some []
 |.f (.bl i)::r=>(yt r).map (i::·)
 |_::_=>none
noncomputable def qp(h:MH):Nat->MV->Option FV
 |0,_=>none
 |_+1,.f x=>some x
 |n+1,.tup xs=>(xs.mapM (qp h n)).map .tup
 |n+1,.ref a=>(Qc h a).bind λxs=>(xs.mapM (qp h n)).map .lst
 |_+1,.exc _=>none
noncomputable def ZT(h:MH)(v:MV):Option FV:=qp h 5 v
noncomputable def Zr(h:MH):Nat->MV->List Nat
 |0,_=>[]
 |_+1,.f _=>[]
 |n+1,.tup xs=>xs.flatMap (Zr h n)
 |n+1,.ref a=>a::((Qc h a).getD []).flatMap (Zr h n)
 |_+1,.exc _=>[]
noncomputable def kill(as:List Nat)(h:MH):MH:=h.mapIdx λi c=>if i∈as then .dead else c
noncomputable def ZJ(v:MV)(h:MH):R MV:=opt (ZT h v) λx=>.ok (.f x) (kill (Zr h 5 v) h)
noncomputable def tO(x:Str):Bool:=x.cps.all (· < 0x110000)
noncomputable def cy:Nat->FV->Bool
 |_+1,.bG=>true
 |_+1,.bl _=>true
 |_+1,.int _=>true
 |_+1,.str s=>tO s
 |n+1,.tup xs=>xs.all (cy n)
 |n+1,.lst xs=>xs.all (cy n)
 |_,_=>false
mutual
noncomputable def gH:FV->FV->Bool
 |.bG,.bG=>true
 |.bl a,.bl b=>a==b
 |.bl a,.int j=>(if a then 1 else 0)==j
 |.int i,.bl b=>i==(if b then 1 else 0)
 |.int a,.int b=>a==b
 |.str a,.str b=>a==b
 |.tup xs,.tup ys=>nY xs ys
 |.lst xs,.lst ys=>nY xs ys
 |_,_=>false
noncomputable def nY:List FV->List FV->Bool
 |[],[]=>true
 |x::xs,y::ys=>gH x y&&nY xs ys
 |_,_=>false
end
noncomputable def mX(x y:FV):Option Bool:=if cy 8 x=true/\cy 8 y=true then some (gH x y) else none
noncomputable def r8(x:FV)(ys:List FV):Option Bool:=if cy 8 x=true/\ys.all (cy 8)=true then some (ys.any λy=>gH y x) else none
inductive BO where
 |add|sub|mul|fdiv|mod|pow
inductive CO where
 |lt|le|gt|ge|eq|ne|gZ|tS
noncomputable def big:Nat:=2^4096
noncomputable def zB(i j:Int):Prop:=i.natAbs<2^64\/j.natAbs<2^64\/(i.natAbs<big/\j.natAbs<big)
noncomputable def JS(i j:Int):Prop:=0<j/\(j<1073741824\/j.natAbs<big)
open Classical in
noncomputable def qI:BO->Int->Int->Option Int
 |.add,i,j=>some (i+j)
 |.sub,i,j=>some (i-j)
 |.mul,i,j=>if zB i j then some (i*j) else none
 |.fdiv,i,j=>if JS i j then some (i/j) else none
 |.mod,i,j=>if 0<j then some (i%j) else none
 |.pow,i,j=>if 0<=j/\j<=1000000/\i.natAbs<2^64 then some (i^j.toNat) else none
noncomputable def aC:Nat:=4194304
open Classical in
noncomputable def ye(fz:Bool)(op:BO)(x y:MV)(h:MH):R MV:=match yc x,yc y with
 |some i,some j=>opt (qI op i j) λk=>.ok (.f (.int k)) h
 |none,some j=>match op with
  |.mul=>opt (listOf h x) λxs=>if -(2^63)<=j/\j<2^63/\xs.length*j.toNat<=aC then Qr fz (xc j.toNat xs).flatten h else .stuck
  |_=>.stuck
 |none,none=>match op with
  |.add=>match zk x,zk y with
   |some xs,some ys=>if xs≠[]/\xs.length+ys.length<=aC then .ok (yg (xs++ys)) h else .stuck
   |_,_=>opt (listOf h x) λxs=>opt (listOf h y) λys=>if xs.length+ys.length<=aC then Qr fz (xs++ys) h else .stuck
  |_=>.stuck
 |_,_=>.stuck
noncomputable def Q4:CO->Int->Int->Option Bool
 |.lt,i,j=>some (decide (i<j))
 |.le,i,j=>some (decide (i<=j))
 |.gt,i,j=>some (decide (j<i))
 |.ge,i,j=>some (decide (j<=i))
 |_,_,_=>none
noncomputable def yI(op:CO)(x y:MV)(h:MH):Option Bool:=match op with
 |.eq=>(ZT h x).bind λa=>(ZT h y).bind λb=>mX a b
 |.ne=>(ZT h x).bind λa=>(ZT h y).bind λb=>(mX a b).map (!·)
 |.gZ=>(ZT h x).bind λa=>(qb h y).bind λys=>(ys.mapM (ZT h)).bind λbs=>r8 a bs
 |.tS=>(ZT h x).bind λa=>(qb h y).bind λys=>(ys.mapM (ZT h)).bind λbs=>(r8 a bs).map (!·)
 |op=>(yc x).bind λi=>(yc y).bind λj=>Q4 op i j
noncomputable def lu(n:Nat)(i:Int):Option Nat:=if 0<=i then(if i<n then some i.toNat else none) else if -(n:Int)<=i then some (i+n).toNat else none
noncomputable def dy(xs:List MV)(i:Int):Option MV:=(lu xs.length i).bind λj=>xs[j]?
noncomputable def zY(n d:Nat):Option Int->Nat
 |none=>d
 |some i=>if i<0 then(i+(n:Int)).toNat else min i.toNat n
noncomputable def zO(xs:List MV)(lo hi:Option Int):List MV:=(xs.drop (zY xs.length 0 lo)).take (zY xs.length xs.length hi-zY xs.length 0 lo)
noncomputable def yA(fz:Bool)(x:MV)(lo hi:Option Int)(h:MH):R MV:=match zk x with
 |some xs=>.ok (yg (zO xs lo hi)) h
 |none=>opt (qb h x) λxs=>Qr fz (zO xs lo hi) h
noncomputable def oh(n:String)(v:MV):List (String×MV)->List (String×MV)
 |[]=>[(n,v)]
 |(k,x)::r=>if k=n then(k,v)::r else(k,x)::oh n v r
inductive Tg where
 |nm (i:Nat)|tp (ts:List Tg)
inductive ME where
 |var (i:Nat)|cI (i:Int)|cB (b:Bool)|cN|cS (s:Str)
 |glob (x:String)
 |bin (fz:Bool) (op:BO) (a b:ME)|neg (a:ME)
 |cmp (op:CO) (a b:ME)|chain (op kY:CO) (a b c:ME)
 |Nt (a:ME)|oJ (a:ME)
 |and (es:List ME)|or (es:List ME)|not (a:ME)|ite (c a b:ME)
 |tup (es:List ME)|lst (fz:Bool) (es:List ME)
 |sub (a i:ME)|slice (fz:Bool) (a:ME) (lo hi:Option ME)
 |fld (a:ME) (n:String)
 |call (f:String) (es:List ME)|make (fz:Bool) (c:String) (es:List ME)|mQ (o:ME) (m:String) (es:List ME)
 |blt (fz:Bool) (n:String) (es:List ME)
 |lD (a:ME) (t:String)
 |gJ (a b:ME)|j5 (a:ME)|mw (a b:ME)
 |oO|Du (a:ME)|oM (o e:ME)|oN (a d:ME)
 |oF (fz:Bool) (a:ME)
 |lm (m:String) (o:ME) (es:List ME)
 |comp (fz:Bool) (elt:ME) (tg:Tg) (it:String) (src:List ME) (cond:Option ME) (bX:Nat) (js:List Nat)
 |eQ (e:ME)
inductive MS where
 |set (tg:Tg) (e:ME)
 |dO (o i e:ME)
 |gQ (o:ME) (n:String) (e:ME)
 |nv (o k:ME)|par (i j:Nat) (a b:ME)
 |expr (e:ME)
 |ret (e:ME)
 |ite (c:ME) (a b:List MS)
 |for_ (tg:Tg) (it:String) (src:List ME) (body:List MS)
 |while_ (c:ME) (body:List MS)
 |pass|iJ
 |oZ (i:Nat)
structure aT where
 np:Nat
 ns:Nat
 body:List MS
structure Prog where
 defs:String->Option aT
 b9:String->Option FV
 meths:String->String->Option String
 subs:String->String->Option Bool
 iZ:String->String->Bool
 l7:String->Bool
 word:String->String->Option Str
 words:String->Bool
 mn:String->String->Option Bool:=λ_ _=>none
 mN:String->Bool:=λ_=>false
 xt:Bool:=false
 uL:String->List Int->Bool:=λ_ _=>false
 nA:String->Bool:=λ_=>false
 turns:Nat
@[simp] noncomputable def sT(n:String):List String->List FV->Option FV
 |m::ns,v::vs=>if n=m then some v else sT n ns vs
 |_,_=>none
noncomputable def mM(ok:String->String->Bool)(n:String)(v:MV)(h:MH):Option MV:=match v with
 |.f (.obj c ns vs)=>if ok c n=true then(sT n ns vs).map .f else none
 |.ref a=>match h[a]? with
  |some (.obj c fs)=>if ok c n=true then fs.lookup n else none
  |_=>none
 |_=>none
noncomputable def nh(m:String)(v:MV)(h:MH):Option String:=match v with
 |.f (.obj c ns _)=>if m∈ns then none else some c
 |.ref a=>match h[a]? with
  |some (.obj c fs)=>if m∈fs.map ut then none else some c
  |_=>none
 |_=>none
noncomputable def excOf:MV->Option String
 |.exc c=>some c
 |_=>none
@[simp] theorem Qdc(c:String):excOf (.exc c)=some c:=rfl
noncomputable def yT(sub:String->String->Option Bool)(h:MH)(v:MV)(t:String):Option Bool:=match v with
 |.f .bG=>some false
 |.f (.bl _)=>some (decide (t="bool")||decide (t="int"))
 |.f (.int _)=>some (decide (t="int"))
 |.f (.str _)=>some (decide (t="str"))
 |.f (.tup _)=>some (decide (t="tuple"))
 |.f (.tab _)=>none
 |.f (.cY _)=>none
 |.f (.lst _)=>some (decide (t="list"))
 |.f (.obj c _ _)=>sub c t
 |.f (.bP _)=>none
 |.tup _=>some (decide (t="tuple"))
 |.ref a=>match h[a]? with
  |some (.lst _)=>some (decide (t="list"))
  |some (.obj c _)=>sub c t
  |_=>none
 |.exc _=>none
noncomputable def Dz(x:MV)(h:MH):Option (List MV):=match x with
 |.ref a=>Qc h a
 |_=>none
noncomputable def OW(xs:List MV)(i:Int)(y:MV):List MV:=let k:=zY xs.length 0 (some i);xs.take k++y::xs.drop k
noncomputable def Ye(h:MH)(a:Nat)(xs:List MV):MH:=h.set a (.lst xs)
open Classical in
noncomputable def mz(m:String)(o:MV)(as:List MV)(h:MH):R MV:=match o with
 |.ref a=>opt (Qc h a) λxs=>match m,as with
  |"append",[y]=>if xs.length<aC then .ok (.f .bG) (Ye h a (xs++[y])) else .stuck
  |"extend",[z]=>opt (listOf h z) λys=>if xs.length+ys.length<=aC then .ok (.f .bG) (Ye h a (xs++ys)) else .stuck
  |"insert",[u,y]=>opt (yc u) λi=>if xs.length<aC/\-(2^63)<=i/\i<2^63 then .ok (.f .bG) (Ye h a (OW xs i y)) else .stuck
  |"reverse",[]=>.ok (.f .bG) (Ye h a xs.reverse)
  |"clear",[]=>.ok (.f .bG) (Ye h a [])
  |"pop",[]=>opt (xs[xs.length-1]?) λy=>.ok y (Ye h a (xs.take (xs.length-1)))
  |"pop",[u]=>opt (yc u) λi=>opt (lu xs.length i) λk=>opt (xs[k]?) λy=>if -(2^63)<=i/\i<2^63 then .ok y (Ye h a (xs.take k++xs.drop (k+1))) else .stuck
  |_,_=>.stuck
 |_=>.stuck
noncomputable def nX:Int->List Int->Int
 |m,[]=>m
 |m,x::r=>nX (if x<m then x else m) r
noncomputable def og:Int->List Int->Int
 |m,[]=>m
 |m,x::r=>og (if x>m then x else m) r
noncomputable def zq(fz:Bool)(n:String)(as:List MV)(h:MH):R MV:=match n,as with
 |"len",[v]=>opt (qb h v) λxs=>.ok (.f (.int xs.length)) h
 |"sum",[v]=>opt ((qb h v).bind Qf) λxs=>.ok (.f (.int xs.sum)) h
 |"all",[v]=>opt ((qb h v).bind yt) λxs=>.ok (.f (.bl (xs.all id))) h
 |"min",[v]=>opt ((qb h v).bind Qf) λxs=>match xs with | []=>.stuck|x::r=>.ok (.f (.int (nX x r))) h
 |"max",[v]=>opt ((qb h v).bind Qf) λxs=>match xs with | []=>.stuck|x::r=>.ok (.f (.int (og x r))) h
 |"min",[u,v]=>opt (yc u) λi=>opt (yc v) λj=>.ok (.f (.int (if j<i then j else i))) h
 |"max",[u,v]=>opt (yc u) λi=>opt (yc v) λj=>.ok (.f (.int (if j>i then j else i))) h
 |"abs",[v]=>opt (yc v) λi=>.ok (.f (.int (if i<0 then -i else i))) h
 |"int",[v]=>match yG v with
  |some b=>.ok (.f (.int (if b then 1 else 0))) h
  |none=>opt (yc v) λi=>.ok (.f (.int i)) h
 |"tuple",[v]=>opt (qb h v) λxs=>.ok (yg xs) h
 |"list",[v]=>opt (qb h v) λxs=>Qr fz xs h
 |"divmod",[u,v]=>opt (yc u) λi=>opt (yc v) λj=>if 0<j/\j<1073741824 then .ok (.f (.tup [.int (i/j),.int (i%j)])) h else .stuck
 |_,_=>.stuck
noncomputable def Zv(ns:List Int):List Int:=ns.mergeSort (λa b=>decide (a<=b))
theorem Ol:∀{a b:List Int},a.Perm b->a.Pairwise (·<=·)->b.Pairwise (·<=·)->a=b
 |[],b,p,_,_=>(List.Perm.nil_eq p)
 |x::a,b,p,h,k=>by
  cases b with
  |nil=>exact absurd p.symm.nil_eq (by simp)
  |cons y b =>
   rw[List.pairwise_cons] at h k;have e:x=y:=by
    have h1:x∈y::b:=p.mem_iff.mp (by simp);have h2:y∈x::a:=p.mem_iff.mpr (by simp)
    rcases Xa.mp h1 with e|m1
    ·exact e
    ·rcases Xa.mp h2 with e|m2
     ·exact e.symm
     ·have:=h.1 y m2;have:=k.1 x m1;lia
   subst e;rw[Ol (List.Perm.cons_inv p) h.2 k.2]
theorem ZO(ns):(Zv ns).Perm ns:=List.mergeSort_perm _ _
theorem MB(ns):(Zv ns).Pairwise (·<=·):=by
 have:=List.pairwise_mergeSort (le:=λa b:Int=>decide (a<=b)) (by intro a b c h k;simp at *;lia) (by intro a b;simp;lia) ns;exact this.imp (by intro a b h;simpa using h)
theorem ycc  (p:nZ.Perm ns)(h:nZ.Pairwise (·<=·)):nZ=Zv ns:=Ol (p.trans (ZO ns).symm) h (MB ns)
noncomputable def Qu(ks:List Int)(k:Int):List Int:=if k∈ks then ks else ks++[k]
noncomputable def YZ(h:MH)(v:MV):Option (List Int):=match v with
 |.ref a=>match h[a]? with
  |some (.fI ks)=>some ks
  |_=>none
 |_=>none
noncomputable def gJ(n:Nat)(x y:MV)(h:MH):R MV:=opt (yc x) λi=>opt (yc y) λj=>opt (YZ h (.ref n)) λks=>if ks=[] then .ok (.ref n) (h.set n (.fI (Qu (Qu [] i) j))) else .stuck
noncomputable def j5(v:MV)(h:MH):R MV:=opt (YZ h v) λks=>if ks.length<64 then .ok (.ref h.length) (h++[.lst ((Zv ks).map λi=>.f (.int i))]) else .stuck
noncomputable def N2(h:MH)(v:MV):Option (List ((Int×Int)×Int)):=match v with
 |.ref a=>match h[a]? with
  |some (.tab kvs)=>some kvs
  |_=>none
 |.f (.tab kvs)=>some kvs
 |_=>none
noncomputable def vI(v:MV):Option (Int×Int):=match zk v with
 |some [.f (.int a),.f (.int b)]=>some (a,b)
 |_=>none
noncomputable def qz(ks:List (Int×Int))(k:Int×Int):List (Int×Int):=if k∈ks then ks else ks++[k]
noncomputable def tM(v:MV):Option (Int×Int):=match zk v with
 |some [p,.f (.bl true)]=>vI p
 |_=>none
noncomputable def Ew(x:MV)(h:MH):R MV:=match x with
 |.ref i=>opt (Qc h i) λxs=>opt (xs.mapM tM) λks=>if xs.length<1000000 then .ok (.f (.cY (ks.foldl qz []))) h else .stuck
 |_=>.stuck
noncomputable def QP(h:MH)(v:MV):Option (List (Int×Int)):=match v with
 |.ref a=>match h[a]? with
  |some (.cY ks)=>some ks
  |_=>none
 |.f (.cY ks)=>some ks
 |_=>none
noncomputable def qS(k:Int×Int):Bool:=decide ((0<=k.1/\k.1<64)/\0<=k.2/\k.2<64)
noncomputable def El(x y:MV)(h:MH):R MV:=match x,y with
 |.ref i,.f (.cY iW)=>opt (QP h (.ref i)) λks=>if(ks=[]\/iW=[])/\iW.all qS=true/\iW.Nodup then .ok (.f .bG) (h.set i (.cY (if iW=[] then ks else iW))) else .stuck
 |_,_=>.stuck
noncomputable def uR(x y:MV)(h:MH):R MV:=opt (vI x) λk=>opt (QP h y) λks=>.ok (.f (.bl (decide (k∉ks)))) h
noncomputable def Yj(w:Int)(n:Int)(r:List Int):Int:=r.foldl (λb k=>if(if w-k<0 then -(w-k) else w-k)<(if w-b<0 then -(w-b) else w-b) then k else b) n
noncomputable def Q0(x y:MV)(h:MH):R MV:=opt (yc x) λw=>opt (qb h y) λvs=>opt (Qf vs) λns=>match ns with
 |n::r=>match (h[0]?:Option Cell) with
  |some .code=>.ok (.f (.int (Yj w n r))) h
  |_=>.stuck
 |[]=>.stuck
mutual
@[simp] noncomputable def yr:Tg->MV->aF->Option aF
 |.nm i,v,σ=>some (σ.set i (some v))
 |.tp ts,v,σ=>(zk v).bind λvs=>ZF ts vs σ
@[simp] noncomputable def ZF:List Tg->List MV->aF->Option aF
 |[],[],σ=>some σ
 |t::ts,v::vs,σ=>(yr t v σ).bind λσ'=>ZF ts vs σ'
 |_,_,_=>none
end
noncomputable abbrev zG:=List (Nat×List MV)
noncomputable def aP(g:zG)(h:MH):Prop:=∀ p∈g,Qc h p.1=some p.2
noncomputable def Qb(h:MH):MV->zG
 |.ref a=>match Qc h a with
  |some xs=>[(a,xs)]
  |none=>[]
 |_=>[]
noncomputable def gx(lo hi st:Int):Nat:=if lo<hi then((hi-lo-1)/st+1).toNat else 0
noncomputable def gE(it:String)(as:List MV)(h:MH):Option (List MV×zG):=match it,as with
 |"seq",[v]=>(qb h v).map λxs=>(xs,Qb h v)
 |"range",[u]=>(yc u).bind λn=>if -(2^62)<=n/\n<2^62 then some ((uc n.toNat).map λ(k:Nat)=>.f (.int k),[]) else none
 |"range",[u,v]=>(yc u).bind λa=>(yc v).bind λb=>if -(2^62)<=a/\a<2^62/\-(2^62)<=b/\b<2^62 then some ((uc (b-a).toNat).map λ(k:Nat)=>.f (.int (a+k)),[]) else none
 |"range",[u,v,w]=>(yc u).bind λa=>(yc v).bind λb=>(yc w).bind λs=>if -(2^30)<=a/\a<2^30/\-(2^30)<=b/\b<2^30/\0<s/\s<2^30 then some ((uc (gx a b s)).map λ(k:Nat)=>.f (.int (a+k*s)),[]) else none
 |"zip",[u,v]=>(qb h u).bind λxs=>(qb h v).map λys=>((xs.zip ys).map λp=>yg [p.1,p.2],Qb h u++Qb h v)
 |"keys",[.f (.tab kvs)]=>some (kvs.map λkv=>.f (.tup [.int kv.1.1,.int kv.1.2]),[])
 |"signs",[.f (.str s)]=>some (s.cps.toList.map λc=>.f (.str ⟨#[c]⟩),[])
 |"items",[.f (.tab kvs)]=>some (kvs.map λkv=>.f (.tup [.tup [.int kv.1.1,.int kv.1.2],.int kv.2]),[])
 |"enumerate",[v]=>(qb h v).map λxs=>(xs.mapIdx λk x=>yg [.f (.int k),x],Qb h v)
 |"enum1",[v]=>(qb h v).map λxs=>(xs.mapIdx λk x=>yg [.f (.int ((k+1:Nat):Int)),x],Qb h v)
 |_,_=>none
inductive RS where
 |next (σ:aF) (h:MH)|ret (v:MV) (h:MH)|brk (σ:aF) (h:MH)|cnt (σ:aF) (h:MH)|exc (c:String) (h:MH)|stuck
namespace RS
noncomputable def bind(r:RS)(k:aF->MH->RS):RD k RS:=match r with
 |.next σ h=>k σ h
 |.ret v h=>.ret v h
 |.brk σ h=>.brk σ h
 |.cnt σ h=>.cnt σ h
 |.exc c h=>.exc c h
 |.stuck=>.stuck
@[simp] theorem c6{σ:aF}{h:MH}{k:aF->MH->RS}:(RS.next σ h).bind k=k σ h:=id rfl
@[simp] theorem lN{v:MV}{h:MH}{k:aF->MH->RS}:(RS.ret v h).bind k=.ret v h:=id rfl
@[simp] theorem Ci{σ:aF}{h:MH}{k:aF->MH->RS}:(RS.brk σ h).bind k=.brk σ h:=id rfl
@[simp] theorem Cg{σ:aF}{h:MH}{k:aF->MH->RS}:(RS.cnt σ h).bind k=.cnt σ h:=id rfl
@[simp] theorem nJ{c:String}{h:MH}{k:aF->MH->RS}:(RS.exc c h).bind k=.exc c h:=id rfl
@[simp] theorem l9{k:aF->MH->RS}:(RS.stuck).bind k=.stuck:=id rfl
noncomputable def turn(r:RS)(k:aF->MH->RS):RD k RS:=match r with
 |.next σ h=>k σ h
 |.cnt σ h=>k σ h
 |.brk σ h=>.next σ h
 |.ret v h=>.ret v h
 |.exc c h=>.exc c h
 |.stuck=>.stuck
@[simp] theorem kG{σ:aF}{h:MH}{k:aF->MH->RS}:(RS.next σ h).turn k=k σ h:=id rfl
@[simp] theorem vP{σ:aF}{h:MH}{k:aF->MH->RS}:(RS.cnt σ h).turn k=k σ h:=id rfl
@[simp] theorem vQ{σ:aF}{h:MH}{k:aF->MH->RS}:(RS.brk σ h).turn k=.next σ h:=id rfl
@[simp] theorem vN{v:MV}{h:MH}{k:aF->MH->RS}:(RS.ret v h).turn k=.ret v h:=id rfl
@[simp] theorem vO{c:String}{h:MH}{k:aF->MH->RS}:(RS.exc c h).turn k=.exc c h:=id rfl
@[simp] theorem Qc5{k:aF->MH->RS}:(RS.stuck).turn k=.stuck:=id rfl
end RS
noncomputable def RS.l8(k:String->MH->RS)(r:RS):RD k RS:=match r with
 |.exc c h=>k c h
 |r=>r
noncomputable def R.st{α:Type}(r:R α)(k:α->MH->RS):RD k RS:=match r with
 |.ok x h=>k x h
 |.exc c h=>.exc c h
 |.stuck=>.stuck
@[simp] theorem R.st_ok{α:Type}{x:α}{h:MH}{k:α->MH->RS}:(R.ok x h).st k=k x h:=id rfl
@[simp] theorem R.st_exc{α:Type}{c:String}{h:MH}{k:α->MH->RS}:(R.exc c h:R α).st k=.exc c h:=id rfl
@[simp] theorem R.st_stuck{α:Type}{k:α->MH->RS}:(R.stuck:R α).st k=.stuck:=id rfl
noncomputable def qy{α:Type}(o:Option α)(k:α->RS):RD k RS:=match o with
 |some x=>k x
 |none=>.stuck
@[simp] theorem qt{α:Type}{x:α}{k:α->RS}:qy (some x) k=k x:=id rfl
@[simp] theorem zdd{α:Type}{k:α->RS}:qy none k=.stuck:=id rfl
open Classical in
noncomputable def zJ(g:zG)(bd:MV->aF->MH->RS):List MV->aF->MH->RS
 |[],σ,h=>if aP g h then .next σ h else .stuck
 |x::r,σ,h=>if aP g h then(bd x σ h).turn λσ1 h1=>zJ g bd r σ1 h1 else .stuck
open Classical in
noncomputable def zh(g:zG)(bd:MV->aF->MH->R (Option MV×aF)):List MV->List MV->aF->MH->R (List MV)
 |[],acc,σ,h=>if aP g h then .ok acc h else .stuck
 |x::r,acc,σ,h=>if aP g h/\acc.length<aC then(bd x σ h).bind λp h1=>zh g bd r (match p.1 with|some y=>acc++[y]|none=>acc) p.2 h1 else .stuck
noncomputable def stM(bX:Nat)(js:List Nat)(σ:aF):aF:=xc bX none++js.map λj=>(σ[j]?).join
noncomputable def yE(c:aF->MH->R MV)(bd:aF->MH->RS):Nat->aF->MH->RS
 |0,_,_=>.stuck
 |n+1,σ,h=>(c σ h).st λv h1=>qy (yG v) λb=>if b=true then(bd σ h1).turn λσ2 h2=>yE c bd n σ2 h2 else .next σ h1
noncomputable def calm{α:Type}(r:R α):R α:=match r with
 |.ok x h=>.ok x h
 |_=>.stuck
@[simp] theorem Ef{α:Type}{x:α}{h:MH}:calm (R.ok x h)=.ok x h:=id rfl
noncomputable def Qm(tg:Tg)(ex:aF->MH->RS):MV->aF->MH->RS:=λx σ h=>qy (yr tg x σ) λσ2=>ex σ2 h
noncomputable def Qi(tg:Tg)(tc:aF->MH->R Bool)(te:aF->MH->R MV):MV->aF->MH->R (Option MV×aF):=λx σ h =>
 opt (yr tg x σ) λσ2=>(calm (tc σ2 h)).bind λk h2=>if k=true then(calm (te σ2 h2)).bind λy h3=>.ok (some y,σ2) h3 else .ok (none,σ2) h2
noncomputable def jR:Cell->Prop
 |.lst xs=>∃ ys:List FV,xs=ys.map MV.f
 |.obj _ fs=>∃ ys:List (String×FV),fs=ys.map λp=>(p.1,MV.f p.2)
 |.fI _=>True
 |.tab _=>True
 |.cY _=>True
 |.code=>True
 |.dead=>True
noncomputable def bK(h h':MH):Prop:=h.length<=h'.length/\∀ i c,i<h.length->h'[i]?=some c->h[i]?=some c\/jR c
open Classical in
noncomputable def qg(h:MH)(v:MV)(h':MH):R MV:=if bK h h' then(match v with
 |.f x=>.ok (.f x) (h'.take h.length)
 |.ref a=>if h.length<=a then(match Qc h' a with
   |some xs=>match Zk xs with
    |some _=>.ok (.ref h.length) (h'.take h.length++[.lst xs])
    |none=>.ok v h'
   |none=>.ok v h') else .ok v h'
 |v=>.ok v h') else .ok v h'
open Classical in
noncomputable def QS(h:MH)(c:String)(h':MH):R MV:=if bK h h' then .exc c (h'.take h.length) else .exc c h'
section
variable (P:Prog) (W:String->List MV->MH->R MV)
open Classical in
noncomputable def qJ(fz:Bool)(c:String)(as:List MV)(h:MH):R MV :=
 (match P.meths c "__init__" with
  |some f=>W f (.ref h.length::as) (h++[Cell.obj c []])
  |none=>match as with | []=>R.ok (MV.f FV.bG) (h++[Cell.obj c []])|_=>.stuck).bind λv (h1:MH)=>if Yy v=false then .stuck else
 match fz with
 |true=>match h1[h.length]? with
  |some (Cell.obj c' fs)=>opt (Zk (fs.map wo)) λvs=>if bK h h1 then R.ok (MV.f (FV.obj c' (fs.map ut) vs)) (h1.take h.length) else .stuck
  |_=>.stuck
 |false=>R.ok (MV.ref h.length) h1
mutual
@[simp] noncomputable def ya:ME->aF->MH->R MV
 |.var i,σ,h=>opt ((σ[i]?).join) λv=>.ok v h
 |.cI i,_,h=>.ok (.f (.int i)) h
 |.cB b,_,h=>.ok (.f (.bl b)) h
 |.cN,_,h=>.ok (.f .bG) h
 |.cS s,_,h=>.ok (.f (.str s)) h
 |.glob x,_,h=>opt (P.b9 x) λv=>.ok (.f v) h
 |.bin fz op a b,σ,h=>(ya a σ h).bind λx h1=>(ya b σ h1).bind λy h2=>ye fz op x y h2
 |.neg a,σ,h=>(ya a σ h).bind λx h1=>opt (yc x) λi=>.ok (.f (.int (-i))) h1
 |.cmp op a b,σ,h=>(ya a σ h).bind λx h1=>(ya b σ h1).bind λy h2=>opt (yI op x y h2) λb=>.ok (.f (.bl b)) h2
 |.chain op kY a b c,σ,h=>(ya a σ h).bind λx h1=>(ya b σ h1).bind λy h2=>opt (yI op x y h2) λk =>
   if k=true then(ya c σ h2).bind λz h3=>opt (yI kY y z h3) λk=>.ok (.f (.bl k)) h3 else .ok (.f (.bl false)) h2
 |.Nt a,σ,h=>(ya a σ h).bind λx h1=>.ok (.f (.bl (Yy x))) h1
 |.oJ a,σ,h=>(ya a σ h).bind λx h1=>.ok (.f (.bl (!Yy x))) h1
 |.and es,σ,h=>Ys es σ h
 |.or es,σ,h=>YA es σ h
 |.not a,σ,h=>(ya a σ h).bind λx h1=>opt (yG x) λk=>.ok (.f (.bl (!k))) h1
 |.ite c a b,σ,h=>(ya c σ h).bind λx h1=>opt (yG x) λk=>if k=true then ya a σ h1 else ya b σ h1
 |.tup es,σ,h=>(Zg es σ h).bind λxs h1=>.ok (yg xs) h1
 |.lst fz es,σ,h=>(Zg es σ h).bind λxs h1=>Qr fz xs h1
 |.sub a i,σ,h=>(ya a σ h).bind λx h1=>(ya i σ h1).bind λy h2=>opt (qb h2 x) λxs=>opt (yc y) λk=>opt (dy xs k) λv=>.ok v h2
 |.slice fz a lo hi,σ,h=>(ya a σ h).bind λx h1=>(yZ lo σ h1).bind λl h2=>(yZ hi σ h2).bind λu h3=>yA fz x l u h3
 |.fld a n,σ,h=>(ya a σ h).bind λx h1=>opt (mM P.iZ n x h1) λv=>.ok v h1
 |.call f es,σ,h=>(Zg es σ h).bind λxs h1=>W f xs h1
 |.make fz c es,σ,h=>(Zg es σ h).bind λxs h1=>qJ P W fz c xs h1
 |.mQ o m es,σ,h=>(ya o σ h).bind λx h1=>opt (nh m x h1) λc=>opt (P.meths c m) λf=>(Zg es σ h1).bind λxs h2=>W f (x::xs) h2
 |.blt fz n es,σ,h=>(Zg es σ h).bind λxs h1=>zq fz n xs h1
 |.lD a t,σ,h=>(ya a σ h).bind λx h1=>opt (yT P.subs h1 x t) λk=>.ok (.f (.bl k)) h1
 |.oF fz a,σ,h=>(ya a σ h).bind λx h1=>opt (listOf h1 x) λxs=>Qr fz xs.reverse h1
 |.gJ a b,σ,h=>(ya a σ (h++[.fI []])).bind λx h1=>(ya b σ h1).bind λy h2=>gJ h.length x y h2
 |.j5 a,σ,h=>(ya a σ h).bind λx h1=>j5 x h1
 |.oO,_,h=>.ok (.ref h.length) (h++[.cY []])
 |.Du a,σ,h=>(ya a σ h).bind λx h1=>Ew x h1
 |.oM o e,σ,h=>(ya o σ h).bind λx h1=>opt (QP h1 x) λ_=>(ya e σ h1).bind λy h2=>El x y h2
 |.oN a d,σ,h=>(ya a σ h).bind λx h1=>(ya d σ h1).bind λy h2=>uR x y h2
 |.mw a b,σ,h=>(ya a σ h).bind λx h1=>(ya b σ h1).bind λy h2=>Q0 x y h2
 |.lm m o es,σ,h=>(ya o σ h).bind λx h1=>opt (Dz x h1) λ_=>(Zg es σ h1).bind λxs h2=>mz m x xs h2
 |.comp fz elt tg it src cond bX js,σ,h=>(Zg src σ h).bind λxs h1=>opt (gE it xs h1) λp =>
   (zh p.2 (Qi tg (rn cond) (ya elt)) p.1 [] (stM bX js σ) h1).bind λacc h3=>Qr fz acc h3
 |.eQ e,σ,h=>(ya e σ h).bind λx h1=>ZJ x h1
@[simp] noncomputable def Ys:List ME->aF->MH->R MV
 |[],_,_=>.stuck
 |[e],σ,h=>ya e σ h
 |e::e'::r,σ,h=>(ya e σ h).bind λx h1=>opt (yG x) λk=>if k=true then Ys (e'::r) σ h1 else .ok (.f (.bl false)) h1
@[simp] noncomputable def YA:List ME->aF->MH->R MV
 |[],_,_=>.stuck
 |[e],σ,h=>ya e σ h
 |e::e'::r,σ,h=>(ya e σ h).bind λx h1=>opt (yG x) λk=>if k=true then .ok (.f (.bl true)) h1 else YA (e'::r) σ h1
@[simp] noncomputable def Zg:List ME->aF->MH->R (List MV)
 |[],_,h=>.ok [] h
 |e::es,σ,h=>(ya e σ h).bind λx h1=>(Zg es σ h1).bind λxs h2=>.ok (x::xs) h2
@[simp] noncomputable def yZ:Option ME->aF->MH->R (Option Int)
 |none,_,h=>.ok none h
 |some e,σ,h=>(ya e σ h).bind λx h1=>opt (yc x) λi=>.ok (some i) h1
@[simp] noncomputable def rn:Option ME->aF->MH->R Bool
 |none,_,h=>.ok true h
 |some e,σ,h=>(ya e σ h).bind λx h1=>opt (yG x) λk=>.ok k h1
end
mutual
@[simp] noncomputable def Yo:MS->aF->MH->RS
 |.set tg e,σ,h=>(ya P W e σ h).st λv h1=>qy (yr tg v σ) λσ1=>.next σ1 h1
 |.dO o i e,σ,h=>(ya P W e σ h).st λv h1=>(ya P W o σ h1).st λx h2=>(ya P W i σ h2).st λy h3 =>
   match x with
   |.ref a=>qy (Qc h3 a) λxs=>qy (yc y) λk=>qy (lu xs.length k) λj=>.next σ (Ye h3 a (xs.set j v))
   |_=>.stuck
 |.nv o k,σ,h=>(ya P W o σ h).st λx h1=>(ya P W k σ h1).st λy h2=>qy (yc y) λi=>match x with
  |.ref a=>qy (YZ h2 (.ref a)) λks=>if ks.length<1000000 then .next σ (h2.set a (.fI (Qu ks i))) else .stuck
  |_=>.stuck
 |.par i j a b,σ,h=>(Zg P W [a,b] σ h).st λxs h1=>match xs with
  |[v,w]=>.next ((σ.set i (some v)).set j (some w)) h1
  |_=>.stuck
 |.gQ o n e,σ,h=>(ya P W e σ h).st λv h1=>(ya P W o σ h1).st λx h2=>match x with
   |.ref a=>match h2[a]? with
    |some (.obj c fs)=>if P.iZ c n=true/\fs.length<100 then .next σ (h2.set a (.obj c (oh n v fs))) else .stuck
    |_=>.stuck
   |_=>.stuck
 |.expr e,σ,h=>(ya P W e σ h).st λ_ h1=>.next σ h1
 |.ret e,σ,h=>(ya P W e σ h).st λv h1=>.ret v h1
 |.ite c a b,σ,h=>(ya P W c σ h).st λv h1=>qy (yG v) λk=>if k=true then Qa a σ h1 else Qa b σ h1
 |.for_ tg it src body,σ,h=>(Zg P W src σ h).st λxs h1=>qy (gE it xs h1) λp =>
   zJ p.2 (Qm tg (Qa body)) p.1 σ h1
 |.while_ c body,σ,h=>yE (ya P W c) (Qa body) P.turns σ h
 |.pass,σ,h=>.next σ h
 |.iJ,_,_=>.stuck
 |.oZ i,σ,h=>qy ((σ[i]?).join) λv=>(ZJ v h).st λx h1=>.next (σ.set i (some x)) h1
noncomputable def Qa:List MS->aF->MH->RS
 |[],σ,h=>.next σ h
 |s::r,σ,h=>(Yo s σ h).bind (Qa r)
end
end
noncomputable def yb(h:MH)(r:RS):R MV:=match r with
 |.next _ h'=>qg h (.f .bG) h'
 |.ret v h'=>qg h v h'
 |.exc c h'=>QS h c h'
 |_=>.stuck
noncomputable def run(P:Prog):Nat->String->List MV->MH->R MV
 |0,_,_,_=>.stuck
 |n+1,f,as,h=>opt (P.defs f) λd=>if as.length=d.np then yb h (Qa P (run P n) d.body (as.map some++xc (d.ns-d.np) none) h) else .stuck
end MP
end
section
namespace MP
open PySem
noncomputable abbrev I(i:Int):MV:=.f (.int i)
noncomputable abbrev B(b:Bool):MV:=.f (.bl b)
@[simp] theorem Od{α:Type}(g:α->FV):∀ xs:List α,Zk (xs.map λx=>MV.f (g x))=some (xs.map g)
 |[]=>rfl
 |x::r=>by simp[Zk,Od g r]
@[simp] theorem ZL:∀ xs:List FV,Zk (xs.map MV.f)=some xs
 |[]=>rfl
 |x::r=>by simp[Zk,ZL r]
@[simp] theorem yde{α:Type}(g:α->FV)(xs:List α):Zk (xs.map (MV.f∘g))=some (xs.map g):=Od g xs
@[simp] theorem qbz{α:Type}(g:α->Int):∀ xs:List α,Qf (xs.map λx=>MV.f (.int (g x)))=some (xs.map g)
 |[]=>rfl
 |x::r=>by simp[Qf,qbz g r]
@[simp] theorem ql:∀ xs:List Int,Qf (xs.map (MV.f∘FV.int))=some xs
 |[]=>rfl
 |x::r=>by
  show Option.map _ (Qf (r.map (MV.f∘FV.int)))=_;rw[ql r];rfl
@[simp] theorem qbQ{α:Type}(g:α->Bool):∀ xs:List α,yt (xs.map λx=>MV.f (.bl (g x)))=some (xs.map g)
 |[]=>rfl
 |x::r=>by simp[yt,qbQ g r]
@[simp] theorem qc3(xs:List FV):yg (xs.map MV.f)=.f (.tup xs):=by simp[yg]
@[simp] theorem L4{α:Type}(g:α->FV)(xs:List α):yg (xs.map (MV.f∘g))=.f (.tup (xs.map g)):=by simp[yg]
@[simp] theorem Yde{α:Type}(g:α->FV)(xs:List α):yg (xs.map λx=>MV.f (g x))=.f (.tup (xs.map g)):=by simp[yg]
@[simp] theorem Qdd(x y:FV):yg [.f x,.f y]=.f (.tup [x,y]):=rfl
@[simp] theorem ydc:yg []=.f (.tup []):=rfl
@[simp] theorem Qde(x:FV):yg [.f x]=.f (.tup [x]):=rfl
@[simp] theorem Qe(xs:List FV)(h:MH):Qr true (xs.map MV.f) h=.ok (.f (.lst xs)) h:=by simp[Qr]
@[simp] theorem ZG{α:Type}(g:α->FV)(xs:List α)(h:MH):Qr true (xs.map (MV.f∘g)) h=.ok (.f (.lst (xs.map g))) h:=by simp[Qr]
@[simp] theorem qcq{α:Type}(g:α->FV)(xs:List α)(h:MH):Qr true (xs.map λx=>MV.f (g x)) h=.ok (.f (.lst (xs.map g))) h:=by simp[Qr]
@[simp] theorem Ycq(h:MH):Qr true [] h=.ok (.f (.lst [])) h:=rfl
@[simp] theorem Zcc(x:FV)(r:List MV)(h:MH):Qr true (.f x::r) h=opt (Zk r) λys=>.ok (.f (.lst (x::ys))) h:=by
 simp only[Qr,Zk];cases Zk r <;> rfl
@[simp] theorem YN(xs:List MV)(h:MH):Qr false xs h=.ok (.ref h.length) (h++[.lst xs]):=rfl
@[simp] theorem Zc8(P:Prog)(W:String->List MV->MH->R MV)(σ:aF)(h:MH):Qa P W [] σ h=.next σ h:=by simp only[Qa]
@[simp] theorem Yn(P:Prog)(W:String->List MV->MH->R MV)(s:MS)(r:List MS)(σ:aF)(h:MH):Qa P W (s::r) σ h=(Yo P W s σ h).bind (Qa P W r):=by simp only[Qa]
section
variable {h:MH}
@[simp] theorem BJ(ok:String->String->Bool)(n c:String)(ns:List String)(vs:List FV):mM ok n (.f (.obj c ns vs)) h=if ok c n=true then(sT n ns vs).map .f else none:=rfl
@[simp] theorem Dy(a:Nat):Dz (.ref a) h=Qc h a:=rfl
@[simp] theorem ZbP:Yy (.f .bG)=true:=rfl
@[simp] theorem qda(s:Str):Yy (.f (.str s))=false:=rfl
@[simp] theorem Zdb(s:Int):Yy (.f (.int s))=false:=rfl
@[simp] theorem A6(s:Bool):Yy (.f (.bl s))=false:=rfl
@[simp] theorem qde(s:List FV):Yy (.f (.tup s))=false:=rfl
@[simp] theorem qdd(s:List FV):Yy (.f (.lst s))=false:=rfl
@[simp] theorem zdf(c:String)(ns:List String)(s:List FV):Yy (.f (.obj c ns s))=false:=rfl
@[simp] theorem zdb(s:Nat):Yy (.ref s)=false:=rfl
@[simp] theorem qc4(s:List MV):Yy (.tup s)=false:=rfl
@[simp] theorem zdc(xs:List FV):qb h (.f (.tup xs))=some (xs.map .f):=rfl
@[simp] theorem Zde(xs:List FV):qb h (.f (.lst xs))=some (xs.map .f):=rfl
@[simp] theorem Yda(ns:List Int):qb h (.f (.bP ns))=some (ns.map λi=>MV.f (.int i)):=rfl
@[simp] theorem QbQ(ns:List Int):zk (.f (.bP ns))=none:=rfl
@[simp] theorem zcR(xs:List MV):qb h (.tup xs)=some xs:=rfl
@[simp] theorem zK(a:Nat):qb h (.ref a)=Qc h a:=rfl
@[simp] theorem wV(n:String)(v:MV):oh n v []=[(n,v)]:=rfl
@[simp] theorem qdb(n k:String)(v x:MV)(r:List (String×MV)):oh n v ((k,x)::r)=if k=n then(k,v)::r else(k,x)::oh n v r:=rfl
@[simp] theorem Zc7(xs:List FV):listOf h (.f (.tup xs))=none:=rfl
@[simp] theorem Zbx(xs:List FV):listOf h (.f (.lst xs))=some (xs.map .f):=rfl
@[simp] theorem qcP(a:Nat):listOf h (.ref a)=Qc h a:=rfl
@[simp] theorem Zdc(xs:List FV):zk (.f (.tup xs))=some (xs.map .f):=rfl
@[simp] theorem yc1(xs:List MV):zk (.tup xs)=some xs:=rfl
@[simp] theorem qdc(xs:List FV):zk (.f (.lst xs))=none:=rfl
@[simp] theorem qbK(a:Nat):zk (.ref a)=none:=rfl
@[simp] theorem JY(i:Int):yc (.f (.int i))=some i:=rfl
@[simp] theorem Qdb(xs:List FV):yc (.f (.tup xs))=none:=rfl
@[simp] theorem zbN(xs:List FV):yc (.f (.lst xs))=none:=rfl
@[simp] theorem Qda(a:Nat):yc (.ref a)=none:=rfl
@[simp] theorem Eg(b:Bool):yG (.f (.bl b))=some b:=rfl
@[simp] theorem Ydc(i j:Int):Q4 .lt i j=some (decide (i<j)):=rfl
@[simp] theorem Zdd(i j:Int):Q4 .le i j=some (decide (i<=j)):=rfl
@[simp] theorem Ydb(i j:Int):Q4 .gt i j=some (decide (j<i)):=rfl
@[simp] theorem ydd(i j:Int):Q4 .ge i j=some (decide (j<=i)):=rfl
@[simp] theorem IG(x y:MV):yI .lt x y h=(yc x).bind λi=>(yc y).bind λj=>some (decide (i<j)):=rfl
@[simp] theorem IH(x y:MV):yI .le x y h=(yc x).bind λi=>(yc y).bind λj=>some (decide (i<=j)):=rfl
@[simp] theorem cmp_gt(x y:MV):yI .gt x y h=(yc x).bind λi=>(yc y).bind λj=>some (decide (j<i)):=rfl
@[simp] theorem II(x y:MV):yI .ge x y h=(yc x).bind λi=>(yc y).bind λj=>some (decide (j<=i)):=rfl
@[simp] theorem IB(x:FV):ZT h (.f x)=some x:=rfl
@[simp] theorem B'(x y:FV):yI .eq (.f x) (.f y) h=mX x y:=rfl
@[simp] theorem B9(x y:FV):yI .ne (.f x) (.f y) h=(mX x y).map (!·):=rfl
@[simp] theorem DJ(n:Nat):cy (n+1) .bG=true:=rfl
@[simp] theorem GZ(n:Nat)(b:Bool):cy (n+1) (.bl b)=true:=rfl
@[simp] theorem DM(n:Nat)(i:Int):cy (n+1) (.int i)=true:=rfl
@[simp] theorem DH(n:Nat)(s:Str):cy (n+1) (.str s)=tO s:=rfl
@[simp] theorem DG(n:Nat)(xs:List FV):cy (n+1) (.tup xs)=xs.all (cy n):=rfl
@[simp] theorem DK(n:Nat)(xs:List FV):cy (n+1) (.lst xs)=xs.all (cy n):=rfl
@[simp] theorem Ee(i j:Int):gH (.int i) (.int j)=(i==j):=by simp[gH]
@[simp] theorem Ec(i j:Str):gH (.str i) (.str j)=(i==j):=by simp[gH]
@[simp] theorem Eb(xs ys:List FV):gH (.tup xs) (.tup ys)=nY xs ys:=by simp[gH]
@[simp] theorem Ed(xs ys:List FV):gH (.lst xs) (.lst ys)=nY xs ys:=by simp[gH]
@[simp] theorem Ea(i j:Int):mX (.int i) (.int j)=some (i==j):=by simp[mX]
theorem YcD(i j)(a:tO i=true)(b:tO j=true):mX (.str i) (.str j)=some (i==j):=by simp[mX,a,b]
@[simp] theorem Ei(fz:Bool)(i j:Int):ye fz .add (.f (.int i)) (.f (.int j)) h=.ok (.f (.int (i+j))) h:=rfl
@[simp] theorem Eh(fz:Bool)(i j:Int):ye fz .sub (.f (.int i)) (.f (.int j)) h=.ok (.f (.int (i-j))) h:=rfl
theorem zr(fz)(i j)(c:zB i j):ye fz .mul (.f (.int i)) (.f (.int j)) h=.ok (.f (.int (i*j))) h:=by simp[ye,qI,c]
theorem zm(fz)(i j)(c:JS i j):ye fz .fdiv (.f (.int i)) (.f (.int j)) h=.ok (.f (.int (i/j))) h:=by simp[ye,qI,c]
theorem Yg(fz)(i j)(c:0<j):ye fz .mod (.f (.int i)) (.f (.int j)) h=.ok (.f (.int (i%j))) h:=by simp[ye,qI,c]
theorem Y7(fz)(i j)(c:0<=j/\j<=1000000/\i.natAbs<2^64):ye fz .pow (.f (.int i)) (.f (.int j)) h=.ok (.f (.int (i^j.toNat))) h:=by simp[ye,qI,c]
@[simp] theorem zv(fz:Bool)(v:MV):zq fz "len" [v] h=opt (qb h v) λxs=>.ok (.f (.int xs.length)) h:=rfl
@[simp] theorem zL(fz:Bool)(v:MV):zq fz "sum" [v] h=opt ((qb h v).bind Qf) λxs=>.ok (.f (.int xs.sum)) h:=rfl
@[simp] theorem EJ(fz:Bool)(v:MV):zq fz "all" [v] h=opt ((qb h v).bind yt) λxs=>.ok (.f (.bl (xs.all id))) h:=rfl
@[simp] theorem Yw(fz:Bool)(v:MV):zq fz "tuple" [v] h=opt (qb h v) λxs=>.ok (yg xs) h:=rfl
@[simp] theorem yV(fz:Bool)(v:MV):zq fz "list" [v] h=opt (qb h v) λxs=>Qr fz xs h:=rfl
@[simp] theorem YV(fz:Bool)(i j:Int):zq fz "min" [.f (.int i),.f (.int j)] h=.ok (.f (.int (if j<i then j else i))) h:=rfl
@[simp] theorem yX(fz:Bool)(i j:Int):zq fz "max" [.f (.int i),.f (.int j)] h=.ok (.f (.int (if j>i then j else i))) h:=rfl
@[simp] theorem Di(fz:Bool)(i:Int):zq fz "abs" [.f (.int i)] h=.ok (.f (.int (if i<0 then -i else i))) h:=rfl
@[simp] theorem YU(fz:Bool)(i:Int):zq fz "int" [.f (.int i)] h=.ok (.f (.int i)) h:=rfl
@[simp] theorem YW(fz:Bool)(b:Bool):zq fz "int" [.f (.bl b)] h=.ok (.f (.int (if b then 1 else 0))) h:=rfl
end
@[simp] theorem DE{α:Type}(c:Prop) [Decidable c] (x y:α)(h:MH):(if c then R.ok x h else R.ok y h)=R.ok (if c then x else y) h:=by split <;> rfl
@[simp] theorem Nq(c:Prop) [Decidable c] (x y:FV):(if c then MV.f x else MV.f y)=MV.f (if c then x else y):=by split <;> rfl
@[simp] theorem GX(c:Prop) [Decidable c] (x y:Bool):(if c then FV.bl x else FV.bl y)=FV.bl (if c then x else y):=by split <;> rfl
@[simp] theorem ite_int(c:Prop) [Decidable c] (x y:Int):(if c then FV.int x else FV.int y)=FV.int (if c then x else y):=by split <;> rfl
theorem yu(xs:List MV)(k:Nat):dy xs (k:Int)=xs[k]?:=by
 unfold dy lu;by_cases h:k<xs.length
 ·simp[h]
 ·simp[h]
theorem zV(xs:List MV)(i:Int)(h:0<=i):dy xs i=xs[i.toNat]?:=by
 have:=yu xs i.toNat
 rwa [Int.toNat_of_nonneg h] at this
@[simp] theorem EL(x:MV)(xs:List MV):dy (x::xs) 0=some x:=by have:=yu (x::xs) 0;simpa using this
@[simp] theorem Ek(x y:MV)(xs:List MV):dy (x::y::xs) 1=some y:=by have:=yu (x::y::xs) 1;simpa using this
@[simp] theorem Ej(x y z:MV)(xs:List MV):dy (x::y::z::xs) 2=some z:=by have:=yu (x::y::z::xs) 2;simpa using this
noncomputable def sq(b:Bool)(xs:List FV):FV:=if b=true then .tup xs else .lst xs
@[simp] theorem wX(h:MH)(b:Bool)(xs:List FV):qb h (.f (sq b xs))=some (xs.map .f):=by cases b <;> rfl
@[simp] theorem zc5(h:MH)(b:Bool)(xs:List FV):Qb h (.f (sq b xs))=[]:=rfl
noncomputable def tI:List Int->Int
 |[]=>0
 |x::r=>nX x r
noncomputable def Qy:List Int->Int
 |[]=>0
 |x::r=>og x r
theorem J5:∀(r:List Int)(m:Int),nX m r<=m/\∀ v∈r,nX m r<=v
 |[],m=>⟨Vz _,λv hv=>by simp at hv⟩
 |x::r,m=>by
  obtain⟨a,b⟩:=J5 r (if x<m then x else m);simp only[nX];refine⟨by split at a <;> rename_i hc <;> simp only[hc,if_true,if_false] <;> lia,λv hv=>?_⟩
  rcases Xa.mp hv with rfl|hv
  ·split at a <;> rename_i hc <;> simp only[hc,if_true,if_false] <;> lia
  ·exact b v hv
theorem OX:∀(r:List Int)(m:Int),nX m r=m\/nX m r∈r
 |[],m=>.inl rfl
 |x::r,m=>by
  simp only[nX]
  rcases OX r (if x<m then x else m) with e|e
  ·rw[e];split
   ·exact .inr (by simp)
   ·exact .inl rfl
  ·exact .inr (by simp[e])
theorem JB:∀(r:List Int)(m:Int),m<=og m r/\∀ v∈r,v<=og m r
 |[],m=>⟨Vz _,λv hv=>by simp at hv⟩
 |x::r,m=>by
  obtain⟨a,b⟩:=JB r (if x>m then x else m);simp only[og];refine⟨by split at a <;> rename_i hc <;> simp only[hc,if_true,if_false] <;> lia,λv hv=>?_⟩
  rcases Xa.mp hv with rfl|hv
  ·split at a <;> rename_i hc <;> simp only[hc,if_true,if_false] <;> lia
  ·exact b v hv
theorem KU:∀(r:List Int)(m:Int),og m r=m\/og m r∈r
 |[],m=>.inl rfl
 |x::r,m=>by
  simp only[og]
  rcases KU r (if x>m then x else m) with e|e
  ·rw[e];split
   ·exact .inr (by simp)
   ·exact .inl rfl
  ·exact .inr (by simp[e])
theorem E3  (h:r≠[]):tI r∈r:=by
 cases r with
 |nil=>exact absurd rfl h
 |cons x r=>rcases OX r x with e|e <;> simp[tI,e]
theorem JX  (h:r≠[]):Qy r∈r:=by
 cases r with
 |nil=>exact absurd rfl h
 |cons x r=>rcases KU r x with e|e <;> simp[Qy,e]
theorem Qcz   (h:v∈r):tI r<=v:=by
 cases r with
 |nil=>simp at h
 |cons x r =>
  rcases Xa.mp h with rfl|h
  ·exact(J5 r v).1
  ·exact(J5 r x).2 v h
theorem GI   (h:v∈r):v<=Qy r:=by
 cases r with
 |nil=>simp at h
 |cons x r =>
  rcases Xa.mp h with rfl|h
  ·exact(JB r v).1
  ·exact(JB r x).2 v h
theorem MC(fz)(h)(v)(ns)(e:(qb h v).bind Qf=some ns)(ne:ns≠[]):zq fz "min" [v] h=.ok (I (tI ns)) h:=by
 cases ns with
 |nil=>exact absurd rfl ne
 |cons x r=>show opt ((qb h v).bind Qf) _=_;rw[e];rfl
theorem JJ(fz)(h)(v)(ns)(e:(qb h v).bind Qf=some ns)(ne:ns≠[]):zq fz "max" [v] h=.ok (I (Qy ns)) h:=by
 cases ns with
 |nil=>exact absurd rfl ne
 |cons x r=>show opt ((qb h v).bind Qf) _=_;rw[e];rfl
theorem zi(h t)(xs):Qc (h++.lst xs::t) h.length=some xs:=by simp[Qc]
theorem ybr    (e:Qc h a=some xs):Qc (h++t) a=some xs:=by
 unfold Qc at *;cases q:h[a]? with
 |none=>rw[q] at e;cases e
 |some c=>rw[Xb (xa.mp q).1,q];rw[q] at e;exact e
theorem Zq(h t)(xs ys):Ye (h++.lst xs::t) h.length ys=h++.lst ys::t:=by simp[Ye]
theorem Jr(h)(n):∀ xs:List FV,(xs.map MV.f).mapM (qp h (n+1))=some xs
 |[]=>rfl
 |x::r=>by simp[Xq,Jr h n r,qp]
theorem Qbq(h)(n):∀ xs:List FV,(xs.map MV.f).flatMap (Zr h (n+1))=[]
 |[]=>rfl
 |x::r=>by simp[Zr]
theorem KQ(h t)(as)(ha:∀ a∈as,h.length<=a):∃ t',kill as (h++t)=h++t':=by
 refine⟨(t.mapIdx λi c=>if i+h.length∈as then .dead else c),?_⟩;unfold kill;rw[List.mapIdx_append]
 congr 1
 ·refine Vg λi=>?_;rw[Wj];cases q:h[i]? with
  |none=>rfl
  |some c =>
   have hi:=(xa.mp q).1;have:i∉as:=λz=>by have:=ha i z;lia
   simp[this]
theorem JL(h)(a)(xs)(e:Qc h a=some (xs.map .f)):ZJ (.ref a) h=.ok (.f (.lst xs)) (kill [a] h):=by
 simp only[ZJ,ZT,qp,e,xh,Jr,vf,zc,Zr,Uq,Qbq]
theorem EI(h t)(xs):∃ t',ZJ (.ref h.length) (h++.lst (xs.map .f)::t)=.ok (.f (.lst xs)) (h++t'):=by
 obtain⟨t',e⟩:=KQ h (.lst (xs.map .f)::t) [h.length] (by simp);exact⟨t',by rw[JL _ _ xs (zi h t _),e]⟩
@[simp] theorem NS(h:MH)(x:FV):ZJ (.f x) h=.ok (.f x) h:=by
 have:kill [] h=h:=by unfold kill;refine Vg λi=>?_;rw[Wj];cases h[i]? <;> rfl
 simp[ZJ,ZT,qp,Zr,this]
@[simp] theorem ycR(k:String->MH->RS)(c:String)(h:MH):RS.l8 k (.exc c h)=k c h:=id rfl
@[simp] theorem ZcO(k:String->MH->RS)(σ:aF)(h:MH):RS.l8 k (.next σ h)=.next σ h:=id rfl
@[simp] theorem zcQ(k:String->MH->RS)(v:MV)(h:MH):RS.l8 k (.ret v h)=.ret v h:=id rfl
theorem bK.refl(h):bK h h:=⟨Ua _,λi c _ e=>.inl e⟩
theorem bK.app(h t):bK h (h++t):=⟨by simp,λi c hi e=>.inl (by rw[Xb hi] at e;exact e)⟩
theorem bK.cons   (t:bK h h')(e:c'=c\/jR c'):bK (c::h) (c'::h'):=by
 refine⟨by have:=t.1;simp;lia,λi d hi q=>?_⟩;cases i with
 |zero =>
  simp at q;subst q;rcases e with e|e
  ·left;simp[e]
  ·exact .inr e
 |succ i=>simp at q hi ⊢;exact t.2 i d hi q
@[simp] theorem Ybz(h:MH)(x:FV):qg h (.f x) h=.ok (.f x) h:=by simp[qg,bK.refl]
@[simp] theorem ydb(h t:MH)(x:FV):qg h (.f x) (h++t)=.ok (.f x) h:=by simp[qg,bK.app]
@[simp] theorem AS(h:MH)(k k':Int)(x:FV):qg (.lst [I k]::h) (.f x) (.lst [I k']::h)=.ok (.f x) (.lst [I k']::h):=by
 simp[qg,bK.cons (bK.refl h) (.inr ⟨[.int k'],rfl⟩:Cell.lst [I k']=Cell.lst [I k]\/jR (.lst [I k']))]
@[simp] theorem Zcw(h t:MH)(k k':Int)(x:FV):qg (.lst [I k]::h) (.f x) (.lst [I k']::(h++t))=.ok (.f x) (.lst [I k']::h):=by
 simp[qg,bK.cons (bK.app h t) (.inr ⟨[.int k'],rfl⟩:Cell.lst [I k']=Cell.lst [I k]\/jR (.lst [I k']))]
@[simp] theorem YcM(h:MH)(c:String):QS h c h=.exc c h:=by simp[QS,bK.refl]
@[simp] theorem qc7(h t:MH)(c:String):QS h c (h++t)=.exc c h:=by simp[QS,bK.app]
@[simp] theorem qcM(h:MH)(σ:aF)(h':MH):yb h (.next σ h')=qg h (.f .bG) h':=id rfl
@[simp] theorem Lf(h:MH)(v:MV)(h':MH):yb h (.ret v h')=qg h v h':=id rfl
@[simp] theorem QcS(h:MH)(c:String)(h':MH):yb h (.exc c h')=QS h c h':=id rfl
@[simp] theorem Yt(h:MH):aP [] h:=λp hp=>by simp at hp
@[simp] theorem zde(h:MH)(x:FV):Qb h (.f x)=[]:=rfl
@[simp] theorem YcL(h:MH)(x:List MV):Qb h (.tup x)=[]:=rfl
theorem Jw(bd:MV->aF->MH->RS)(x)(r)(σ)(h):zJ [] bd (x::r) σ h=(bd x σ h).turn λσ1 h1=>zJ [] bd r σ1 h1:=by simp[zJ]
@[simp] theorem Yp(h:MH)(v:MV):gE "seq" [v] h=(qb h v).map λxs=>(xs,Qb h v):=rfl
theorem qo(h)(n)(c:-(2^62)<=n/\n<2^62):gE "range" [.f (.int n)] h=some ((uc n.toNat).map λ(k:Nat)=>I k,[]):=if_pos c
theorem YcS(h)(u):gE "range" [u] h=(yc u).bind λn=>if -(2^62)<=n/\n<2^62 then some ((uc n.toNat).map λ(k:Nat)=>.f (.int k),[]) else none:=rfl
theorem ZcQ(h)(u v):gE "range" [u,v] h=(yc u).bind λa=>(yc v).bind λb=>if -(2^62)<=a/\a<2^62/\-(2^62)<=b/\b<2^62 then some ((uc (b-a).toNat).map λ(k:Nat)=>.f (.int (a+k)),[]) else none:=rfl
theorem qcT(h)(u v w):gE "range" [u,v,w] h=(yc u).bind λa=>(yc v).bind λb=>(yc w).bind λs=>if -(2^30)<=a/\a<2^30/\-(2^30)<=b/\b<2^30/\0<s/\s<2^30 then some ((uc (gx a b s)).map λ(k:Nat)=>.f (.int (a+k*s)),[]) else none:=rfl
theorem LU(h)(v):gE "enum1" [v] h=(qb h v).map λxs=>(xs.mapIdx λk x=>yg [.f (.int ((k+1:Nat):Int)),x],Qb h v):=rfl
@[simp] theorem Fg(h:MH)(u v:MV):gE "zip" [u,v] h=(qb h u).bind λxs=>(qb h v).map λys=>((xs.zip ys).map λp=>yg [p.1,p.2],Qb h u++Qb h v):=rfl
@[simp] theorem J0(h:MH)(v:MV):gE "enumerate" [v] h=(qb h v).map λxs=>(xs.mapIdx λk x=>yg [.f (.int k),x],Qb h v):=rfl
@[simp] theorem YcT(n:Nat):(((n:Int)+1=0)=False):=eq_false (by lia)
@[simp] theorem QcN(n:Nat):(((n:Int)+1==0)=false):=beq_false_of_ne (by lia)
theorem qw{α:Type}{bd:MV->aF->MH->R (Option MV×aF)}{h:MH}{e g:α->MV}{caps:aF}:∀(ys:List α)(acc:List MV)(z:Option MV),acc.length+ys.length<=aC ->
  (∀ y∈ys,∀ z,∃ z',bd (e y) (z::caps) h=.ok (some (g y),z'::caps) h)->zh [] bd (ys.map e) acc (z::caps) h=.ok (acc++ys.map g) h
 |[],acc,z,_,_=>by simp[zh]
 |y::r,acc,z,hl,hb=>by
  obtain⟨z',e'⟩:=hb y (by simp) z;simp only[Uc] at hl;have:=qw (bd:=bd) (h:=h) (e:=e) (g:=g) (caps:=caps) r (acc++[g y]) z' (by simp;lia) (λy hy z=>hb y (by simp[hy]) z);simp[zh,e',this]
  lia
theorem zn{α:Type}{bd:MV->aF->MH->R (Option MV×aF)}{h:MH}{e g:α->MV}{caps:aF}:∀(ys:List α)(acc:List MV)(z w:Option MV),acc.length+ys.length<=aC ->
  (∀ y∈ys,∀ z w,∃ z' w',bd (e y) (z::w::caps) h=.ok (some (g y),z'::w'::caps) h)->zh [] bd (ys.map e) acc (z::w::caps) h=.ok (acc++ys.map g) h
 |[],acc,z,w,_,_=>by simp[zh]
 |y::r,acc,z,w,hl,hb=>by
  obtain⟨z',w',e'⟩:=hb y (by simp) z w;simp only[Uc] at hl;have:=zn (bd:=bd) (h:=h) (e:=e) (g:=g) (caps:=caps) r (acc++[g y]) z' w' (by simp;lia) (λy hy z=>hb y (by simp[hy]) z);simp[zh,e',this]
  lia
theorem ZD{α β:Type}{bd:MV->aF->MH->RS}{e:α->MV}{st:β->aF}{hp:β->MH}{f:β->α->β}:∀(ys:List α)(b:β),
  (∀ y∈ys,∀ b,bd (e y) (st b) (hp b)=.next (st (f b y)) (hp (f b y)))->zJ [] bd (ys.map e) (st b) (hp b)=.next (st (ys.foldl f b)) (hp (ys.foldl f b))
 |[],b,_=>by simp[zJ]
 |y::r,b,hb=>by
  simp only[xb,Jw,hb y (by simp) b,RS.kG,Wh];exact ZD r (f b y) λy hy b=>hb y (by simp[hy]) b
theorem Y4{α β:Type}{bd:MV->aF->MH->RS}{e:α->MV}{st:β->aF}{hp:β->MH}{f:β->α->β}(Pb:β->Prop):∀(ys:List α)(b:β),Pb b ->
  (∀ y∈ys,∀ b,Pb b->bd (e y) (st b) (hp b)=.next (st (f b y)) (hp (f b y))/\Pb (f b y))->zJ [] bd (ys.map e) (st b) (hp b)=.next (st (ys.foldl f b)) (hp (ys.foldl f b))/\Pb (ys.foldl f b)
 |[],b,p,_=>⟨by simp[zJ],p⟩
 |y::r,b,p,hb=>by
  obtain⟨e1,p1⟩:=hb y (by simp) b p;simp only[xb,Jw,e1,RS.kG,Wh];exact Y4 Pb r (f b y) p1 λy hy b=>hb y (by simp[hy]) b
theorem E4{α:Type}{bd:MV->aF->MH->RS}{e:α->MV}(Pv:Nat->aF->MH->Prop):∀(ys:List α)(i:Nat)(σ:aF)(h:MH),Pv i σ h ->
  (∀ j y σ h,ys[j]?=some y->Pv (i+j) σ h->∃ σ' h',bd (e y) σ h=.next σ' h'/\Pv (i+j+1) σ' h')->∃ σ' h',zJ [] bd (ys.map e) σ h=.next σ' h'/\Pv (i+ys.length) σ' h'
 |[],i,σ,h,p,_=>⟨σ,h,by simp[zJ],p⟩
 |y::r,i,σ,h,p,hb=>by
  obtain⟨σ1,h1,e1,p1⟩:=hb 0 y σ h rfl p;obtain⟨σ2,h2,e2,p2⟩:=E4 (bd:=bd) (e:=e) Pv r (i+1) σ1 h1 p1 (λj y σ h hj pj=>by
   have:=hb (j+1) y σ h (by simpa using hj) (by rw[show i+(j+1)=i+1+j by lia];exact pj)
   rwa [show i+(j+1)+1=i+1+j+1 by lia] at this)
  refine⟨σ2,h2,by simp[Jw,e1,e2],?_⟩
  rwa [show i+(y::r).length=i+1+r.length by simp;lia]
end MP
end
section
namespace SD
open PySem PySem.Spec PyProof.Rows L2 L3 M3 MP
structure Tx where
 adr:String->ae
 K:Jc
 cd:ae:=0
 tb:ae:=0
 lp:Pos:=⟨0,0,0,0⟩
 lq:Str:=jj ""
instance:CoeFun Tx (λ_=>String->ae):=⟨Tx.adr⟩
noncomputable def Cq(K:Jc)(a:ae)(ns:List Int):Prop:=∃(o:Obj)(av:Array Value)(n:Nat),K.lookup a=some o/\o.cls=.type "list"/\o.dict=none/\o.data=.seq av n/\av.size<=sizeLine/\Vals (ns.map V.int) av.toList
noncomputable def aZ(μ:List ae)(h:MH)(b:ae):Prop:=∃(i:Nat)(c:Cell),μ[i]?=some b/\h[i]?=some c/\c≠Cell.dead
section
variable (ct:Tx)
mutual
noncomputable def RF(L:ae->Prop)(H:Hp):FV->V->Prop
 |.bG,v=>v=.bG
 |.bl b,v=>v=.bl b
 |.int i,v=>v=.int i
 |.str x,v=>v=.str x
 |.tup xs,v=>∃ a vs,v=.ref a/\¬ L a/\H a=some (.tup vs)/\fy L H xs vs
 |.lst xs,v=>∃ a vs,v=.ref a/\¬ L a/\Rd H a (.lst vs)/\fy L H xs vs
 |.obj c ns xs,v=>∃ a dx fs,v=.ref a/\¬ L a/\H a=some (.ins (ct c) dx fs)/\fs.map ut=ns.map jj/\fy L H xs (fs.map wo)
 |.tab kvs,v=>∃ a o,v=.ref a/\¬ L a/\H a=some (.eQ o (.dT (kvs.map λkv=>([(Jb kv.1.1:Key),Jb kv.1.2],V.int kv.2))))
 |.cY ks,v=>∃ a o,v=.ref a/\¬ L a/\H a=some (.eQ o (.dT (ks.map λk=>([(Jb k.1:Key),Jb k.2],V.bl true))))
 |.bP ns,v=>∃ a,v=.ref a/\((¬ L a/\∃ o,H a=some (.eQ o (.lst (ns.map V.int))))\/Cq ct.K a ns)
noncomputable def fy(L:ae->Prop)(H:Hp):List FV->List V->Prop
 |[],vs=>vs=[]
 |x::xs,vs=>∃ v r,vs=v::r/\RF L H x v/\fy L H xs r
end
mutual
noncomputable def RV(μ:List ae)(L:ae->Prop)(H:Hp):MV->V->Prop
 |.f x,v=>RF ct L H x v
 |.ref i,v=>∃ b,μ[i]?=some b/\v=.ref b
 |.tup xs,v=>∃ a vs,v=.ref a/\¬ L a/\H a=some (.tup vs)/\aw μ L H xs vs
 |.exc c,v=>∃ a,v=.ref a/\¬ L a/\H a=some (.ext (Ir (ct c) a))
noncomputable def aw(μ:List ae)(L:ae->Prop)(H:Hp):List MV->List V->Prop
 |[],vs=>vs=[]
 |x::xs,vs=>∃ v r,vs=v::r/\RV μ L H x v/\aw μ L H xs r
end
noncomputable def bL(μ:List ae)(L:ae->Prop)(H:Hp)(b:ae):Cell->Prop
 |.lst xs=>∃ vs,H b=some (.lst vs)/\aw ct μ L H xs vs
 |.obj c fs=>∃ dx gs,H b=some (.ins (ct c) dx gs)/\gs.map ut=fs.map (λp=>jj p.1)/\aw ct μ L H (fs.map wo) (gs.map wo)
 |.fI ks=>H b=some (.dK (ks.map λk=>((Jb k:Key),V.bl true)))
 |.tab kvs=>H b=some (.dT (kvs.map λkv=>([(Jb kv.1.1:Key),Jb kv.1.2],V.int kv.2)))
 |.cY ks=>H b=some (.dT (ks.map λk=>([(Jb k.1:Key),Jb k.2],V.bl true)))
 |.code=>b=ct.tb/\(H b=some (.ext (ZI b ct.lp none))\/∃ c',c'≠b/\¬ L c'/\H b=some (.ext (ZI b ct.lp (some c')))/\H c'=some (.ext (ng c' ct.lq)))
 |.dead=>True
structure Rel (μ:List ae) (h:MH) (H:Hp):Prop where
 len:μ.length=h.length
 nd:μ.Nodup
 has:∀ b∈μ,∃ o,H b=some o
 cells:∀(i:Nat)(b:ae)(c:Cell),μ[i]?=some b->h[i]?=some c->bL ct μ (aZ μ h) H b c
end
structure Ext (μ:List ae) (h:MH) (H:Hp) (μ':List ae) (h':MH) (H':Hp):Prop where
 pre:∃ ν,μ'=μ++ν
 keep:∀ b o,H b=some o->¬ aZ μ h b->H' b=some o
 lC:∀ b,aZ μ' h' b->aZ μ h b\/H b=none
theorem Ext.refl(μ)(h)(H):Ext μ h H μ h H:=⟨⟨[],by simp⟩,λ_ _ e _=>e,λ_ l=>.inl l⟩
theorem Ext.trans    (a:Ext μ h H μ1 h1 H1)(b:Ext μ1 h1 H1 μ2 h2 H2):Ext μ h H μ2 h2 H2:=by
 obtain⟨ν,e⟩:=a.pre;obtain⟨ν',e'⟩:=b.pre;refine⟨⟨ν++ν',by rw[e',e,uh]⟩,λc o q n=>?_,λc l=>?_⟩
 ·refine b.keep c o (a.keep c o q n) λl=>?_
  rcases a.lC c l with z|z
  ·exact n z
  ·rw[q] at z;cases z
 ·rcases b.lC c l with z|z
  ·exact a.lC c z
  ·by_cases n:aZ μ h c
   ·exact .inl n
   ·cases q:H c with
    |none=>exact .inr rfl
    |some o=>rw[a.keep c o q n] at z;cases z
theorem Rd.keep    (k:∀ o,H a=some o->H' a=some o)(r:Rd H a u):Rd H' a u:=r.elim (λe=>.inl (k _ e)) λ⟨o,e⟩=>.inr ⟨o,k _ e⟩
theorem Rd.some    (r:Rd H a u):∃ o,H a=some o:=r.elim (λe=>⟨_,e⟩) λ⟨_,e⟩=>⟨_,e⟩
section
variable {ct:Tx}
structure Let (L:ae->Prop) (H:Hp) (L':ae->Prop) (H':Hp):Prop where
 keep:∀ b o,H b=some o->¬ L b->H' b=some o
 lC:∀ b o,H b=some o->¬ L b->¬ L' b
theorem Ext.let    (e:Ext μ h H μ' h' H'):Let (aZ μ h) H (aZ μ' h') H' :=
 ⟨e.keep,λb o q n l=>(e.lC b l).elim n λz=>by rw[q] at z;cases z⟩
mutual
theorem RF.to   (l:Let L H L' H'):∀{x:FV}{v:V},RF ct L H x v->RF ct L' H' x v
 |.bG,_,r=>by simpa only[RF] using r
 |.bl _,_,r=>by simpa only[RF] using r
 |.int _,_,r=>by simpa only[RF] using r
 |.str _,_,r=>by simpa only[RF] using r
 |.tup xs,v,r=>by
  simp only[RF] at r ⊢;obtain⟨a,vs,e,n,rd,q⟩:=r;exact⟨a,vs,e,l.lC a _ rd n,l.keep a _ rd n,fy.to l q⟩
 |.lst xs,v,r=>by
  simp only[RF] at r ⊢;obtain⟨a,vs,e,n,rd,q⟩:=r;obtain⟨o,ho⟩:=Rd.some rd;exact⟨a,vs,e,l.lC a o ho n,Rd.keep (λo e=>l.keep a o e n) rd,fy.to l q⟩
 |.obj c ns xs,v,r=>by
  simp only[RF] at r ⊢;obtain⟨a,dx,fs,e,n,ho,q1,q⟩:=r;exact⟨a,dx,fs,e,l.lC a _ ho n,l.keep a _ ho n,q1,fy.to l q⟩
 |.tab kvs,v,r=>by
  simp only[RF] at r ⊢;obtain⟨a,o,e,n,q⟩:=r;exact⟨a,o,e,l.lC a _ q n,l.keep a _ q n⟩
 |.cY ks,v,r=>by
  simp only[RF] at r ⊢;obtain⟨a,o,e,n,q⟩:=r;exact⟨a,o,e,l.lC a _ q n,l.keep a _ q n⟩
 |.bP ns,v,r=>by
  simp only[RF] at r ⊢;obtain⟨a,e,q⟩:=r;exact⟨a,e,q.imp (λ⟨n,o,h⟩=>⟨l.lC a _ h n,o,l.keep a _ h n⟩) id⟩
theorem fy.to   (l:Let L H L' H'):∀{xs:List FV}{vs:List V},fy ct L H xs vs->fy ct L' H' xs vs
 |[],_,r=>by simpa only[fy] using r
 |x::xs,vs,r=>by
  simp only[fy] at r ⊢;obtain⟨v,t,e,q1,q2⟩:=r;exact⟨v,t,e,RF.to l q1,fy.to l q2⟩
end
mutual
theorem RV.to    (l:Let L H L' H'):∀{x:MV}{v:V},RV ct μ L H x v->RV ct (μ++ν) L' H' x v
 |.f x,v,r=>by simp only[RV] at r ⊢;exact RF.to l r
 |.ref i,v,r=>by
  simp only[RV] at r ⊢;obtain⟨b,e,q⟩:=r;exact⟨b,by rw[Xb (xa.mp e).1];exact e,q⟩
 |.tup xs,v,r=>by
  simp only[RV] at r ⊢;obtain⟨a,vs,e,n,rd,q⟩:=r;exact⟨a,vs,e,l.lC a _ rd n,l.keep a _ rd n,aw.to l q⟩
 |.exc _,v,r=>by
  simp only[RV] at r ⊢;obtain⟨a,e,n,q⟩:=r;exact⟨a,e,l.lC a _ q n,l.keep a _ q n⟩
theorem aw.to    (l:Let L H L' H'):∀{xs:List MV}{vs:List V},aw ct μ L H xs vs->aw ct (μ++ν) L' H' xs vs
 |[],_,r=>by simpa only[aw] using r
 |x::xs,vs,r=>by
  simp only[aw] at r ⊢;obtain⟨v,t,e,q1,q2⟩:=r;exact⟨v,t,e,RV.to l q1,aw.to l q2⟩
end
theorem RV.ext      (e:Ext μ h H μ' h' H')(r:RV ct μ (aZ μ h) H x v):RV ct μ' (aZ μ' h') H' x v:=by
 obtain⟨ν,q⟩:=e.pre;subst q;exact RV.to e.let r
theorem aw.ext      (e:Ext μ h H μ' h' H')(r:aw ct μ (aZ μ h) H x v):aw ct μ' (aZ μ' h') H' x v:=by
 obtain⟨ν,q⟩:=e.pre;subst q;exact aw.to e.let r
theorem aw.length   :∀{xs:List MV}{vs:List V},aw ct μ L H xs vs->vs.length=xs.length
 |[],_,r=>by simp only[aw] at r;simp[r]
 |x::xs,vs,r=>by
  simp only[aw] at r;obtain⟨v,t,e,_,q⟩:=r;simp[e,aw.length q]
theorem aw.get   :∀{xs:List MV}{vs:List V}{i:Nat}{x:MV},aw ct μ L H xs vs->xs[i]?=some x->∃ v,vs[i]?=some v/\RV ct μ L H x v
 |[],_,_,_,_,e=>by simp at e
 |x::xs,vs,0,y,r,e=>by
  simp only[aw] at r;obtain⟨v,t,q,r1,_⟩:=r;simp at e;subst e;exact⟨v,by simp[q],r1⟩
 |x::xs,vs,i+1,y,r,e=>by
  simp only[aw] at r;obtain⟨v,t,q,_,r2⟩:=r;obtain⟨u,h1,h2⟩:=aw.get (i:=i) r2 (by simpa using e);exact⟨u,by simp[q,h1],h2⟩
theorem aw.get'{μ:List ae}{L:ae->Prop}{H:Hp}{xs:List MV}{vs:List V}{i:Nat}{v:V}(r:aw ct μ L H xs vs)(e:vs[i]?=some v):∃ x,xs[i]?=some x/\RV ct μ L H x v:=by
 have hl:=r.length;have hi:i<xs.length:=by rw[<- hl];exact(xa.mp e).1
 obtain⟨u,h1,h2⟩:=r.get (i:=i) (x:=xs[i]) (by simp[hi]);rw[e] at h1;cases h1;exact⟨_,by simp[hi],h2⟩
theorem aw.cons        (a:RV ct μ L H x v)(b:aw ct μ L H xs vs):aw ct μ L H (x::xs) (v::vs):=by
 simp only[aw];exact⟨v,vs,rfl,a,b⟩
theorem aw.nil   :aw ct μ L H [] []:=by simp only[aw]
theorem aw.append   :∀{xs ys:List MV}{vs ws:List V},aw ct μ L H xs vs->aw ct μ L H ys ws->aw ct μ L H (xs++ys) (vs++ws)
 |[],_,_,_,r,s=>by simp only[aw] at r;subst r;exact s
 |x::xs,ys,vs,ws,r,s=>by
  simp only[aw] at r;obtain⟨v,t,rfl,r1,r2⟩:=r;exact aw.cons r1 (aw.append r2 s)
theorem aw.take   :∀(n:Nat){xs:List MV}{vs:List V},aw ct μ L H xs vs->aw ct μ L H (xs.take n) (vs.take n)
 |0,_,_,_=>aw.nil
 |n+1,[],_,r=>by simp only[aw] at r;subst r;exact aw.nil
 |n+1,x::xs,vs,r=>by
  simp only[aw] at r;obtain⟨v,t,rfl,r1,r2⟩:=r;exact aw.cons r1 (aw.take n r2)
theorem aw.drop   :∀(n:Nat){xs:List MV}{vs:List V},aw ct μ L H xs vs->aw ct μ L H (xs.drop n) (vs.drop n)
 |0,_,_,r=>r
 |n+1,[],_,r=>by simp only[aw] at r;subst r;exact aw.nil
 |n+1,x::xs,vs,r=>by
  simp only[aw] at r;obtain⟨v,t,rfl,r1,r2⟩:=r;exact aw.drop n r2
theorem aw.set      (q:RV ct μ L H y u):∀(n:Nat){xs:List MV}{vs:List V},aw ct μ L H xs vs->aw ct μ L H (xs.set n y) (vs.set n u)
 |_,[],_,r=>by simp only[aw] at r;subst r;exact aw.nil
 |0,x::xs,vs,r=>by
  simp only[aw] at r;obtain⟨v,t,rfl,r1,r2⟩:=r;exact aw.cons q r2
 |n+1,x::xs,vs,r=>by
  simp only[aw] at r;obtain⟨v,t,rfl,r1,r2⟩:=r;exact aw.cons r1 (aw.set q n r2)
theorem aw.Ax   :∀{xs:List FV}{vs:List V},fy ct L H xs vs->aw ct μ L H (xs.map MV.f) vs
 |[],_,r=>by simp only[fy] at r;subst r;exact aw.nil
 |x::xs,vs,r=>by
  simp only[fy] at r;obtain⟨v,t,rfl,r1,r2⟩:=r;exact aw.cons (by simp only[RV];exact r1) (aw.Ax r2)
theorem aw.toF   :∀{xs:List MV}{ys:List FV}{vs:List V},Zk xs=some ys->aw ct μ L H xs vs->fy ct L H ys vs
 |[],ys,vs,e,r=>by simp[Zk] at e;subst e;simp only[aw] at r;subst r;simp only[fy]
 |.f x::xs,ys,vs,e,r=>by
  simp only[Zk,Wd] at e;obtain⟨zs,e1,rfl⟩:=e;simp only[aw] at r;obtain⟨v,t,rfl,r1,r2⟩:=r;simp only[fy];exact⟨v,t,rfl,by simpa only[RV] using r1,aw.toF e1 r2⟩
 |.ref _::_,_,_,e,_=>by simp[Zk] at e
 |.tup _::_,_,_,e,_=>by simp[Zk] at e
 |.exc _::_,_,_,e,_=>by simp[Zk] at e
end
section
variable {ct:Tx}
structure aW (ct:Tx) (μ:List ae) (h:MH) (H:Hp) (σ:L2.St) (σs:aF):Prop where
 len:σ.length=σs.length
 at_:∀(i:Nat)(m:MV),σs[i]?=some (some m)->∃ v,σ[i]?=some (some v)/\RV ct μ (aZ μ h) H m v
theorem aW.ext      (e:Ext μ h H μ' h' H')(r:aW ct μ h H σ σs):aW ct μ' h' H' σ σs :=
 ⟨r.len,λi m q=>let ⟨v,a,b⟩:=r.at_ i m q;⟨v,a,b.ext e⟩⟩
theorem aW.set        (i)(r:aW ct μ h H σ σs)(q:RV ct μ (aZ μ h) H m v):aW ct μ h H (σ.set i (some v)) (σs.set i (some m)):=by
 refine⟨by simp[r.len],λj m' e=>?_⟩;by_cases hj:i=j
 ·subst hj;have hi:i<σs.length:=by
   have:=(xa.mp e).1;simpa using this
  rw[Xm hi] at e;cases e;exact⟨v,by rw[Xm (by rw[r.len];exact hi)],q⟩
 ·rw[Wl hj] at e;obtain⟨u,a,b⟩:=r.at_ j m' e;exact⟨u,by rw[Wl hj];exact a,b⟩
noncomputable def Po{α:Type}(ct:Tx)(E:XK)(r:R α)(μ:List ae)(h:MH)(H:Hp)(k:α->List ae->MH->Hp->Prop):Prop:=match r with
 |.ok x h'=>∀ μ' H',Ext μ h H μ' h' H'->Rel ct μ' h' H'->k x μ' h' H'
 |.exc c h'=>∀ μ' H',Ext μ h H μ' h' H'->Rel ct μ' h' H'->E (.ref (ct c)) none H'
 |.stuck=>False
section
variable {α β:Type} {E:XK} {μ μ1:List ae} {h h1:MH} {H H1:Hp}
theorem Po.start   (e:Ext μ h H μ1 h1 H1)(p:Po ct E r μ h H k):Po ct E r μ1 h1 H1 k:=by
 cases r with
 |ok x h'=>exactλμ' H' e' r'=>p μ' H' (e.trans e') r'
 |exc c h'=>exactλμ' H' e' r'=>p μ' H' (e.trans e') r'
 |stuck=>exact p
theorem Po.bind    (p:Po ct E (r.bind g) μ h H k):Po ct E r μ h H λx μ1 h1 H1=>Ext μ h H μ1 h1 H1/\Rel ct μ1 h1 H1/\Po ct E (g x h1) μ1 h1 H1 k:=by
 cases r with
 |ok x h'=>exactλμ' H' e' r'=>⟨e',r',Po.start (r:=g x h') e' p⟩
 |exc c h'=>exact p
 |stuck=>exact p
theorem Po.imp   (p:Po ct E r μ h H k)(f:∀ x μ1 h1 H1,k x μ1 h1 H1->k' x μ1 h1 H1):Po ct E r μ h H k':=by
 cases r with
 |ok x h'=>exactλμ' H' e' r'=>f _ _ _ _ (p μ' H' e' r')
 |exc c h'=>exact p
 |stuck=>exact p
theorem Po.opt    (p:Po ct E (opt o g) μ h H k):∃ x,o=some x/\Po ct E (g x) μ h H k:=by
 cases o with
 |none=>exact p.elim
 |some x=>exact⟨x,rfl,p⟩
theorem Po.now   (rel:Rel ct μ h H)(p:Po ct E (.ok x h) μ h H k):k x μ h H:=p μ H (Ext.refl _ _ _) rel
theorem Po.AG    (p:Po ct E (.ok x h') μ h H k)   (e:Ext μ h H μ' h' H')(rel:Rel ct μ' h' H'):k x μ' h' H':=p μ' H' e rel
end
noncomputable def kV(ct:Tx)(Q:VK):MV->List ae->MH->Hp->Prop:=λm μ h H=>∀ v,RV ct μ (aZ μ h) H m v->Q v H
noncomputable def kVs(ct:Tx)(Q:List V->Hp->Prop):List MV->List ae->MH->Hp->Prop:=λm μ h H=>∀ v,aw ct μ (aZ μ h) H m v->Q v H
section
variable (ct) (Ra:L2.St->Prop) (E:XK)
noncomputable def lE(ev:aF->MH->R MV):TE:=λσ H Q=>∃ μ h σs,Rel ct μ h H/\aW ct μ h H σ σs/\Ra σ/\Po ct E (ev σs h) μ h H (kV ct Q)
noncomputable def lT(ev:aF->MH->R Bool):TT:=λσ H Q=>∃ μ h σs,Rel ct μ h H/\aW ct μ h H σ σs/\Ra σ/\Po ct E (ev σs h) μ h H λb _ _ H'=>Q b H'
noncomputable def lA(ev:aF->MH->R (List MV)):TA:=λσ H Q=>∃ μ h σs,Rel ct μ h H/\aW ct μ h H σ σs/\Ra σ/\Po ct E (ev σs h) μ h H (kVs ct Q)
noncomputable def lO(ev:aF->MH->R (Option Int)):TO:=λσ H Q=>∃ μ h σs,Rel ct μ h H/\aW ct μ h H σ σs/\Ra σ/\Po ct E (ev σs h) μ h H λb _ _ H'=>Q b H'
end
section
variable {Ra:L2.St->Prop} {E:XK} {μ:List ae} {h:MH} {H:Hp} {σ:L2.St} {σs:aF} {β:Type}
theorem lE.mk     (rel:Rel ct μ h H)(aG:aW ct μ h H σ σs)(ra:Ra σ)(p:Po ct E ((ev σs h).bind g) μ h H k)
  (f:∀ m v μ1 h1 H1,Ext μ h H μ1 h1 H1->Rel ct μ1 h1 H1->aW ct μ1 h1 H1 σ σs->RV ct μ1 (aZ μ1 h1) H1 m v->Po ct E (g m h1) μ1 h1 H1 k->Q v H1):lE ct Ra E ev σ H Q :=
 ⟨μ,h,σs,rel,aG,ra,(Po.bind p).imp λm μ1 h1 H1 ⟨e1,r1,p1⟩ v rv=>f m v μ1 h1 H1 e1 r1 (aG.ext e1) rv p1⟩
theorem lT.mk     (rel:Rel ct μ h H)(aG:aW ct μ h H σ σs)(ra:Ra σ)(p:Po ct E ((ev σs h).bind g) μ h H k)
  (f:∀ m μ1 h1 H1,Ext μ h H μ1 h1 H1->Rel ct μ1 h1 H1->aW ct μ1 h1 H1 σ σs->Po ct E (g m h1) μ1 h1 H1 k->Q m H1):lT ct Ra E ev σ H Q :=
 ⟨μ,h,σs,rel,aG,ra,(Po.bind p).imp λm μ1 h1 H1 ⟨e1,r1,p1⟩=>f m μ1 h1 H1 e1 r1 (aG.ext e1) p1⟩
theorem lA.mk     (rel:Rel ct μ h H)(aG:aW ct μ h H σ σs)(ra:Ra σ)(p:Po ct E ((ev σs h).bind g) μ h H k)
  (f:∀ m v μ1 h1 H1,Ext μ h H μ1 h1 H1->Rel ct μ1 h1 H1->aW ct μ1 h1 H1 σ σs->aw ct μ1 (aZ μ1 h1) H1 m v->Po ct E (g m h1) μ1 h1 H1 k->Q v H1):lA ct Ra E ev σ H Q :=
 ⟨μ,h,σs,rel,aG,ra,(Po.bind p).imp λm μ1 h1 H1 ⟨e1,r1,p1⟩ v rv=>f m v μ1 h1 H1 e1 r1 (aG.ext e1) rv p1⟩
theorem lO.mk     (rel:Rel ct μ h H)(aG:aW ct μ h H σ σs)(ra:Ra σ)(p:Po ct E ((ev σs h).bind g) μ h H k)
  (f:∀ m μ1 h1 H1,Ext μ h H μ1 h1 H1->Rel ct μ1 h1 H1->aW ct μ1 h1 H1 σ σs->Po ct E (g m h1) μ1 h1 H1 k->Q m H1):lO ct Ra E ev σ H Q :=
 ⟨μ,h,σs,rel,aG,ra,(Po.bind p).imp λm μ1 h1 H1 ⟨e1,r1,p1⟩=>f m μ1 h1 H1 e1 r1 (aG.ext e1) p1⟩
end
section
variable {μ:List ae} {h:MH} {H:Hp}
theorem aZ.has(rel:Rel ct μ h H)  (l:aZ μ h b):∃ o,H b=some o:=let ⟨i,_,e,_,_⟩:=l;rel.has b (ue e)
theorem Rel.fresh(rel:Rel ct μ h H)  (hp:H p=none):p∉μ:=λz=>by obtain⟨o,e⟩:=rel.has p z;rw[hp] at e;cases e
theorem Ext.new(rel:Rel ct μ h H)  (hp:H p=none)(o):Ext μ h H μ h (upd H p o) :=
 ⟨⟨[],by simp⟩,λb u e _=>by rw[qc (yf e hp)];exact e,λb l=>.inl l⟩
theorem bL.to      (l:Let L H L' H')(kb:c≠.dead->H' b=H b)(r:bL ct μ L H b c):bL ct (μ++ν) L' H' b c:=by
 cases c with
 |lst xs =>
  obtain⟨vs,e,q⟩:=r;exact⟨vs,by rw[kb (λz=>nomatch z)];exact e,aw.to l q⟩
 |obj c fs =>
  obtain⟨dx,gs,e,q1,q⟩:=r;exact⟨dx,gs,by rw[kb (λz=>nomatch z)];exact e,q1,aw.to l q⟩
 |fI ks=>exact(kb (λz=>nomatch z)).trans r
 |tab ks=>exact(kb (λz=>nomatch z)).trans r
 |cY ks=>exact(kb (λz=>nomatch z)).trans r
 |code =>
  obtain⟨e,r⟩:=r;have kb:=kb (λz=>nomatch z);refine⟨e,r.elim (λr=>.inl (kb.trans r)) λ⟨c',n1,n2,r1,r2⟩=>.inr ⟨c',n1,l.lC _ _ r2 n2,kb.trans r1,l.keep _ _ r2 n2⟩⟩
 |dead=>trivial
theorem Rel.new(rel:Rel ct μ h H)  (hp:H p=none)(o):Rel ct μ h (upd H p o):=by
 refine⟨rel.len,rel.nd,λb hb=>?_,λi b c e1 e2=>?_⟩
 ·obtain⟨u,e⟩:=rel.has b hb;exact⟨u,by rw[qc (yf e hp)];exact e⟩
 ·have:=bL.to (ν:=[]) (Ext.new rel hp o).let (b:=b) (λ_=>by
   obtain⟨u,e⟩:=rel.has b (ue e1);exact qc (yf e hp)) (rel.cells i b c e1 e2)
  simpa using this
theorem aZ.app   (hl:μ.length=h.length)   (l:aZ (μ++[p]) (h++[c]) b):aZ μ h b\/b=p:=by
 obtain⟨i,d,e1,e2,nd⟩:=l;by_cases hi:i<μ.length
 ·rw[Xb hi] at e1;rw[Xb (by lia)] at e2;exact .inl ⟨i,d,e1,e2,nd⟩
 ·rw[We (by lia)] at e1;have:i-μ.length=0:=by
   have:=(xa.mp e1).1;simp at this;lia
  rw[this] at e1;simp at e1;exact .inr e1.symm
theorem Ext.cell(rel:Rel ct μ h H)  (hp:H p=none)(c)(o):Ext μ h H (μ++[p]) (h++[c]) (upd H p o) :=
 ⟨⟨[p],rfl⟩,λb u e _=>by rw[qc (yf e hp)];exact e,λb l=>(aZ.app rel.len l).imp id λe=>by rw[e];exact hp⟩
theorem Rel.cell(rel:Rel ct μ h H)  (hp:H p=none)   (q:bL ct (μ++[p]) (aZ (μ++[p]) (h++[c])) (upd H p o) p c):Rel ct (μ++[p]) (h++[c]) (upd H p o):=by
 have hn:=rel.fresh hp;refine⟨by simp[rel.len],?_,λb hb=>?_,λi b d e1 e2=>?_⟩
 ·rw[Vl];exact⟨rel.nd,by simp,λa ha b hb e=>by simp at hb;subst hb;subst e;exact hn ha⟩
 ·rcases Xf.mp hb with hb|hb
  ·obtain⟨u,e⟩:=rel.has b hb;exact⟨u,by rw[qc (yf e hp)];exact e⟩
  ·simp at hb;subst hb;exact⟨o,qd⟩
 ·by_cases hi:i<μ.length
  ·rw[Xb hi] at e1;rw[Xb (by have:=rel.len;lia)] at e2;exact bL.to (Ext.cell rel hp c o).let (λ_=>by
    obtain⟨u,e⟩:=rel.has b (ue e1);exact qc (yf e hp)) (rel.cells i b d e1 e2)
  ·rw[We (by lia)] at e1;rw[We (by have:=rel.len;lia)] at e2;have:i-μ.length=0:=by
    have:=(xa.mp e1).1;simp at this;lia
   have h2:i-h.length=0:=by rw[<- rel.len];exact this
   rw[this] at e1;rw[h2] at e2;simp at e1 e2;subst e1;subst e2;exact q
theorem aZ.set    (e:h[i]?=some c)(hc:c≠.dead)(l:aZ μ (h.set i c') b):aZ μ h b:=by
 obtain⟨j,d,e1,e2,nd⟩:=l;by_cases hj:i=j
 ·subst hj;exact⟨i,c,e1,e,hc⟩
 ·rw[Wl hj] at e2;exact⟨j,d,e1,e2,nd⟩
theorem Ext.set(rel:Rel ct μ h H)    (e1:μ[i]?=some b)(e2:h[i]?=some c)(hc:c≠.dead)(c')(o):Ext μ h H μ (h.set i c') (upd H b o) :=
 ⟨⟨[],by simp⟩,λd u e n=>by rw[qc (λ(z:d=b)=>n (by rw[z];exact⟨i,c,e1,e2,hc⟩))];exact e,λd l=>.inl (aZ.set e2 hc l)⟩
theorem Rel.set(rel:Rel ct μ h H)    (e1:μ[i]?=some b)(e2:h[i]?=some c)(hc:c≠.dead)   (q:bL ct μ (aZ μ (h.set i c')) (upd H b o) b c'):Rel ct μ (h.set i c') (upd H b o):=by
 refine⟨by simp[rel.len],rel.nd,λd hd=>?_,λj d u q1 q2=>?_⟩
 ·by_cases lZ:d=b
  ·exact⟨o,by rw[lZ];exact qd⟩
  ·obtain⟨u,e⟩:=rel.has d hd;exact⟨u,by rw[qc lZ];exact e⟩
 ·by_cases hj:i=j
  ·subst hj;rw[e1] at q1;cases q1;rw[Xm (xa.mp e2).1] at q2;cases q2;exact q
  ·rw[Wl hj] at q2;have ne:d≠b:=λz=>by
    subst z;exact hj ((wB (xa.mp e1).1 rel.nd).mp (e1.trans q1.symm))
   have:=bL.to (ν:=[]) (Ext.set rel e1 e2 hc c' o).let (b:=d) (λ_=>qc ne) (rel.cells j d u q1 q2);simpa using this
end
end
section
variable {ct:Tx}
section
variable {μ:List ae} {h:MH} {H:Hp}
theorem Ff    (e:(kill as h)[i]?=some c):(i∈as/\c=.dead)\/(i∉as/\h[i]?=some c):=by
 unfold kill at e;rw[Wj] at e;cases q:h[i]? with
 |none=>rw[q] at e;cases e
 |some d =>
  rw[q] at e;by_cases hi:i∈as
  ·simp[hi] at e;exact .inl ⟨hi,e.symm⟩
  ·simp[hi] at e;subst e;exact .inr ⟨hi,rfl⟩
theorem aZ.kill   (l:aZ μ (kill as h) b):aZ μ h b:=by
 obtain⟨i,c,e1,e2,nd⟩:=l
 rcases Ff e2 with ⟨_,z⟩|⟨_,z⟩
 ·exact absurd z nd
 ·exact⟨i,c,e1,z,nd⟩
theorem Ext.kill(as):Ext μ h H μ (kill as h) H:=⟨⟨[],by simp⟩,λ_ _ e _=>e,λb l=>.inl l.kill⟩
theorem Rel.kill(rel:Rel ct μ h H)(as):Rel ct μ (kill as h) H:=by
 refine⟨by rw[rel.len];simp[MP.kill],rel.nd,rel.has,λi b c e1 e2=>?_⟩
 rcases Ff e2 with ⟨_,z⟩|⟨_,z⟩
 ·subst z;trivial
 ·have:=bL.to (ν:=[]) (Ext.kill (H:=H) as).let (b:=b) (λ_=>rfl) (rel.cells i b c e1 z);simpa using this
theorem yN   (e:Qc h i=some xs):h[i]?=some (.lst xs):=by
 unfold Qc at e;split at e
 next q=>cases e;exact q
 next=>cases e
theorem Rel.lst(rel:Rel ct μ h H)   (e:Qc h i=some xs):∃ b vs,μ[i]?=some b/\H b=some (.lst vs)/\aw ct μ (aZ μ h) H xs vs:=by
 have e2:=yN e;have hi:i<μ.length:=by rw[rel.len];exact(xa.mp e2).1
 obtain⟨vs,q1,q2⟩:=rel.cells i μ[i] (.lst xs) (by simp[hi]) e2;exact⟨_,vs,by simp[hi],q1,q2⟩
theorem Ycf  (rel:Rel ct μ h H)   (e:μ[i]?=some b)(hi:i∈as):¬ aZ μ (MP.kill as h) b:=λ⟨j,c,e1,e2,nd⟩=>by
 have:i=j:=(wB (xa.mp e).1 rel.nd).mp (e.trans e1.symm);subst this
 rcases Ff e2 with ⟨_,z⟩|⟨z,_⟩
 ·exact nd z
 ·exact z hi
theorem GB  :∀{xs:List MV}{ys:List FV}{vs:List V},xs.mapM g=some ys->aw ct μ (aZ μ h) H xs vs ->
  (∀ x∈xs,∀ y v,g x=some y->RV ct μ (aZ μ h) H x v->RF ct (aZ μ (MP.kill as h)) H y v)->fy ct (aZ μ (MP.kill as h)) H ys vs
 |[],ys,vs,e,r,_=>by
  simp at e;subst e;simp only[aw] at r;subst r;simp only[fy]
 |x::xs,ys,vs,e,r,f=>by
  simp only[Xq,Xu,ub,Gb,gb.injEq] at e;obtain⟨y,e1,zs,e2,rfl⟩:=e;simp only[aw] at r;obtain⟨v,t,rfl,r1,r2⟩:=r;simp only[fy];exact⟨v,t,rfl,f x (by simp) y v e1 r1,GB e2 r2 λz hz=>f z (by simp[hz])⟩
theorem Fd(rel:Rel ct μ h H) :∀(n:Nat)(m:MV)(x:FV)(v:V),(∀ a∈Zr h n m,a∈as)->qp h n m=some x->RV ct μ (aZ μ h) H m v->RF ct (aZ μ (MP.kill as h)) H x v
 |0,m,x,v,_,e,_=>by simp[qp] at e
 |n+1,.f y,x,v,_,e,r=>by
  simp[qp] at e;subst e;simp only[RV] at r;exact RF.to (Ext.kill (H:=H) as).let r
 |n+1,.tup xs,x,v,hs,e,r=>by
  simp only[qp,Wd] at e;obtain⟨ys,e1,rfl⟩:=e;simp only[RV] at r;obtain⟨a,vs,rfl,na,rd,q⟩:=r;simp only[RF];refine⟨a,vs,rfl,λl=>na l.kill,rd,GB e1 q λz hz y u ez ru=>Fd rel n z y u (λa ha=>hs a ?_) ez ru⟩;simp only[Zr,vq];exact⟨z,hz,ha⟩
 |n+1,.ref i,x,v,hs,e,r=>by
  simp only[qp,ub,Wd] at e;obtain⟨xs,e0,ys,e1,rfl⟩:=e;simp only[RV] at r;obtain⟨b,eb,rfl⟩:=r;obtain⟨b',vs,i8,hb,q⟩:=rel.lst e0;rw[eb] at i8;cases i8;simp only[RF];refine⟨b,vs,rfl,Ycf rel eb (hs i (by simp[Zr])),.inl hb,GB e1 q λz hz y u ez ru=>Fd rel n z y u (λa ha=>hs a ?_) ez ru⟩;simp only[Zr,e0,Uq,Xa,vq];exact .inr ⟨z,hz,ha⟩
 |n+1,.exc _,x,v,_,e,_=>by simp[qp] at e
theorem K4     (rel:Rel ct μ h H)(r:RV ct μ (aZ μ h) H m v)(p:Po ct E (ZJ m h) μ h H k) :
  ∃ x h',Ext μ h H μ h' H/\Rel ct μ h' H/\RV ct μ (aZ μ h') H (.f x) v/\k (.f x) μ h' H:=by
 unfold ZJ at p;obtain⟨x,e,p⟩:=p.opt;refine⟨x,_,Ext.kill _,rel.kill _,?_,p.AG (Ext.kill _) (rel.kill _)⟩;simp only[RV];exact Fd rel 5 m x v (λa ha=>ha) e r
end
mutual
noncomputable def nS(n:Nat):MV->Prop
 |.ref i=>i<n
 |.tup xs=>fW n xs
 |_=>True
noncomputable def fW(n:Nat):List MV->Prop
 |[]=>True
 |x::xs=>nS n x/\fW n xs
end
mutual
theorem RV.nL   :∀{m:MV}{v:V},RV ct μ L H m v->nS μ.length m
 |.f _,_,_=>by simp only[nS]
 |.ref i,v,r=>by
  simp only[RV] at r;obtain⟨b,e,_⟩:=r;simp only[nS];exact(xa.mp e).1
 |.tup xs,v,r=>by
  simp only[RV] at r;obtain⟨a,vs,_,_,_,q⟩:=r;simp only[nS];exact aw.nL q
 |.exc _,_,_=>by simp only[nS]
theorem aw.nL   :∀{xs:List MV}{vs:List V},aw ct μ L H xs vs->fW μ.length xs
 |[],_,_=>by simp only[fW]
 |x::xs,vs,r=>by
  simp only[aw] at r;obtain⟨v,t,_,r1,r2⟩:=r;simp only[fW];exact⟨RV.nL r1,aw.nL r2⟩
end
mutual
theorem RV.cut    (l:∀ b,L' b->L b):∀{m:MV}{v:V},nS μ.length m->RV ct (μ++ν) L H m v->RV ct μ L' H m v
 |.f x,v,_,r=>by simp only[RV] at r ⊢;exact RF.to ⟨λ_ _ e _=>e,λb _ _ n z=>n (l b z)⟩ r
 |.ref i,v,b,r=>by
  simp only[RV] at r ⊢;simp only[nS] at b;obtain⟨c,e,q⟩:=r;rw[Xb b] at e;exact⟨c,e,q⟩
 |.tup xs,v,b,r=>by
  simp only[RV] at r ⊢;simp only[nS] at b;obtain⟨a,vs,e,n,rd,q⟩:=r;exact⟨a,vs,e,λz=>n (l a z),rd,aw.cut l b q⟩
 |.exc _,v,_,r=>by
  simp only[RV] at r ⊢;obtain⟨a,e,n,q⟩:=r;exact⟨a,e,λz=>n (l a z),q⟩
theorem aw.cut    (l:∀ b,L' b->L b):∀{xs:List MV}{vs:List V},fW μ.length xs->aw ct (μ++ν) L H xs vs->aw ct μ L' H xs vs
 |[],vs,_,r=>by simpa only[aw] using r
 |x::xs,vs,b,r=>by
  simp only[aw] at r ⊢;simp only[fW] at b;obtain⟨v,t,e,r1,r2⟩:=r;exact⟨v,t,e,RV.cut l b.1 r1,aw.cut l b.2 r2⟩
end
theorem fW.flat(n):∀ ys:List FV,fW n (ys.map MV.f)
 |[]=>by simp only[Ui,fW]
 |y::ys=>by simp only[xb,fW,nS];exact⟨trivial,fW.flat n ys⟩
noncomputable def JN(n:Nat):Cell->Prop
 |.lst xs=>fW n xs
 |.obj _ fs=>fW n (fs.map wo)
 |.fI _=>True
 |.tab _=>True
 |.cY _=>True
 |.code=>True
 |.dead=>True
theorem bL.nL      (r:bL ct μ L H b c):JN μ.length c:=by
 cases c with
 |lst xs=>obtain⟨vs,_,q⟩:=r;exact q.nL
 |obj c fs=>obtain⟨dx,gs,_,_,q⟩:=r;exact q.nL
 |fI ks=>trivial
 |tab ks=>trivial
 |cY ks=>trivial
 |code=>trivial
 |dead=>trivial
theorem jR.nL   (r:jR c):JN n c:=by
 cases c with
 |lst xs=>obtain⟨ys,rfl⟩:=r;exact fW.flat n ys
 |obj c fs =>
  obtain⟨ys,rfl⟩:=r;show fW n _;rw[Ue];have:=fW.flat n (ys.map wo);rw[Ue] at this;exact this
 |fI ks=>trivial
 |tab ks=>trivial
 |cY ks=>trivial
 |code=>trivial
 |dead=>trivial
theorem bL.cut      (l:∀ b,L' b->L b)(k:JN μ.length c)(r:bL ct (μ++ν) L H b c):bL ct μ L' H b c:=by
 cases c with
 |lst xs=>obtain⟨vs,e,q⟩:=r;exact⟨vs,e,aw.cut l k q⟩
 |obj c fs=>obtain⟨dx,gs,e,q1,q⟩:=r;exact⟨dx,gs,e,q1,aw.cut l k q⟩
 |fI ks=>exact r
 |tab ks=>exact r
 |cY ks=>exact r
 |code=>exact⟨r.1,r.2.imp id λ⟨c',n1,n2,r⟩=>⟨c',n1,λz=>n2 (l _ z),r⟩⟩
 |dead=>trivial
theorem MM:∀{xs:List MV}{ys:List FV},Zk xs=some ys->xs=ys.map MV.f
 |[],ys,e=>by simp[Zk] at e;subst e;rfl
 |.f x::xs,ys,e=>by
  simp only[Zk,Wd] at e;obtain⟨zs,e1,rfl⟩:=e;rw[MM e1];rfl
 |.ref _::_,_,e=>by simp[Zk] at e
 |.tup _::_,_,e=>by simp[Zk] at e
 |.exc _::_,_,e=>by simp[Zk] at e
section
variable {μ ν:List ae} {h h':MH} {H H':Hp}
theorem aZ.cut(hl:μ.length=h.length)  (l:aZ μ (h'.take h.length) b):aZ (μ++ν) h' b:=by
 obtain⟨i,c,e1,e2,nd⟩:=l;have hi:i<μ.length:=(xa.mp e1).1;rw[uk (by lia)] at e2;exact⟨i,c,by rw[Xb hi];exact e1,e2,nd⟩
theorem Ext.cut(hl:μ.length=h.length)(e:Ext μ h H (μ++ν) h' H'):Ext μ h H μ (h'.take h.length) H':=⟨⟨[],by simp⟩,e.keep,λb l=>e.lC b (aZ.cut hl l)⟩
theorem Rel.cut(rel:Rel ct μ h H)(t:bK h h')(bp:Rel ct (μ++ν) h' H'):Rel ct μ (h'.take h.length) H':=by
 refine⟨by rw[rel.len,Vm];have:=t.1;lia,(Vl.mp bp.nd).1,λb hb=>bp.has b (wj _ hb),λi b c e1 e2=>?_⟩;have hi:i<μ.length:=(xa.mp e1).1;have lY:i<h.length:=by rw[<- rel.len];exact hi
 rw[uk lY] at e2;refine bL.cut (λb l=>aZ.cut rel.len l) ?_ (bp.cells i b c (by rw[Xb hi];exact e1) e2)
 rcases t.2 i c lY e2 with q|q
 ·exact(rel.cells i b c e1 q).nL
 ·exact jR.nL q
set_option tactic.hygienic true in
theorem Oe     (rel:Rel ct μ h H)(e:Ext μ h H (μ++ν) h' H')(bp:Rel ct (μ++ν) h' H')(r:RV ct (μ++ν) (aZ (μ++ν) h') H' m v)(p:Po ct E (qg h m h') μ h H (kV ct Q)):Q v H':=by
 unfold qg at p;split at p
 next t =>
  cases m with
  |f x =>
   refine p μ H' (Ext.cut rel.len e) (rel.cut t bp) v ?_;exact RV.cut (λb l=>aZ.cut rel.len l) (by simp only[nS]) r
  |ref a =>
   dsimp only at p;split at p
   next ha =>
    split at p
    next xs ex =>
     split at p
     next ys ey =>
      simp only[RV] at r;obtain⟨b,eb,rfl⟩:=r;obtain⟨b',vs,i8,hb,q⟩:=bp.lst ex;rw[eb] at i8;cases i8;have rc:=rel.cut t bp;have ec:=Ext.cut rel.len e;have nb:b∉μ:=λz=>by
       obtain⟨j,hj,ej⟩:=xu z;have:j=a:=(wB (by simp;lia) bp.nd).mp (by rw[Xb hj,eb];simp[hj,ej]);have:=rel.len
       lia
      have lv:∀ d,aZ (μ++[b]) (h'.take h.length++[.lst xs]) d->aZ (μ++ν) h' d:=λd l=>by
       rcases aZ.app (by rw[rc.len]) l with l|l
       ·exact aZ.cut rel.len l
       ·subst l;exact⟨a,.lst xs,eb,yN ex,λz=>nomatch z⟩
      have fl:fy ct (aZ (μ++ν) h') H' ys vs:=aw.toF ey q;have L7:xs=ys.map MV.f:=MM ey;refine p (μ++[b]) H' ⟨⟨[b],rfl⟩,e.keep,λd l=>e.lC d (lv d l)⟩ ?_ (.ref b) ?_
      ·refine⟨by simp[rc.len],?_,λd hd=>?_,λi d c e1 e2=>?_⟩
       ·rw[Vl];exact⟨rc.nd,by simp,λx hx y hy z=>by simp at hy;subst hy;subst z;exact nb hx⟩
       ·rcases Xf.mp hd with hd|hd
        ·exact rc.has d hd
        ·simp at hd;subst hd;exact⟨_,hb⟩
       ·by_cases hi:i<μ.length
        ·rw[Xb hi] at e1;rw[Xb (by rw[<- rc.len];exact hi)] at e2;have c0:=rc.cells i d c e1 e2;have lY:i<h.length:=by rw[<- rel.len];exact hi
         have sJ:=e2;rw[uk lY] at sJ;have c1:=bp.cells i d c (by rw[Xb hi];exact e1) sJ;exact bL.to (ν:=[b]) (L:=aZ (μ++[b]) (h'.take h.length++[.lst xs])) ⟨λ_ _ e _=>e,λ_ _ _ n=>n⟩ (λ_=>rfl) (bL.cut lv c0.nL c1)
        ·rw[We (by lia)] at e1;rw[We (by rw[<- rc.len];lia)] at e2;have z:i-μ.length=0:=by
          have:=(xa.mp e1).1;simp at this;lia
         have z2:i-(h'.take h.length).length=0:=by rw[<- rc.len];exact z
         rw[z] at e1;rw[z2] at e2;simp at e1 e2;subst e1;subst e2;refine⟨vs,hb,?_⟩;rw[L7];rw[L7] at lv;exact aw.Ax (fy.to ⟨λ_ _ e _=>e,λd _ _ n l=>n (lv d l)⟩ fl)
      ·simp only[RV];exact⟨b,by rw[<- rel.len];simp,rfl⟩
     next=>exact p (μ++ν) H' e bp v r
    next=>exact p (μ++ν) H' e bp v r
   next=>exact p (μ++ν) H' e bp v r
  |tup xs=>exact p (μ++ν) H' e bp v r
  |exc c=>exact p (μ++ν) H' e bp v r
 next=>exact p (μ++ν) H' e bp v r
theorem QbK    (rel:Rel ct μ h H)(e:Ext μ h H (μ++ν) h' H')(bp:Rel ct (μ++ν) h' H')(p:Po ct E (QS h c h') μ h H k):E (.ref (ct c)) none H':=by
 unfold QS at p;split at p
 next t=>exact p μ H' (Ext.cut rel.len e) (rel.cut t bp)
 next=>exact p (μ++ν) H' e bp
end
end
section
variable {ct:Tx} {X:Cx} {E:XK}
section
variable {μ:List ae} {h:MH} {L:ae->Prop} {H:Hp} {m:MV} {v:V}
theorem zf  (e:yc m=some i):m=.f (.int i):=by
 unfold yc at e;split at e
 next=>cases e;rfl
 next=>cases e
theorem Em  (e:yG m=some i):m=.f (.bl i):=by
 unfold yG at e;split at e
 next=>cases e;rfl
 next=>cases e
theorem Zj  (r:RV ct μ L H (.f (.int i)) v):v=.int i:=by simpa only[RV,RF] using r
theorem tL  (r:RV ct μ L H (.f (.bl i)) v):v=.bl i:=by simpa only[RV,RF] using r
theorem yq(i):RV ct μ L H (.f (.int i)) (.int i):=by simp only[RV,RF]
theorem YE(i):RV ct μ L H (.f (.bl i)) (.bl i):=by simp only[RV,RF]
theorem OQ(i):RV ct μ L H (.f (.str i)) (.str i):=by simp only[RV,RF]
theorem CU:RV ct μ L H (.f .bG) .bG:=by simp only[RV,RF]
set_option tactic.hygienic true in
theorem zu  (rel:Rel ct μ h H)(e:MP.listOf h m=some xs)(r:RV ct μ (aZ μ h) H m v):∃ a vs,v=.ref a/\Rd H a (.lst vs)/\aw ct μ (aZ μ h) H xs vs:=by
 unfold MP.listOf at e;split at e
 next ys =>
  cases e;simp only[RV,RF] at r;obtain⟨a,vs,e1,_,rd,q⟩:=r;exact⟨a,vs,e1,rd,aw.Ax q⟩
 next i =>
  obtain⟨b,vs,e1,e2,q⟩:=rel.lst e;simp only[RV] at r;obtain⟨b',e3,rfl⟩:=r;rw[e1] at e3;cases e3;exact⟨b,vs,rfl,.inl e2,q⟩
 next=>cases e
set_option tactic.hygienic true in
theorem yy  (e:zk m=some xs)(r:RV ct μ L H m v):∃ a vs,v=.ref a/\¬ L a/\H a=some (.tup vs)/\aw ct μ L H xs vs:=by
 unfold zk at e;split at e
 next ys =>
  cases e;simp only[RV,RF] at r;obtain⟨a,vs,e1,n,rd,q⟩:=r;exact⟨a,vs,e1,n,rd,aw.Ax q⟩
 next ys =>
  cases e;simp only[RV] at r;exact r
 next=>cases e
set_option tactic.hygienic true in
theorem Qz  (e:qb h m=some xs):zk m=some xs\/MP.listOf h m=some xs\/∃ ns,m=.f (.bP ns)/\xs=ns.map λi=>MV.f (.int i):=by
 unfold qb at e;split at e
 next=>exact .inl e
 next=>exact .inr (.inl e)
 next ns=>cases e;exact .inr (.inr ⟨ns,rfl,rfl⟩)
 next=>exact .inl e
 next=>exact .inr (.inl e)
 next=>cases e
noncomputable def uV(ct:Tx)(H:Hp)(b:Bool)(a:ae)(vs:List V):Prop:=fS ct.K H b a vs
theorem uV.s{K:Jc}{b:Bool}{a:ae}{vs:List V}(hK:K=ct.K)(q:uV ct H b a vs):fS K H b a vs:=by rw[hK];exact q
theorem QU :∀ ns:List Int,aw ct μ L H (ns.map λi=>MV.f (.int i)) (ns.map V.int)
 |[]=>by simp only[Ui,aw]
 |i::ns=>by
  simp only[xb,aw];exact⟨.int i,_,rfl,yq i,QU ns⟩
theorem C1    (q:(¬ L a/\∃ o,H a=some (.eQ o (.lst (ns.map V.int))))\/Cq ct.K a ns):fK ct.K H a (ns.map V.int):=q.elim (λ⟨_,o,e⟩=>.inl (.inr ⟨o,e⟩)) .inr
theorem Yz  (rel:Rel ct μ h H)(e:qb h m=some xs)(r:RV ct μ (aZ μ h) H m v):∃ b a vs,v=.ref a/\uV ct H b a vs/\aw ct μ (aZ μ h) H xs vs:=by
 rcases Qz e with e|e|⟨ns,rfl,rfl⟩
 ·obtain⟨a,vs,q1,_,q2,q3⟩:=yy e r;exact⟨true,a,vs,q1,gA.of q2,q3⟩
 ·obtain⟨a,vs,q1,q2,q3⟩:=zu rel e r;exact⟨false,a,vs,q1,.inl q2,q3⟩
 ·simp only[RV,RF] at r;obtain⟨a,rfl,q⟩:=r;exact⟨false,a,_,rfl,C1 q,QU ns⟩
theorem zX(rel:Rel ct μ h H)  (hp:H p=none):¬ aZ μ h p:=λl=>by obtain⟨o,e⟩:=aZ.has rel l;rw[hp] at e;cases e
theorem ZC     (rel:Rel ct μ h H)(r:aw ct μ (aZ μ h) H xs vs)(p:Po ct E (Qr fz xs h) μ h H (kV ct Q)):∀ a,H a=none->Q (.ref a) (upd H a (.lst vs)):=by
 intro a ha;cases fz with
 |true =>
  obtain⟨ys,e,p⟩:=Po.opt (o:=Zk xs) (g:=λys=>R.ok (MV.f (.lst ys)) h) p;refine p μ _ (Ext.new rel ha _) (rel.new ha _) _ ?_;simp only[RV,RF];exact⟨a,vs,rfl,zX rel ha,.inl qd,fy.to (Ext.new rel ha _).let (aw.toF e r)⟩
 |false =>
  refine p (μ++[a]) _ (Ext.cell rel ha _ _) (rel.cell ha ?_) _ ?_
  ·exact⟨vs,qd,aw.to (Ext.cell rel ha _ _).let r⟩
  ·simp only[RV];exact⟨a,by rw[<- rel.len];simp,rfl⟩
set_option tactic.hygienic true in
theorem qE    (n:¬ L a)(rd:H a=some (.tup vs))(r:aw ct μ L H xs vs):RV ct μ L H (yg xs) (.ref a):=by
 unfold yg;split
 next ys e =>
  simp only[RV,RF];exact⟨a,vs,rfl,n,rd,aw.toF e r⟩
 next =>
  simp only[RV];exact⟨a,vs,rfl,n,rd,r⟩
theorem u6    (rel:Rel ct μ h H)(r:aw ct μ (aZ μ h) H xs vs)(p:Po ct E (.ok (yg xs) h) μ h H (kV ct Q)):∀ a,H a=none->Q (.ref a) (upd H a (.tup vs)):=by
 intro a ha;refine p μ _ (Ext.new rel ha _) (rel.new ha _) _ (qE (zX rel ha) qd ?_);have:=aw.to (ν:=[]) (Ext.new rel ha (.tup vs)).let r;simpa using this
end
noncomputable def r2(ct:Tx)(E:XK)(g:MV->MV->MH->R MV):R2:=λx y H Q=>∃ μ h mx my,Rel ct μ h H/\RV ct μ (aZ μ h) H mx x/\RV ct μ (aZ μ h) H my y/\Po ct E (g mx my h) μ h H (kV ct Q)
theorem PL  (h:i.natAbs<MP.big):Builtin.Int.intBits i<=2^20:=by
 refine intBits_le_iff.mpr (Xd h ?_);exact ul (by decide) (by decide)
theorem qcs:cD X (aV .Mult) (rI zB λi j=>.int (i*j)):=Aw λi j _ _ _ _ _ hc q=>by
 refine mul_int q ?_
 rcases hc with c|c|⟨c,d⟩
 ·exact .of_left (ku (by lia) (by lia))
 ·exact .of_right (ku (by lia) (by lia))
 ·exact .of_bits (PL c) (PL d)
theorem Yb6:cD X (aV .FloorDiv) (rI JS λi j=>.int (i/j)):=Aw λi j _ _ _ _ _ hc q=>by
 have h1:(0:Int)<j:=hc.1;refine floordiv_int (by lia) (by rw[XA i (by lia)];exact q) (.inl (PyProof.noPylong_of_log2 ?_));have:j.natAbs≠0:=by lia
 rcases hc.2 with c|c
 ·have:j.natAbs.log2<30:=(Nat.log2_lt (by lia)).mpr (by lia)
  lia
 ·have:j.natAbs.log2<4096:=(Nat.log2_lt (by lia)).mpr c
  lia
noncomputable def xV:R2:=λx y H Q=>∃ l b xs zs,x=.ref l/\y=.ref b/\Rd H l (.lst xs)/\Rd H b (.lst zs)/\xs.length+zs.length<=sizeLine/\∀ p,H p=none->Q (.ref p) (upd H p (.lst (xs++zs)))
theorem zcA:cD X (aV .Add) xV:=by
 intro pins s σ H x y v u Q I rx ry h;obtain⟨l,b,xs,zs,rfl,rfl,hH,hB,hz,q⟩:=h;cases rx;cases ry;obtain⟨z,av,n,r,e⟩:=hH.ok I.aL;obtain⟨z2,ia,n2,r2,e2⟩:=hB.ok I.aL;have hl:=r.length;have HC:=r2.length;refine PySem.P.add_list e e2 ?_ (by rw[wc,wc];lia);have ea:av.toArray++ia.toArray=(av++ia).toArray:=by simp
 rw[ea];exact⟨.ref _,_,I.AQ (t':=s.toks) (r.append r2) (by rw[Xg];lia),rfl,q _ I.fresh⟩
end
theorem YJ:MP.aC<=sizeLine:=by decide
section
variable {ct:Tx} {X:Cx} {E:XK}
noncomputable def Dt:BO->Operator
 |.add=>.Add | .sub=>.Sub | .mul=>.Mult | .fdiv=>.FloorDiv | .mod=>.Mod | .pow=>.Pow
theorem cD.imp   (o:cD X f r)(k:∀ x y H Q,r' x y H Q->r x y H Q):cD X f r':=λpins s σ H x y v u Q I rx ry q=>o pins s σ H x y v u Q I rx ry (k _ _ _ _ q)
theorem cD.tR   (o:cD X f r)(o':cD X f r'):cD X f λx y H Q=>r x y H Q\/r' x y H Q:=λpins s σ H x y v u Q I rx ry q=>q.elim (o pins s σ H x y v u Q I rx ry) (o' pins s σ H x y v u Q I rx ry)
theorem ZX      (q:r2 ct E (ye fz op) x y H Q):(∃ i j k,x=.int i/\y=.int j/\qI op i j=some k/\Q (.int k) H) \/
  ∃ μ h mx my,yc mx=none/\Rel ct μ h H/\RV ct μ (aZ μ h) H mx x/\RV ct μ (aZ μ h) H my y/\Po ct E (ye fz op mx my h) μ h H (kV ct Q):=by
 obtain⟨μ,h,mx,my,rel,rx,ry,p⟩:=q;cases ex:yc mx with
 |none=>exact .inr ⟨μ,h,mx,my,ex,rel,rx,ry,p⟩
 |some i =>
  have:=zf ex;subst this;cases ey:yc my with
  |none =>
   unfold ye at p;rw[ex,ey] at p;exact p.elim
  |some j =>
   have:=zf ey;subst this;unfold ye at p;rw[ex,ey] at p;obtain⟨k,e,p⟩:=Po.opt p;refine .inl ⟨i,j,k,Zj rx,Zj ry,e,?_⟩;exact p.now rel _ (yq k)
theorem ZcZ(fz):cD X (aV .Sub) (r2 ct E (ye fz .sub)):=cD.imp YcW λx y H Q q=>by
 rcases ZX q with ⟨i,j,k,e1,e2,e3,q⟩|⟨μ,h,mx,my,ex,rel,rx,ry,p⟩
 ·cases e3;exact⟨i,j,e1,e2,q⟩
 ·exfalso;unfold ye at p;rw[ex] at p;cases ey:yc my <;> rw[ey] at p <;> exact p.elim
theorem zcE(fz):cD X (aV .FloorDiv) (r2 ct E (ye fz .fdiv)):=cD.imp Yb6 λx y H Q q=>by
 rcases ZX q with ⟨i,j,k,e1,e2,e3,q⟩|⟨μ,h,mx,my,ex,rel,rx,ry,p⟩
 ·simp only[qI] at e3;split at e3
  next c=>cases e3;exact⟨i,j,e1,e2,c,q⟩
  next=>cases e3
 ·exfalso;unfold ye at p;rw[ex] at p;cases ey:yc my <;> rw[ey] at p <;> exact p.elim
theorem ycZ(fz):cD X (aV .Mod) (r2 ct E (ye fz .mod)):=cD.imp qcV λx y H Q q=>by
 rcases ZX q with ⟨i,j,k,e1,e2,e3,q⟩|⟨μ,h,mx,my,ex,rel,rx,ry,p⟩
 ·simp only[qI] at e3;split at e3
  next c=>cases e3;exact⟨i,j,e1,e2,c,q⟩
  next=>cases e3
 ·exfalso;unfold ye at p;rw[ex] at p;cases ey:yc my <;> rw[ey] at p <;> exact p.elim
theorem Yc6(fz):cD X (aV .Pow) (r2 ct E (ye fz .pow)):=cD.imp zc6 λx y H Q q=>by
 rcases ZX q with ⟨i,j,k,e1,e2,e3,q⟩|⟨μ,h,mx,my,ex,rel,rx,ry,p⟩
 ·simp only[qI] at e3;split at e3
  next c=>cases e3;exact⟨i,j,e1,e2,⟨c.1,c.2.1,c.2.2⟩,q⟩
  next=>cases e3
 ·exfalso;unfold ye at p;rw[ex] at p;cases ey:yc my <;> rw[ey] at p <;> exact p.elim
noncomputable def xR:R2:=λx y H Q=>∃ l k xs,x=.ref l/\y=.int k/\Rd H l (.lst xs)/\-(2^63)<=k/\k<2^63/\xs.length*k.toNat<=sizeLine/\∀ p,H p=none->Q (.ref p) (upd H p (.lst (xc k.toNat xs).flatten))
theorem qcJ:cD X (aV .Mult) xR:=by
 intro pins s σ H x y v u Q I rx ry h;obtain⟨l,k,xs,rfl,rfl,hH,h1,h2,hz,q⟩:=h;cases rx;obtain⟨t,rfl⟩:=ry;obtain⟨z,av,n,r,e⟩:=hH.ok I.aL;have hl:=r.length;have hlen:av.toArray.size*k.toNat<=sizeLine:=by rw[wc,<- hl];exact hz
 have HX:¬ av.toArray.size*k.toNat>(2^63-1)/8:=by
  have:(sizeLine:Nat)<=(2^63-1)/8:=by decide
  lia
 have HM:¬(!Builtin.List.listFitsIndex k)=true:=by
  rw[fitsIndex_both h1 h2];exact Uh
 have nC:¬ Kl (av.toArray.size*k.toNat)=true:=by
  rw[Lv hlen];exact Uh
 have Hv:XI (λx1 x2=>x1++x2) #[] (xc (if av.toArray.isEmpty=true then 0 else k.toNat) av.toArray)=(xc k.toNat av).flatten.toArray:=by
  have f0:∀ m:Nat,XI (λx1 x2=>x1++x2) #[] (xc m av.toArray)=(xc m av).flatten.toArray:=λm=>by
   have:=OI av m [];rw[Xe] at this;exact this
  rw[f0];cases av with
  |nil=>simp
  |cons a r'=>rw[if_neg (by simp)]
 refine wpAny_binaryOp_repeat_ref (T:="list") (U:="int") (by decide) ⟨_,e,rfl⟩ (λs'=>jt s' k t) noFill_list_mul F.fills_int_mul F.slot_int_rmul repeat_list F.slot_int_index.lookup
  (gW F.slot_int_rmul (jt s k t) F.entry_int_rmul (F.args_int_rmul_2 _ _) (int___rmul___int_list k t l av.toArray n)
   ⟨e,rfl,⟨_,e,rfl⟩,gW F.slot_list_mul ⟨_,e,rfl⟩ F.entry_list_mul (F.args_list_mul_2 _ _) (AutoListH.list___mul___list_int_3 l av.toArray n k t HM HX nC) ⟨e,?_⟩⟩)
 rw[Hv];exact⟨.ref _,_,I.AQ (t':=s.toks) (r.rep k.toNat) (by rw[QcG,uv];exact hz),rfl,q _ I.fresh⟩
theorem aw.rep      (r:aw ct μ L H xs vs):∀ n:Nat,aw ct μ L H (xc n xs).flatten (xc n vs).flatten
 |0=>by simpa using aw.nil
 |n+1=>by simp only[Vj,Vp];exact r.append (aw.rep r n)
theorem Zc5(fz):cD X (aV .Mult) (r2 ct E (ye fz .mul)):=cD.imp (cD.tR qcs qcJ) λx y H Q q=>by
 rcases ZX q with ⟨i,j,k,e1,e2,e3,q⟩|⟨μ,h,mx,my,ex,rel,rx,ry,p⟩
 ·simp only[qI] at e3;split at e3
  next c=>cases e3;exact .inl ⟨i,j,e1,e2,c,q⟩
  next=>cases e3
 ·unfold ye at p;rw[ex] at p;cases ey:yc my with
  |none=>rw[ey] at p;exact p.elim
  |some j =>
   rw[ey] at p;have:=zf ey;subst this;obtain⟨xs,e,p⟩:=Po.opt p;obtain⟨a,vs,rfl,rd,rs⟩:=zu rel e rx;split at p
   next c =>
    have hl:=rs.length
    right
    refine⟨a,j,vs,rfl,Zj ry,rd,c.1,c.2.1,?_,ZC rel (rs.rep _) p⟩;rw[hl];exact Wf c.2.2 YJ
   next=>exact p.elim
set_option tactic.hygienic true in
theorem zc3(fz):cD X (aV .Add) (r2 ct E (ye fz .add)):=cD.imp (cD.tR Yc7 (cD.tR ycB zcA)) λx y H Q q=>by
 rcases ZX q with ⟨i,j,k,e1,e2,e3,q⟩|⟨μ,h,mx,my,ex,rel,rx,ry,p⟩
 ·cases e3;exact .inl ⟨i,j,e1,e2,q⟩
 ·unfold ye at p;rw[ex] at p;cases ey:yc my with
  |some j=>rw[ey] at p;exact p.elim
  |none =>
   rw[ey] at p;dsimp only at p
   right
   split at p
   next xs ys e1 e2 =>
    split at p
    next c =>
     obtain⟨a,vs,rfl,n1,C8,r1⟩:=yy e1 rx;obtain⟨b,ws,rfl,n2,FU,r2⟩:=yy e2 ry;have h1:=r1.length;have h2:=r2.length;refine .inl ⟨a,b,vs,ws,rfl,rfl,.inl (.inl C8),.inl (.inl FU),λz=>c.1 (Wo (by rw[<- h1,z];rfl)),by rw[h1,h2];exact Wf c.2 YJ,λz=>?_,λz=>u6 rel (r1.append r2) p⟩;have:ys=[]:=Wo (by rw[<- h2,z];rfl);subst this;rw[xk] at p;exact p.now rel _ (qE n1 C8 r1)
    next=>exact p.elim
   next =>
    obtain⟨xs,e1,p⟩:=Po.opt p;obtain⟨ys,e2,p⟩:=Po.opt p;split at p
    next c =>
     obtain⟨a,vs,rfl,C8,r1⟩:=zu rel e1 rx;obtain⟨b,ws,rfl,FU,r2⟩:=zu rel e2 ry;have h1:=r1.length;have h2:=r2.length;exact .inr ⟨a,b,vs,ws,rfl,rfl,C8,FU,by rw[h1,h2];exact Wf c YJ,ZC rel (r1.append r2) p⟩
    next=>exact p.elim
theorem zc2(fz):∀ op:BO,cD X (aV (Dt op)) (r2 ct E (ye fz op))
 |.add=>zc3 fz | .sub=>ZcZ fz | .mul=>Zc5 fz | .fdiv=>zcE fz | .mod=>ycZ fz | .pow=>Yc6 fz
end
mutual
noncomputable def eX:FV->PyData
 |.bG=>.none
 |.bl b=>.bool b
 |.int i=>.int i
 |.str s=>.str s
 |.tup xs=>.tuple (Yu xs)
 |.lst xs=>.list (Yu xs)
 |.obj _ _ _=>.none
 |.bP _=>.none
 |.tab _=>.none
 |.cY _=>.none
noncomputable def Yu:List FV->List PyData
 |[]=>[]
 |x::xs=>eX x::Yu xs
end
theorem OV:∀ xs:List FV,Yu xs=xs.map eX
 |[]=>by simp[Yu]
 |x::xs=>by simp[Yu,OV xs]
section
variable {ct:Tx} {X:Cx} {E:XK}
theorem CW :∀ xs:List FV,(∀ x∈xs,(eX x).canLay0=true/\(eX x).depth<=n)->Hq (Yu xs)=true/\Kq (Yu xs)<=n
 |[],_=>by simp[Yu,Hq,Kq]
 |x::xs,f=>by
  have h1:=f x (by simp);have h2:=CW xs λy hy=>f y (by simp[hy]);simp only[Yu,Hq,Kq,h1.1,h2.1,Bool.and_self,true_and];have a1:=h1.2;have a2:=h2.2
  lia
theorem xZ:∀(n:Nat)(x:FV),cy n x=true->(eX x).canLay0=true/\(eX x).depth<=n
 |0,x,e=>by cases x <;> simp[cy] at e
 |n+1,.bG,_=>by simp[eX,jq,Jq]
 |n+1,.bl _,_=>by simp[eX,jq,Jq]
 |n+1,.int _,_=>by simp[eX,jq,Jq]
 |n+1,.str s,e=>by
  have e':PyData.strOk s=true:=e;simp[eX,jq,Jq,e']
 |n+1,.tup xs,e=>by
  have q:=CW (n:=n) xs λx hx=>xZ n x (by simp[cy] at e;exact e x hx);have q2:=q.2;simp only[eX,jq,Jq,q.1,true_and]
  lia
 |n+1,.lst xs,e=>by
  have q:=CW (n:=n) xs λx hx=>xZ n x (by simp[cy] at e;exact e x hx);have q2:=q.2;simp only[eX,jq,Jq,q.1,true_and]
  lia
 |n+1,.obj _ _ _,e=>by simp[cy] at e
 |n+1,.bP _,e=>by simp[cy] at e
 |n+1,.tab _,e=>by simp[cy] at e
 |n+1,.cY _,e=>by simp[cy] at e
theorem QW  (e:cy 8 x=true):SeqAt.shaped (eX x)=true:=by
 have:=xZ 8 x e;unfold SeqAt.shaped;rw[this.1,Bool.true_and];exact decide_eq_true (by have:=this.2;lia)
mutual
theorem Et:∀(n:Nat)(x y:FV),cy n x=true->cy n y=true->Gp (eX x) (eX y)=gH x y
 |0,x,_,e,_=>by cases x <;> simp[cy] at e
 |n+1,.tup xs,.tup ys,e,e'=>by
  simp only[eX,Gp,gH];exact JM n xs ys (by simpa[cy] using e) (by simpa[cy] using e')
 |n+1,.lst xs,.lst ys,e,e'=>by
  simp only[eX,Gp,gH];exact JM n xs ys (by simpa[cy] using e) (by simpa[cy] using e')
 |n+1,.bG,y,e,e'=>by cases y <;> simp_all [cy,eX,Gp,gH]
 |n+1,.bl _,y,e,e'=>by cases y <;> simp_all [cy,eX,Gp,gH]
 |n+1,.int _,y,e,e'=>by cases y <;> simp_all [cy,eX,Gp,gH]
 |n+1,.str _,y,e,e'=>by cases y <;> simp_all [cy,eX,Gp,gH]
 |n+1,.tup _,.bG,e,e'=>by simp[eX,Gp,gH]
 |n+1,.tup _,.bl _,e,e'=>by simp[eX,Gp,gH]
 |n+1,.tup _,.int _,e,e'=>by simp[eX,Gp,gH]
 |n+1,.tup _,.str _,e,e'=>by simp[eX,Gp,gH]
 |n+1,.tup _,.lst _,e,e'=>by simp[eX,Gp,gH]
 |n+1,.tup _,.obj _ _ _,e,e'=>by simp[cy] at e'
 |n+1,.tup _,.bP _,e,e'=>by simp[cy] at e'
 |n+1,.tup _,.tab _,e,e'=>by simp[cy] at e'
 |n+1,.tup _,.cY _,e,e'=>by simp[cy] at e'
 |n+1,.lst _,.bG,e,e'=>by simp[eX,Gp,gH]
 |n+1,.lst _,.bl _,e,e'=>by simp[eX,Gp,gH]
 |n+1,.lst _,.int _,e,e'=>by simp[eX,Gp,gH]
 |n+1,.lst _,.str _,e,e'=>by simp[eX,Gp,gH]
 |n+1,.lst _,.tup _,e,e'=>by simp[eX,Gp,gH]
 |n+1,.lst _,.obj _ _ _,e,e'=>by simp[cy] at e'
 |n+1,.lst _,.bP _,e,e'=>by simp[cy] at e'
 |n+1,.lst _,.tab _,e,e'=>by simp[cy] at e'
 |n+1,.lst _,.cY _,e,e'=>by simp[cy] at e'
 |n+1,.obj _ _ _,_,e,_=>by simp[cy] at e
 |n+1,.bP _,_,e,_=>by simp[cy] at e
 |n+1,.tab _,_,e,_=>by simp[cy] at e
 |n+1,.cY _,_,e,_=>by simp[cy] at e
theorem JM:∀(n:Nat)(xs ys:List FV),(∀ x∈xs,cy n x=true)->(∀ y∈ys,cy n y=true)->Gq (Yu xs) (Yu ys)=nY xs ys
 |n,[],[],_,_=>by simp[Yu,Gq,nY]
 |n,[],_::_,_,_=>by simp[Yu,Gq,nY]
 |n,_::_,[],_,_=>by simp[Yu,Gq,nY]
 |n,x::xs,y::ys,e,e'=>by
  simp only[Yu,Gq,nY];rw[Et n x y (e x (by simp)) (e' y (by simp)),JM n xs ys (λz hz=>e z (by simp[hz])) (λz hz=>e' z (by simp[hz]))]
end
mutual
theorem YL      (aL:fB P w H hp):∀(n:Nat)(x:FV)(v:V)(u:Value),cy n x=true->RF ct L H x v->RelV v u->∃ as,Reads hp u (eX x) as
 |0,x,_,_,e,_,_=>by cases x <;> simp[cy] at e
 |n+1,.bG,v,u,_,r,q=>by simp only[RF] at r;subst r;cases q;exact⟨_,.none⟩
 |n+1,.bl _,v,u,_,r,q=>by simp only[RF] at r;subst r;cases q;exact⟨_,.bool _⟩
 |n+1,.int _,v,u,_,r,q=>by simp only[RF] at r;subst r;obtain⟨t,rfl⟩:=q;exact⟨_,.int _ _⟩
 |n+1,.str _,v,u,_,r,q=>by simp only[RF] at r;subst r;obtain⟨t,rfl⟩:=q;exact⟨_,.str _ _⟩
 |n+1,.tup xs,v,u,e,r,q=>by
  simp only[RF] at r;obtain⟨a,vs,rfl,_,rd,rs⟩:=r;cases q;obtain⟨z,av,rv,o,e1,e2,k,e3⟩:=(Rd.of rd).ok aL;obtain⟨as,ra⟩:=Zz aL n xs vs av (by simpa[cy] using e) rs rv;exact⟨as,jz e1 e2 e3 ra⟩
 |n+1,.lst xs,v,u,e,r,q=>by
  simp only[RF] at r;obtain⟨a,vs,rfl,_,rd,rs⟩:=r;cases q;obtain⟨z,av,k,rv,e1⟩:=rd.ok aL;obtain⟨as,ra⟩:=Zz aL n xs vs av (by simpa[cy] using e) rs rv;exact⟨_,j8 e1 rfl rfl ra⟩
 |n+1,.obj _ _ _,_,_,e,_,_=>by simp[cy] at e
 |n+1,.bP _,_,_,e,_,_=>by simp[cy] at e
 |n+1,.tab _,_,_,e,_,_=>by simp[cy] at e
 |n+1,.cY _,_,_,e,_,_=>by simp[cy] at e
theorem Zz      (aL:fB P w H hp):∀(n:Nat)(xs:List FV)(vs:List V)(us:List Value),(∀ x∈xs,cy n x=true)->fy ct L H xs vs->Vals vs us->∃ as,ReadsAll hp us (Yu xs) as
 |n,[],vs,us,_,r,q=>by simp only[fy] at r;subst r;cases q;exact⟨[],by simpa only[Yu] using ReadsAll.nil⟩
 |n,x::xs,vs,us,e,r,q=>by
  simp only[fy] at r;obtain⟨v,t,rfl,r1,r2⟩:=r;cases q with
  |cons q1 q2 =>
   obtain⟨as,h1⟩:=YL aL n x v _ (e x (by simp)) r1 q1;obtain⟨bs,h2⟩:=Zz aL n xs t _ (λz hz=>e z (by simp[hz])) r2 q2;exact⟨as++bs,by simp only[Yu];exact .cons h1 h2⟩
end
noncomputable abbrev Dr:ae->Prop:=λ_=>False
section
variable {μ:List ae} {h:MH} {H:Hp}
theorem ZV :∀{xs:List MV}{ys:List FV}{vs:List V},xs.mapM g=some ys->aw ct μ (aZ μ h) H xs vs ->
  (∀ x∈xs,∀ y v,g x=some y->RV ct μ (aZ μ h) H x v->RF ct Dr H y v)->fy ct Dr H ys vs
 |[],ys,vs,e,r,_=>by
  simp at e;subst e;simp only[aw] at r;subst r;simp only[fy]
 |x::xs,ys,vs,e,r,f=>by
  simp only[Xq,Xu,ub,Gb,gb.injEq] at e;obtain⟨y,e1,zs,e2,rfl⟩:=e;simp only[aw] at r;obtain⟨v,t,rfl,r1,r2⟩:=r;simp only[fy];exact⟨v,t,rfl,f x (by simp) y v e1 r1,ZV e2 r2 λz hz=>f z (by simp[hz])⟩
theorem Zt(rel:Rel ct μ h H):∀(n:Nat)(m:MV)(x:FV)(v:V),qp h n m=some x->RV ct μ (aZ μ h) H m v->RF ct Dr H x v
 |0,m,x,v,e,_=>by simp[qp] at e
 |n+1,.f y,x,v,e,r=>by
  simp[qp] at e;subst e;simp only[RV] at r;exact RF.to ⟨λ_ _ e _=>e,λ_ _ _ _ z=>z⟩ r
 |n+1,.tup xs,x,v,e,r=>by
  simp only[qp,Wd] at e;obtain⟨ys,e1,rfl⟩:=e;simp only[RV] at r;obtain⟨a,vs,rfl,na,rd,q⟩:=r;simp only[RF];exact⟨a,vs,rfl,λz=>z,rd,ZV e1 q λz hz y u ez ru=>Zt rel n z y u ez ru⟩
 |n+1,.ref i,x,v,e,r=>by
  simp only[qp,ub,Wd] at e;obtain⟨xs,e0,ys,e1,rfl⟩:=e;simp only[RV] at r;obtain⟨b,eb,rfl⟩:=r;obtain⟨b',vs,i8,hb,q⟩:=rel.lst e0;rw[eb] at i8;cases i8;simp only[RF];exact⟨b,vs,rfl,λz=>z,.inl hb,ZV e1 q λz hz y u ez ru=>Zt rel n z y u ez ru⟩
 |n+1,.exc _,x,v,e,_=>by simp[qp] at e
end
noncomputable def mK:CO->eF
 |.lt=>.Lt | .le=>.LtE | .gt=>.Gt | .ge=>.GtE | .eq=>.Eq | .ne=>.NotEq | .gZ=>.In | .tS=>.NotIn
noncomputable def nW(ct:Tx)(op:CO):R2:=λx y H Q=>∃ μ h mx my b,Rel ct μ h H/\RV ct μ (aZ μ h) H mx x/\RV ct μ (aZ μ h) H my y/\yI op mx my h=some b/\Q (.bl b) H
theorem Y8     (ho:∀ mx my h,yI op mx my h=(yc mx).bind λi=>(yc my).bind λj=>Q4 op i j)(q:nW ct op x y H Q):∃ i j b,x=.int i/\y=.int j/\Q4 op i j=some b/\Q (.bl b) H:=by
 obtain⟨μ,h,mx,my,b,rel,rx,ry,e,q⟩:=q;rw[ho] at e;simp only[ub] at e;obtain⟨i,e1,j,e2,e3⟩:=e;have:=zf e1;subst this;have:=zf e2;subst this;exact⟨i,j,b,Zj rx,Zj ry,e3,q⟩
theorem Az:cD X (aJ .Lt) (nW ct .lt):=cD.imp Aq λx y H Q q=>by
 obtain⟨i,j,b,e1,e2,e3,q⟩:=Y8 (λ_ _ _=>rfl) q;cases e3;exact⟨i,j,e1,e2,q⟩
theorem AA:cD X (aJ .LtE) (nW ct .le):=cD.imp Ar λx y H Q q=>by
 obtain⟨i,j,b,e1,e2,e3,q⟩:=Y8 (λ_ _ _=>rfl) q;cases e3;exact⟨i,j,e1,e2,q⟩
theorem AD:cD X (aJ .Gt) (nW ct .gt):=cD.imp As λx y H Q q=>by
 obtain⟨i,j,b,e1,e2,e3,q⟩:=Y8 (λ_ _ _=>rfl) q;cases e3;exact⟨i,j,e1,e2,q⟩
theorem AE:cD X (aJ .GtE) (nW ct .ge):=cD.imp Au λx y H Q q=>by
 obtain⟨i,j,b,e1,e2,e3,q⟩:=Y8 (λ_ _ _=>rfl) q;cases e3;exact⟨i,j,e1,e2,q⟩
theorem MD   (e:mX x y=some b):cy 8 x=true/\cy 8 y=true/\gH x y=b:=by
 unfold mX at e;split at e
 next c=>cases e;exact⟨c.1,c.2,rfl⟩
 next=>cases e
theorem AF(hu:X.A.units+65<cT):cD X (aJ .Eq) (nW ct .eq):=by
 intro pins s σ H x y v u Q I rx ry q;obtain⟨μ,h,mx,my,b,rel,r1,r2,e,q⟩:=q;simp only[yI,ub] at e;obtain⟨a,e1,c,e2,e3⟩:=e;obtain⟨d1,d2,e4⟩:=MD e3;obtain⟨as,ra⟩:=YL I.aL 8 a x v d1 (Zt rel 5 mx a x e1 r1) rx;obtain⟨bs,rb⟩:=YL I.aL 8 c y u d2 (Zt rel 5 my c y e2 r2) ry;refine eq_dataH ra rb (QW d1) (QW d2) (by lia) ?_;rw[Et 8 a c d1 d2,e4];exact⟨.bl b,H,I,rfl,q⟩
theorem Ay(hu:X.A.units+65<cT):cD X (aJ .NotEq) (nW ct .ne):=by
 intro pins s σ H x y v u Q I rx ry q;obtain⟨μ,h,mx,my,b,rel,r1,r2,e,q⟩:=q;simp only[yI,ub,Wd] at e;obtain⟨a,e1,c,e2,b',e3,rfl⟩:=e;obtain⟨d1,d2,e4⟩:=MD e3;obtain⟨as,ra⟩:=YL I.aL 8 a x v d1 (Zt rel 5 mx a x e1 r1) rx;obtain⟨bs,rb⟩:=YL I.aL 8 c y u d2 (Zt rel 5 my c y e2 r2) ry;refine ne_dataH ra rb (QW d1) (QW d2) (by lia) ?_;rw[Et 8 a c d1 d2,e4];exact⟨.bl _,H,I,rfl,q⟩
end
end SD
end
section
namespace HT
open PySem PyProof.Rows
section
variable {prog:ak} {w:World} {A:Around} {E:Value->Shared->Prop} {s:Shared}
theorem gy{t sl:ae}{items:Array Value}{vl vu:Value}{lo hi:Option Int}{Q:Value->Shared->Prop}(ht:gK s.heap t items)(hs:s.heap.IsSliceOf sl vl vu .none)(pl:fq vl lo)(pu:fq vu hi)
  (hw:cq items.size 0 lo=0/\cq items.size items.size hi=items.size) (h:Q (.ref t) s):ag (ah prog w) A (getItem (.ref t) (.ref sl)) Q E s:=by
 obtain⟨os,sf,oX,Bx⟩:=id hs;have Ic:s.TypeIs (.ref sl) "slice":=⟨os,sf,oX⟩;unfold getItem
 try with_reducible refine aI ?_
 first|refine aa (af ?_)|skip
 refine aa (hJ ht.typeIs (by decide) ?_);refine aa (aO (name:=jj "__getitem__") ht.typeIs gf
  (bg gf ht.typeIs entry_tuple_getitem ?_ (gX _ _)))
 show ag _ _ (Gj (.ref t) >>= _) _ _ s;refine aa (jZ ht ?_);refine aa (cE Ic ?_);rw[if_pos (by decide)];refine aa (yJ hs pl pu ?_);have G0:(((cq items.size 0 lo:Nat):Int)==0&&(1:Int)==1&&(cq items.size items.size hi-cq items.size 0 lo)==items.size)=true:=by
  rw[hw.1,hw.2];simp
 show ag _ _ (if(((cq items.size 0 lo:Nat):Int)==0&&(1:Int)==1&&(cq items.size items.size hi-cq items.size 0 lo)==items.size)=true then _ else _) _ _ s;rw[if_pos G0];unfold Builtin.Tuple.tupleIsExact;refine aa (aa (cE ht.typeIs (af ?_)));rw[if_pos (by decide)]
 first
  |exact aa (cV (aa (af (af ⟨_,rfl,af h⟩))))
  |exact aa (cV (af ⟨_,rfl,af h⟩))
  |exact aa (cV (aa (af ⟨_,rfl,af h⟩)))
end
end HT
namespace SD
open PySem PySem.Spec PyProof.Rows L2 L3 M3 MP
section
variable {ct:Tx} {X:Cx} {E:XK}
theorem Ycl    (e:r8 x ys=some b):cy 8 x=true/\(∀ y∈ys,cy 8 y=true)/\ys.any (λy=>gH y x)=b:=by
 unfold r8 at e;split at e
 next c=>cases e;exact⟨c.1,by simpa using c.2,rfl⟩
 next=>cases e
theorem zcv   (hx:cy 8 x=true)(hy:∀ y∈ys,cy 8 y=true):(Yu ys).any (λy=>Gp y (eX x))=ys.any λy=>gH y x:=by
 rw[OV,wG]
 induction ys with
 |nil=>rfl
 |cons y ys ih =>
  simp only[vw,uu];rw[Et 8 y x (hy y (by simp)) hx,ih λz hz=>hy z (by simp[hz])]
theorem Ld              (hK:X.K=ct.K)(I:Inv X pins σ H s)(rel:Rel ct μ h H)(rx:RelV x v)(ry:RelV y u)
  (r1:RV ct μ (aZ μ h) H mx x) (r2:RV ct μ (aZ μ h) H my y) (e1:ZT h mx=some a) (e2:qb h my=some ys) (e3:ys.mapM (ZT h)=some bs) (e4:r8 a bs=some b) :
  (∃ as uO,(Reads s.heap u (.list (Yu bs)) as\/Reads s.heap u (.tuple (Yu bs)) as)/\Reads s.heap v (eX a) uO)/\Hq (Yu bs)=true/\(eX a).canLay0=true/\Kq (Yu bs)<=8/\(Yu bs).any (λy=>Gp y (eX a))=b:=by
 obtain⟨d1,d2,e5⟩:=Ycl e4;obtain⟨uO,ra⟩:=YL I.aL 8 a x v d1 (Zt rel 5 mx a x e1 r1) rx;obtain⟨k,p,vs,rfl,sq,rs⟩:=Yz rel e2 r2;cases ry;have rf:fy ct Dr H bs vs:=ZV e3 rs λz hz y u ez ru=>Zt rel 5 z y u ez ru;have ll:=CW (n:=8) bs λy hy=>xZ 8 y (d2 y hy);refine⟨?_,ll.1,(xZ 8 a d1).1,ll.2,by rw[zcv d1 d2];exact e5⟩;cases k with
 |true =>
  obtain⟨av,rv,⟨o,q1,q2,n,q3⟩,_⟩:=I.tuple (show gA X.K H p vs from sq.s hK);obtain⟨as,rb⟩:=Zz I.aL 8 bs vs av d2 rf rv;exact⟨as,uO,.inr (jz q1 q2 q3 rb),ra⟩
 |false =>
  obtain⟨av,rv,⟨o,n,q1,q2,_,q3⟩,_⟩:=I.list (show fK X.K H p vs from sq.s hK);obtain⟨as,rb⟩:=Zz I.aL 8 bs vs av d2 rf rv;exact⟨_,uO,.inl (j8 q1 q2 q3 rb),ra⟩
theorem AB(hK:X.K=ct.K)(hu:X.A.units+65<cT):cD X (aJ .In) (nW ct .gZ):=by
 intro pins s σ H x y v u Q I rx ry q;obtain⟨μ,h,mx,my,b,rel,r1,r2,e,q⟩:=q;simp only[yI,ub] at e;obtain⟨a,e1,ys,e2,bs,e3,e4⟩:=e;obtain⟨⟨as,uO,rb,ra⟩,l1,l2,l3,e5⟩:=Ld hK I rel rx ry r1 r2 e1 e2 e3 e4
 rcases rb with rb|rb
 ·exact SeqAt.in_list_reads rb ra l1 l2 (by have:=wy (Kq (Yu bs)) (eX a).depth;lia) (by rw[e5];exact⟨.bl b,H,I,rfl,q⟩)
 ·exact SeqAt.in_tuple_reads rb ra l1 l2 (by have:=wy (Kq (Yu bs)) (eX a).depth;lia) (by rw[e5];exact⟨.bl b,H,I,rfl,q⟩)
theorem zcU(hK:X.K=ct.K)(hu:X.A.units+65<cT):cD X (aJ .NotIn) (nW ct .tS):=by
 intro pins s σ H x y v u Q I rx ry q;obtain⟨μ,h,mx,my,b,rel,r1,r2,e,q⟩:=q;simp only[yI,ub,Wd] at e;obtain⟨a,e1,ys,e2,bs,e3,b',e4,rfl⟩:=e;obtain⟨⟨as,uO,rb,ra⟩,l1,l2,l3,e5⟩:=Ld hK I rel rx ry r1 r2 e1 e2 e3 e4
 rcases rb with rb|rb
 ·exact SeqAt.notIn_list_reads rb ra l1 l2 (by have:=wy (Kq (Yu bs)) (eX a).depth;lia) (by rw[e5];exact⟨.bl _,H,I,rfl,q⟩)
 ·exact SeqAt.notIn_tuple_reads rb ra l1 l2 (by have:=wy (Kq (Yu bs)) (eX a).depth;lia) (by rw[e5];exact⟨.bl _,H,I,rfl,q⟩)
theorem uT(hK:X.K=ct.K)(hu:X.A.units+65<cT):∀ op:CO,cD X (aJ (mK op)) (nW ct op)
 |.lt=>Az | .le=>AA | .gt=>AD | .ge=>AE | .eq=>AF hu | .ne=>Ay hu | .gZ=>AB hK hu | .tS=>zcU hK hu
theorem N8(n)(i):lu n i=tV n i:=rfl
noncomputable def F7(ct:Tx):R2:=λx y H Q=>∃ μ h mx k xs m,Rel ct μ h H/\RV ct μ (aZ μ h) H mx x/\y=.int k/\qb h mx=some xs/\dy xs k=some m/\∀ v,RV ct μ (aZ μ h) H m v->Q v H
theorem ycI(hK:X.K=ct.K):CB X (F7 ct):=by
 intro value slice pins s σ H x y v u Q I rx ry q hs;obtain(⟨μ,h,mx,k,xs,m,rel,r,rfl,e1,e2,q⟩):=q;obtain(⟨b,a,vs,rfl,sq,rs⟩):=Yz rel e1 r;unfold dy at e2;rw[ub] at e2;obtain(⟨j,e3,e4⟩):=e2;obtain(⟨w,ew,rw_⟩):=rs.get e4;refine GU X.K rfl value slice pins s σ H (.ref a) (.int k) v u Q I rx ry ⟨b,a,vs,k,w,rfl,rfl,sq.s hK,?_,q w rw_⟩ hs;unfold uN;rw[rs.length,<- N8,e3];exact ew
theorem Gz      (r:aw ct μ L H xs vs)(lo hi):aw ct μ L H (zO xs lo hi) (rp vs lo hi):=by
 unfold zO rp;rw[r.length];exact(r.drop _).take _
noncomputable def FY(ct:Tx)(E:XK)(fz:Bool):V->Option Int->Option Int->Hp->VK->Prop:=λx lo hi H Q=>∃ μ h m,Rel ct μ h H/\RV ct μ (aZ μ h) H m x/\Po ct E (yA fz m lo hi h) μ h H (kV ct Q)
set_option tactic.hygienic true in
theorem Zcu(hK:X.K=ct.K)(fz):ED X (FY ct E fz):=by
 intro pins s σ H x v vl vu lo hi sl Q I rx hs pl pu q;obtain(⟨μ,h,m,rel,r,p⟩):=q;unfold yA at p;split at p
 next xs e =>
  obtain(⟨a,vs,rfl,n,rd,rs⟩):=yy e r;by_cases hw:HT.cq vs.length 0 lo=0/\HT.cq vs.length vs.length hi=vs.length
  ·cases rx;obtain(⟨av,rv,ht,hz⟩):=I.tuple (show gA X.K H a vs from .inl (.inl rd));have hlen:av.toArray.size=vs.length:=by rw[wc];exact rv.length.symm
   refine⟨"tuple",_,gf.lookup,ht.typeIs,HT.gy ht hs pl pu (by rw[hlen];exact hw) ?_⟩;have hc:zO xs lo hi=xs:=by
    have hl:=rs.length;unfold zO;show(xs.drop (HT.cq xs.length 0 lo)).take (HT.cq xs.length xs.length hi-HT.cq xs.length 0 lo)=xs;rw[<- hl,hw.1,hw.2,Ul,Vx,hl,Uo]
   rw[hc] at p;exact⟨.ref a,H,I,rfl,p.now rel _ (qE n rd rs)⟩
  ·exact yc7 pins s σ H (.ref a) v vl vu lo hi sl Q I rx hs pl pu ⟨a,vs,rfl,.inl (.inl rd),hw,u6 rel (Gz rs lo hi) p⟩
 next e =>
  obtain(⟨xs,e1,p⟩):=Po.opt p
  rcases Qz e1 with e2|e2|⟨ns,rfl,rfl⟩
  ·rw[e] at e2;cases e2
  ·obtain(⟨a,vs,rfl,rd,rs⟩):=zu rel e2 r;exact LA pins s σ H (.ref a) v vl vu lo hi sl Q I rx hs pl pu ⟨a,vs,rfl,.inl rd,ZC rel (Gz rs lo hi) p⟩
  ·simp only[RV,RF] at r;obtain(⟨a,rfl,q⟩):=r;exact LA pins s σ H (.ref a) v vl vu lo hi sl Q I rx hs pl pu ⟨a,_,rfl,by rw[hK];exact C1 q,ZC rel (Gz (QU ns) lo hi) p⟩
end
section
variable {ct:Tx} {X:Cx} {E:XK}
theorem aH.imp{f:Value}{r r':List V->Hp->VK->Prop}(o:aH X f r)(k:∀ xs H Q,r' xs H Q->r xs H Q):aH X f r':=λpins s σ H xs us Q I rv q=>o pins s σ H xs us Q I rv (k _ _ _ q)
theorem aH.tR{f:Value}{r r':List V->Hp->VK->Prop}(o:aH X f r)(o':aH X f r'):aH X f λxs H Q=>r xs H Q\/r' xs H Q:=λpins s σ H xs us Q I rv q=>q.elim (o pins s σ H xs us Q I rv) (o' pins s σ H xs us Q I rv)
noncomputable def rB(ct:Tx)(E:XK)(fz:Bool)(n:String):List V->Hp->VK->Prop:=λvs H Q=>∃ μ h ms,Rel ct μ h H/\aw ct μ (aZ μ h) H ms vs/\Po ct E (zq fz n ms h) μ h H (kV ct Q)
theorem Zs{μ:List ae}{L:ae->Prop}{H:Hp}{m:MV}{vs:List V}(r:aw ct μ L H [m] vs):∃ v,vs=[v]/\RV ct μ L H m v:=by
 simp only[aw] at r;obtain⟨v,t,rfl,r1,rfl⟩:=r;exact⟨v,rfl,r1⟩
theorem u3{μ:List ae}{L:ae->Prop}{H:Hp}{m m':MV}{vs:List V}(r:aw ct μ L H [m,m'] vs):∃ v v',vs=[v,v']/\RV ct μ L H m v/\RV ct μ L H m' v':=by
 simp only[aw] at r;obtain⟨v,t,rfl,r1,v',t',rfl,r2,rfl⟩:=r;exact⟨v,v',rfl,r1,r2⟩
theorem yS   :∀{xs:List MV}{ns:List Int}{vs:List V},Qf xs=some ns->aw ct μ L H xs vs->vs=ns.map V.int
 |[],ns,vs,e,r=>by simp[Qf] at e;subst e;simp only[aw] at r;subst r;rfl
 |.f (.int i)::xs,ns,vs,e,r=>by
  simp only[Qf,Wd] at e;obtain⟨ms,e1,rfl⟩:=e;simp only[aw] at r;obtain⟨v,t,rfl,r1,r2⟩:=r;rw[Zj r1,yS e1 r2];rfl
 |.f .bG::_,_,_,e,_=>by simp[Qf] at e
 |.f (.bl _)::_,_,_,e,_=>by simp[Qf] at e
 |.f (.str _)::_,_,_,e,_=>by simp[Qf] at e
 |.f (.tup _)::_,_,_,e,_=>by simp[Qf] at e
 |.f (.lst _)::_,_,_,e,_=>by simp[Qf] at e
 |.f (.obj _ _ _)::_,_,_,e,_=>by simp[Qf] at e
 |.f (.bP _)::_,_,_,e,_=>by simp[Qf] at e
 |.f (.tab _)::_,_,_,e,_=>by simp[Qf] at e
 |.f (.cY _)::_,_,_,e,_=>by simp[Qf] at e
 |.ref _::_,_,_,e,_=>by simp[Qf] at e
 |.tup _::_,_,_,e,_=>by simp[Qf] at e
 |.exc _::_,_,_,e,_=>by simp[Qf] at e
theorem O3   :∀{xs:List MV}{ns:List Bool}{vs:List V},yt xs=some ns->aw ct μ L H xs vs->vs=ns.map V.bl
 |[],ns,vs,e,r=>by simp[yt] at e;subst e;simp only[aw] at r;subst r;rfl
 |.f (.bl i)::xs,ns,vs,e,r=>by
  simp only[yt,Wd] at e;obtain⟨ms,e1,rfl⟩:=e;simp only[aw] at r;obtain⟨v,t,rfl,r1,r2⟩:=r;rw[tL r1,O3 e1 r2];rfl
 |.f .bG::_,_,_,e,_=>by simp[yt] at e
 |.f (.int _)::_,_,_,e,_=>by simp[yt] at e
 |.f (.str _)::_,_,_,e,_=>by simp[yt] at e
 |.f (.tup _)::_,_,_,e,_=>by simp[yt] at e
 |.f (.lst _)::_,_,_,e,_=>by simp[yt] at e
 |.f (.obj _ _ _)::_,_,_,e,_=>by simp[yt] at e
 |.f (.bP _)::_,_,_,e,_=>by simp[yt] at e
 |.f (.tab _)::_,_,_,e,_=>by simp[yt] at e
 |.f (.cY _)::_,_,_,e,_=>by simp[yt] at e
 |.ref _::_,_,_,e,_=>by simp[yt] at e
 |.tup _::_,_,_,e,_=>by simp[yt] at e
 |.exc _::_,_,_,e,_=>by simp[yt] at e
theorem uV.len{H:Hp}{K:Jc}{b:Bool}{a:ae}{vs:List V}(hK:K=ct.K)(q:uV ct H b a vs):fK K H a vs\/gA K H a vs:=by
 subst hK;cases b with
 |false=>exact .inl q
 |true=>exact .inr q
theorem zcZ(hK:X.K=ct.K)(fz):aH X (.builtin "len") (rB ct E fz "len"):=aH.imp (A2 X.K) λvs H Q q=>by
 obtain⟨μ,h,ms,rel,r0,p⟩:=q
 rcases ms with _|⟨m,_|⟨m2,ms⟩⟩
 ·exact p.elim
 ·obtain⟨v,rfl,rm⟩:=Zs r0;obtain⟨xs,e,p⟩:=Po.opt p;obtain⟨b,a,ws,rfl,sq,rs⟩:=Yz rel e rm;exact⟨a,ws,rfl,sq.len hK,by rw[rs.length];exact p.now rel _ (yq _)⟩
 ·exact p.elim
theorem qc9(hK:X.K=ct.K)(fz)(hc:X.calm=true):aH X (.builtin "sum") (rB ct E fz "sum"):=aH.imp (AZ X.K hc) λvs H Q q=>by
 obtain⟨μ,h,ms,rel,r0,p⟩:=q
 rcases ms with _|⟨m,_|⟨m2,ms⟩⟩
 ·exact p.elim
 ·obtain⟨v,rfl,rm⟩:=Zs r0;obtain⟨ns,e,p⟩:=Po.opt p;rw[ub] at e;obtain⟨xs,e1,e2⟩:=e;obtain⟨b,a,ws,rfl,sq,rs⟩:=Yz rel e1 rm;have:=yS e2 rs;subst this;exact⟨b,a,ns,rfl,sq.s hK,p.now rel _ (yq _)⟩
 ·exact p.elim
theorem yda(hK:X.K=ct.K)(fz)(hc:X.calm=true):aH X (.builtin "all") (rB ct E fz "all"):=aH.imp (k_all X.K hc) λvs H Q q=>by
 obtain⟨μ,h,ms,rel,r0,p⟩:=q
 rcases ms with _|⟨m,_|⟨m2,ms⟩⟩
 ·exact p.elim
 ·obtain⟨v,rfl,rm⟩:=Zs r0;obtain⟨ns,e,p⟩:=Po.opt p;rw[ub] at e;obtain⟨xs,e1,e2⟩:=e;obtain⟨b,a,ws,rfl,sq,rs⟩:=Yz rel e1 rm;have:=O3 e2 rs;subst this;exact⟨b,a,ns,rfl,sq.s hK,p.now rel _ (YE _)⟩
 ·exact p.elim
theorem zc4(hK:X.K=ct.K)(fz)(hc:X.calm=true):aH X (.builtin "min") (rB ct E fz "min"):=aH.imp (aH.tR (A0 X.K hc) (zbM hc)) λvs H Q q=>by
 obtain⟨μ,h,ms,rel,r0,p⟩:=q
 rcases ms with _|⟨m,_|⟨m2,_|⟨m3,ms⟩⟩⟩
 ·exact p.elim
 ·left
  obtain⟨v,rfl,rm⟩:=Zs r0;obtain⟨ns,e,p⟩:=Po.opt p;rw[ub] at e;obtain⟨xs,e1,e2⟩:=e;obtain⟨b,a,ws,rfl,sq,rs⟩:=Yz rel e1 rm;have:=yS e2 rs;subst this;cases ns with
  |nil=>exact p.elim
  |cons n ns =>
   refine⟨b,a,n::ns,rfl,sq.s hK,by simp,λk hk hl=>?_⟩;have:k=nX n ns:=by
    have a1:=hl _ (E3 (r:=n::ns) (by simp));have a2:=Qcz (r:=n::ns) hk;exact Ko a1 a2
   subst this;exact p.now rel _ (yq _)
 ·right
  obtain⟨v,v',rfl,rm,oE⟩:=u3 r0;obtain⟨i,e,p⟩:=Po.opt p;obtain⟨j,e',p⟩:=Po.opt p;have:=zf e;subst this;have:=zf e';subst this;rw[Zj rm,Zj oE];exact⟨i,j,rfl,p.now rel _ (yq _)⟩
 ·exact p.elim
theorem Zc3(hK:X.K=ct.K)(fz)(hc:X.calm=true):aH X (.builtin "max") (rB ct E fz "max"):=aH.imp (aH.tR (A1 X.K hc) (ybW hc)) λvs H Q q=>by
 obtain⟨μ,h,ms,rel,r0,p⟩:=q
 rcases ms with _|⟨m,_|⟨m2,_|⟨m3,ms⟩⟩⟩
 ·exact p.elim
 ·left
  obtain⟨v,rfl,rm⟩:=Zs r0;obtain⟨ns,e,p⟩:=Po.opt p;rw[ub] at e;obtain⟨xs,e1,e2⟩:=e;obtain⟨b,a,ws,rfl,sq,rs⟩:=Yz rel e1 rm;have:=yS e2 rs;subst this;cases ns with
  |nil=>exact p.elim
  |cons n ns =>
   refine⟨b,a,n::ns,rfl,sq.s hK,by simp,λk hk hl=>?_⟩;have:k=og n ns:=by
    have a1:=hl _ (JX (r:=n::ns) (by simp));have a2:=GI (r:=n::ns) hk;exact Ko a2 a1
   subst this;exact p.now rel _ (yq _)
 ·right
  obtain⟨v,v',rfl,rm,oE⟩:=u3 r0;obtain⟨i,e,p⟩:=Po.opt p;obtain⟨j,e',p⟩:=Po.opt p;have:=zf e;subst this;have:=zf e';subst this;rw[Zj rm,Zj oE];exact⟨i,j,rfl,p.now rel _ (yq _)⟩
 ·exact p.elim
theorem ycS(fz):aH X (.builtin "abs") (rB ct E fz "abs"):=aH.imp zco λvs H Q q=>by
 obtain⟨μ,h,ms,rel,r0,p⟩:=q
 rcases ms with _|⟨m,_|⟨m2,ms⟩⟩
 ·exact p.elim
 ·obtain⟨v,rfl,rm⟩:=Zs r0;obtain⟨i,e,p⟩:=Po.opt p;have:=zf e;subst this;rw[Zj rm];exact⟨i,rfl,p.now rel _ (yq _)⟩
 ·exact p.elim
theorem qb0(hK:X.K=ct.K)(fz):aH X (.type "tuple") (rB ct E fz "tuple"):=aH.imp (qcH X.K) λvs H Q q=>by
 obtain⟨μ,h,ms,rel,r0,p⟩:=q
 rcases ms with _|⟨m,_|⟨m2,ms⟩⟩
 ·exact p.elim
 ·obtain⟨v,rfl,rm⟩:=Zs r0;obtain⟨xs,e,p⟩:=Po.opt p
  rcases Qz e with e|e|⟨ns,rfl,rfl⟩
  ·obtain⟨a,ws,rfl,n,rd,rs⟩:=yy e rm;exact⟨a,ws,rfl,.inr ⟨.inl (.inl rd),p.now rel _ (qE n rd rs)⟩⟩
  ·obtain⟨a,ws,rfl,rd,rs⟩:=zu rel e rm;exact⟨a,ws,rfl,.inl ⟨.inl rd,u6 rel rs p⟩⟩
  ·simp only[RV,RF] at rm;obtain⟨a,rfl,q⟩:=rm;exact⟨a,_,rfl,.inl ⟨by rw[hK];exact C1 q,u6 rel (QU ns) p⟩⟩
 ·exact p.elim
theorem QcA(hK:X.K=ct.K)(fz):aH X (.type "list") (rB ct E fz "list"):=aH.imp (zcX X.K) λvs H Q q=>by
 obtain⟨μ,h,ms,rel,r0,p⟩:=q
 rcases ms with _|⟨m,_|⟨m2,ms⟩⟩
 ·exact p.elim
 ·obtain⟨v,rfl,rm⟩:=Zs r0;obtain⟨xs,e,p⟩:=Po.opt p;obtain⟨b,a,ws,rfl,sq,rs⟩:=Yz rel e rm;exact⟨a,ws,rfl,sq.len hK,ZC rel rs p⟩
 ·exact p.elim
noncomputable def F3(ct:Tx)(E:XK)(m:String):V->List V->Hp->VK->Prop:=λx vs H Q=>∃ μ h mo ms,Rel ct μ h H/\RV ct μ (aZ μ h) H mo x/\aw ct μ (aZ μ h) H ms vs/\Po ct E (mz m mo ms h) μ h H (kV ct Q)
theorem pE.imp{id:String}{r r':V->List V->Hp->VK->Prop}(o:pE X id r)(k:∀ x xs H Q,r' x xs H Q->r x xs H Q):pE X id r':=λpins s σ H x xs v us Q I rx rv q=>o pins s σ H x xs v us Q I rx rv (k _ _ _ _ q)
theorem PB{m:String}{mo:MV}{ms:List MV}{μ:List ae}{h:MH}{H:Hp}{x:V}{k:MV->List ae->MH->Hp->Prop}(rel:Rel ct μ h H)(r:RV ct μ (aZ μ h) H mo x)(p:Po ct E (mz m mo ms h) μ h H k) :
  ∃ i b xs vs,mo=.ref i/\x=.ref b/\μ[i]?=some b/\Qc h i=some xs/\H b=some (.lst vs)/\aw ct μ (aZ μ h) H xs vs:=by
 cases mo with
 |ref i =>
  obtain⟨xs,e,_⟩:=Po.opt p;obtain⟨b,vs,e1,e2,q⟩:=rel.lst e;simp only[RV] at r;obtain⟨b',e3,rfl⟩:=r;rw[e1] at e3;cases e3;exact⟨i,b,xs,vs,rfl,rfl,e1,e,e2,q⟩
 |f _=>exact p.elim
 |tup _=>exact p.elim
 |exc _=>exact p.elim
theorem Ln{μ:List ae}{h:MH}{H:Hp}{i:Nat}{b:ae}{xs ys:List MV}{vs:List V}{m:MV}{v:V}{Q:VK}(rel:Rel ct μ h H)(e1:μ[i]?=some b)(e:Qc h i=some xs)(r:aw ct μ (aZ μ h) H ys vs)(rv:RV ct μ (aZ μ h) H m v)
  (p:Po ct E (.ok m (Ye h i ys)) μ h H (kV ct Q)):Q v (upd H b (.lst vs)):=by
 have e2:=yN e;have ex:=Ext.set (H:=H) rel e1 e2 (λz=>nomatch z) (.lst ys) (.lst vs);refine p μ _ ex (rel.set e1 e2 (λz=>nomatch z) ⟨vs,qd,?_⟩) v (rv.ext ex);exact aw.ext ex r
theorem zbP:pE X "list.append" (F3 ct E "append"):=pE.imp qbZ λx ws H Q q=>by
 obtain⟨μ,h,mo,ms,rel,r,rs,p⟩:=q;obtain⟨i,b,xs,vs,rfl,rfl,e1,e,hb,q⟩:=PB rel r p
 rcases ms with _|⟨m,_|⟨m2,ms⟩⟩
 ·obtain⟨_,_,p⟩:=Po.opt p;exact p.elim
 ·obtain⟨v,rfl,rm⟩:=Zs rs;obtain⟨_,e',p⟩:=Po.opt p;rw[e] at e';cases e';change Po ct E (if xs.length<MP.aC then _ else _) μ h H (kV ct Q) at p;split at p
  next c=>exact⟨b,vs,v,rfl,rfl,hb,by rw[q.length];exact Xd c YJ,Ln rel e1 e (q.append (aw.cons rm aw.nil)) CU p⟩
  next=>exact p.elim
 ·obtain⟨_,_,p⟩:=Po.opt p;exact p.elim
theorem ybS:pE X "list.extend" (F3 ct E "extend"):=pE.imp Qbu λx ws H Q q=>by
 obtain⟨μ,h,mo,ms,rel,r,rs,p⟩:=q;obtain⟨i,b,xs,vs,rfl,rfl,e1,e,hb,q⟩:=PB rel r p
 rcases ms with _|⟨m,_|⟨m2,ms⟩⟩
 ·obtain⟨_,_,p⟩:=Po.opt p;exact p.elim
 ·obtain⟨v,rfl,rm⟩:=Zs rs;obtain⟨_,e',p⟩:=Po.opt p;rw[e] at e';cases e';change Po ct E (opt (listOf h m) λys=>if xs.length+ys.length<=MP.aC then .ok (.f .bG) (Ye h i (xs++ys)) else .stuck) μ h H (kV ct Q) at p;obtain⟨ys,e3,p2⟩:=Po.opt p;obtain⟨a,ws,rfl,rd,Mp⟩:=zu rel e3 rm;split at p2
  next c=>exact⟨b,a,vs,ws,rfl,rfl,hb,rd,by rw[q.length,Mp.length];exact Wf c YJ,Ln rel e1 e (q.append Mp) CU p2⟩
  next=>exact p2.elim
 ·obtain⟨_,_,p⟩:=Po.opt p;exact p.elim
end
noncomputable def qa:Expr->Bool
 |.Starred ..=>false
 |.Slice ..=>false
 |.Set ..=>false
 |_=>true
noncomputable def yj:Expr->Bool
 |.Call (.Name x _) [] [] _=>!(x==("super":Str))
 |_=>true
noncomputable def zI(cs sc:az):az :=
 {cs with names:=cs.names.map λ(n,k)=>if(k==Gn&&sc.kind == .function&&sc.names.lookup n==some .cell) then(n,ko) else(n,k)}
noncomputable def gl(sc:az)(x:Str):Bool:=sc.names.lookup x==some .globalImplicit&&!(x==("__debug__":Str))&&decide (x≠("__name__":Str))
noncomputable def ou(sc:az)(x:Str):Bool:=(sc.names.lookup x==some .local||sc.names.lookup x==some .cell||sc.names.lookup x==some .free)&&!(x==("__debug__":Str))&&!(x==("__classdict__":Str))
noncomputable def rM(lo:Str->Bool)(sc:az)(x:Str):Bool:=sc.names.lookup x==some .local||(lo x&&sc.names.lookup x==some .cell)
noncomputable abbrev rR:Str->Bool:=λ_=>true
noncomputable abbrev rS(cs:az):Str->Bool:=λx=>cs.names.lookup x==some .cell
mutual
noncomputable def QB(lo:Str->Bool)(N:List Str)(sc:az):Tg->Expr->Bool
 |.nm i,.Name x _=>N[i]? == some x&&rM lo sc x
 |.tp ts,.Tuple es _ _=>Z0 lo N sc ts es
 |_,_=>false
noncomputable def Z0(lo:Str->Bool)(N:List Str)(sc:az):List Tg->List Expr->Bool
 |[],[]=>true
 |t::ts,e::es=>QB lo N sc t e&&Z0 lo N sc ts es
 |_,_=>false
end
mutual
noncomputable def mT:Tg->Expr->List Str
 |.nm _,.Name x _=>[x]
 |.tp ts,.Tuple es _ _=>vT ts es
 |_,_=>[]
noncomputable def vT:List Tg->List Expr->List Str
 |t::ts,e::es=>mT t e++vT ts es
 |_,_=>[]
end
noncomputable def Gw:Expr->Bool
 |.Tuple ..=>true
 |_=>false
noncomputable def eD:List String:=["len","sum","all","min","max","abs"]
noncomputable def dH:List String:=["tuple","list"]
noncomputable def i7:List String:=["append","extend"]
noncomputable def hZ:List String:=[]
noncomputable def a9:List String:=["dict","list","tuple","str","int","bool"]
noncomputable def YC:Expr->List Expr
 |.Call (.Name _ _) as [] _=>as
 |_=>[]
noncomputable def rD(tg:Expr)(it:String):Expr->Bool
 |.Call (.Name x _) as [] _=>(it == "range"&&(as.length==1||as.length==2||as.length==3)||it == "zip"&&Gw tg&&as.length==2||it == "enumerate"&&Gw tg&&as.length==1)&&x==jj it
 |_=>false
noncomputable def jB:ME->Bool
 |.eQ _=>false
 |.ite _ _ _=>false
 |_=>true
noncomputable def uZ:Expr->Bool
 |.Constant (.bool true) _ _=>true
 |_=>false
noncomputable def rA{α:Type}:List α->Option (α×α)
 |[a,b]=>some (a,b)
 |_=>none
noncomputable def oH{α:Type}:List α->Option α
 |[a]=>some a
 |_=>none
noncomputable def EZ:Expr->Option (Expr×Expr)
 |.Dict ks vs _=>(rA ks).bind λk=>(rA vs).bind λv=>if uZ v.1&&uZ v.2 then k.1.bind λx=>k.2.map λy=>(x,y) else none
 |_=>none
noncomputable def rG:Expr->Option (Str×Expr)
 |.Call (.Name x _) as [] _=>(oH as).map λa=>(x,a)
 |_=>none
noncomputable def u7(e:Expr):Option (Str×Str×Expr):=(rG e).bind λp=>(rG p.2).map λq=>(p.1,q.1,q.2)
noncomputable def oQ:Expr->Bool
 |.UnaryOp .USub (.Constant (.int 1) _ _) _=>true
 |_=>false
noncomputable def Ck:Expr->Option (Str×Expr×Expr)
 |.Call (.Name x _) as [] _=>(rA as).map λa=>(x,a)
 |_=>none
noncomputable def Q9:Expr->Option (Expr×eF×Expr)
 |.Compare l os rs _=>(oH os).bind λo=>(oH rs).map λr=>(l,o,r)
 |_=>none
noncomputable def r6:Expr->Bool
 |.Constant .none _ _=>true
 |_=>false
noncomputable def Cj:Expr->Option Str
 |.Name x _=>some x
 |_=>none
noncomputable def EA(e:Expr):Option (Str×Expr×Str):=(Ck e).bind λq=>(Cj q.2.2).map λy=>(q.1,q.2.1,y)
noncomputable def JD:Expr->Option Expr
 |.Subscript x (.Slice none none (some st) _) _=>if oQ st then some x else none
 |_=>none
noncomputable def K3:Option FV->Bool
 |some (.int _)=>true
 |some (.str _)=>true
 |_=>false
noncomputable def PJ:List cP->Bool
 |[⟨some k,.Constant (.int 1) _ _,_⟩]=>k==("start":Str)
 |_=>false
noncomputable def YK:Expr->Option Expr
 |.Call (.Name x _) as ks _=>if x==("enumerate":Str)&&PJ ks then oH as else none
 |_=>none
noncomputable def rE(t:Expr)(sc:az)(iter:Expr):Bool:=Gw t&&gl sc "enumerate"&&(YK iter).isSome
noncomputable def pJ(iter:Expr):Expr:=(YK iter).getD iter
noncomputable def Zdf:Expr->Option Expr
 |.Call (.Attribute l n ap) [] [] cp=>if n==("items":Str)&&yj l&&(ap.endLine==cp.line) then some l else none
 |_=>none
section
variable (Pm:Prog)
mutual
noncomputable def Qo(me:ME)(N:List Str)(sc:az)(e:Expr):Bool:=match me,e with
 |.var i,.Name x _=>N[i]? == some x&&ou sc x
 |.cI i,.Constant (.int j) _ _=>i==j
 |.cB b,.Constant (.bool c) _ _=>b==c
 |.cN,.Constant .none _ _=>true
 |.cS s,.Constant (.str x) _ _=>s==x
 |.bin _ op a b,.BinOp l o r _=>o==Dt op&&(qa l&&Qo a N sc l)&&(qa r&&Qo b N sc r)
 |.neg a,.UnaryOp .USub x _=>(qa x&&Qo a N sc x)
 |.cmp op a b,e=>match Q9 e with
  |some (l,o,r)=>o==mK op&&(qa l&&Qo a N sc l)&&(qa r&&Qo b N sc r)
  |none=>false
 |.chain op kY a b c,.Compare l [o,o'] [m,r] _=>o==mK op&&o'==mK kY&&(qa l&&Qo a N sc l)&&(qa m&&Qo b N sc m)&&(qa r&&Qo c N sc r)
 |.oJ a,e=>match Q9 e with
  |some (l,o,r)=>o == .IsNot&&r6 r&&(qa l&&Qo a N sc l)
  |none=>false
 |.and es,.BoolOp .And vs _=>es.all jB&&qm es N sc vs
 |.or es,.BoolOp .Or vs _=>es.all jB&&qm es N sc vs
 |.not a,.UnaryOp .Not x _=>jB a&&(qa x&&Qo a N sc x)
 |.ite c a b,.IfExp t x y _=>jB c&&(qa t&&Qo c N sc t)&&(qa x&&Qo a N sc x)&&(qa y&&Qo b N sc y)
 |.tup es,.Tuple vs _ _=>decide (vs.length<1000)&&qm es N sc vs
 |.lst _ es,.List vs _=>decide (vs.length<1000)&&qm es N sc vs
 |.sub a i,.Subscript x y _=>(qa x&&Qo a N sc x)&&(qa y&&Qo i N sc y)
 |.slice _ a lo hi,.Subscript x (.Slice l u none _) _=>(qa x&&Qo a N sc x)&&Cp lo N sc l&&Cp hi N sc u
 |.fld a n,.Attribute x m _=>m==jj n&&yj x&&(qa x&&Qo a N sc x)
 |.glob g,.Name x _=>x==jj g&&gl sc x&&K3 (Pm.b9 g)
 |.mQ o m es,.Call (.Attribute x n ap) vs [] cp=>n==jj m&&decide (m≠"__init__")&&yj x&&(ap.endLine==cp.line)&&(qa x&&Qo o N sc x)&&qm es N sc vs&&decide (vs.length<30)
 |.call f es,.Call (.Name x _) (v::vs) [] _=>x==jj f&&gl sc x&&!(f.toList.contains '.')&&(Pm.defs f).isSome&&qm es N sc (v::vs)
 |.make _ c es,.Call (.Name x _) (v::vs) [] _=>x==jj c&&gl sc x&&(Pm.meths c "__init__").isSome&&qm es N sc (v::vs)
 |.make _ c [],.Call (.Name x _) [] [] _=>x==jj c&&gl sc x&&Pm.nA c&&(Pm.meths c "__init__").isNone
 |.blt _ n es,.Call (.Name x _) (v::vs) [] _=>x==jj n&&gl sc x&&(eD.contains n||dH.contains n)&&qm es N sc (v::vs)
 |.lD a t,e=>match EA e with
  |some (x,v,y)=>x==("isinstance":Str)&&gl sc x&&y==jj t&&gl sc y&&(a9.contains t||(Pm.subs t t).isSome)&&(qa v&&Qo a N sc v)
  |none=>false
 |.oF _ a,e=>match u7 e with
  |some (x,y,v)=>false
  |none=>match JD e with
   |some v=>qa v&&Qo a N sc v
   |none=>false
 |.gJ a b,e=>match EZ e with
  |some (x,y)=>(qa x&&Qo a N sc x)&&(qa y&&Qo b N sc y)
  |none=>false
 |.j5 a,e=>match u7 e with
  |some (x,y,v)=>x==("sorted":Str)&&gl sc x&&y==("list":Str)&&gl sc y&&(qa v&&Qo a N sc v)
  |none=>false
 |.oO,.Dict [] [] _=>true
 |.Du a,e=>match rG e with
  |some (x,v)=>x==("dict":Str)&&gl sc x&&(qa v&&Qo a N sc v)
  |none=>false
 |.oM a b,.Call (.Attribute x n ap) [v] [] cp=>n==("update":Str)&&yj x&&(ap.endLine==cp.line)&&(qa x&&Qo a N sc x)&&(qa v&&Qo b N sc v)
 |.oN a b,e=>match Q9 e with
  |some (l,o,r)=>o == .NotIn&&(qa l&&Qo a N sc l)&&(qa r&&Qo b N sc r)
  |none=>false
 |.lm m o es,.Call (.Attribute x n ap) vs [] cp=>n==jj m&&yj x&&(ap.endLine==cp.line)&&(qa x&&Qo o N sc x)&&qm es N sc vs&&(if vs.isEmpty then hZ.contains m else i7.contains m&&decide (vs.length<30))
 |.comp _ elt tg it src cond bX js,.ListComp x [⟨t,iter,ifs,a⟩] cs _ =>
   let N':=mT tg t++js.filterMap λj=>N[j]?
   (a==0)&&qa iter&&QC sc N cs N' bX js&&decide N'.Nodup&&QB (rS cs) N' (zI cs sc) tg t&&(qa x&&Qo elt N' (zI cs sc) x)&&pq cond N' (zI cs sc) ifs &&
    (if it == "seq" then mU src N sc iter else if it == "signs" then false else if it == "enum1" then rE t sc iter&&mU src N sc (pJ iter) else rD t it iter&&gl sc (jj it)&&qm src N sc (YC iter))
 |.eQ m,e=>(qa e&&Qo m N sc e)
 |_,_=>false
noncomputable def qm(mV:List ME)(N:List Str)(sc:az)(es:List Expr):Bool:=match mV,es with
 |[],[]=>true
 |m::ms,e::es=>(qa e&&Qo m N sc e)&&qm ms N sc es
 |_,_=>false
noncomputable def mU(mV:List ME)(N:List Str)(sc:az)(e:Expr):Bool:=match mV with
 |[m]=>(qa e&&Qo m N sc e)
 |_=>false
noncomputable def Cp(mo:Option ME)(N:List Str)(sc:az)(eo:Option Expr):Bool:=match mo,eo with
 |none,none=>true
 |some m,some e=>(qa e&&Qo m N sc e)
 |_,_=>false
noncomputable def pq(mo:Option ME)(N:List Str)(sc:az)(es:List Expr):Bool:=match mo,es with
 |none,[]=>true
 |some m,[e]=>jB m&&(qa e&&Qo m N sc e)
 |_,_=>false
end
noncomputable def Zf(me:ME)(N:List Str)(sc:az)(e:Expr):Bool:=qa e&&Qo Pm me N sc e
end
noncomputable def mr(ct:Tx)(W:List MV->MH->R MV):Sp:=λvs H Q E=>∃ μ h ms,Rel ct μ h H/\aw ct μ (aZ μ h) H ms vs/\Po ct E (W ms h) μ h H (kV ct Q)
structure nR (K:Jc) (C:ae):Prop where
 cl:lV K C
 ha:Ud K (.ref C) "__class__"=some (some (.builtin "object.__class__"))
 hn:Us K (.builtin "object.__class__") "__get__"=some (some (.builtin "getset_descriptor.__get__"))
 tk:Vu K (.builtin "object.__class__")=some true
 hm:uA K C (.type "object")=some true
noncomputable def Mh(ct:Tx)(Pm:Prog)(wd:String):ae->ae->Sp:=λx C vs H Q _=>vs=[.ref x]/\∃ c s,C=ct c/\Pm.word wd c=some s/\∀ H',JP H H'->Q (.str s) H'
noncomputable def Oz(mg:Str->Option Value)(x:String):FV->Prop
 |.int i=>∃ t,mg (jj x)=some (.int i t)
 |.str s=>∃ t,mg (jj x)=some (.str s t)
 |_=>False
structure Txt (P:ak) (w:World) (K:Jc) (mg:Str->Option Value) (base:Heap) (Pm:Prog) (ct:Tx) (n:Nat):Prop where
 defs:∀ f d,Pm.defs f=some d->f.toList.contains '.'=false->∃ ps,Cu P w K mg base (jj f) (2*n) ps (mr ct (run Pm n f))
 mB:∀ c f,Pm.meths c "__init__"=some f->∃ ps,P6 P w K mg base (jj c) (ct c) (2*n) ps (mr ct (run Pm n f))
 iq:∀ x∈eD++dH++a9++["range","zip","enumerate","isinstance","sorted","reversed","set"],mg (jj x)=none
 iZ:∀ c f,Pm.iZ c f=true->lV K (ct c)/\fU K (ct c) (jj f)
 cls:∀ c t b,Pm.subs c t=some b->nR K (ct c)
 nj:∀ c t b,Pm.subs c t=some b->a9.contains t=false->mg (jj t)=some (.ref (ct t))/\uf K (.ref (ct c)) (.ref (ct t))=some b
 oy:∀ c t b,Pm.subs c t=some b->a9.contains t=true->uf K (.ref (ct c)) (.type t)=some b
 C3:∀ t c b,Pm.subs c t=some b->a9.contains t=false->∀ T∈["NoneType","bool","int","str","list","tuple"],uf K (.type T) (.ref (ct t))=some false
 l7:∀ c,Pm.l7 c=true->nN K (ct c)/\mg (jj c)=some (.ref (ct c))
 words:∀ wd,Pm.words wd=true->nN K (ct "DotError")/\mg "DotError"=some (.ref (ct "DotError"))/\(∃ ps,O8 P w K mg base (jj wd) 1 ps (Mh ct Pm wd)) /\
  ∀ c s,Pm.word wd c=some s->nN K (ct c)/\(EF K (ct c)).contains (.ref (ct "DotError"))=true
 mN:∀ t,Pm.mN t=true->(if t="ValueError" then mg "ValueError"=none else mg (jj t)=some (.ref (ct t)))
 xs:∀ c t b,Pm.mn c t=some b->CG K (ct c)/\uf K (.ref (ct c)) (if t="ValueError" then .type "ValueError" else .ref (ct t))=some b
 uL:∀ f ds,Pm.uL f ds=true->∃ ps fa fd ij,fL P w K mg base (lj P w) (2*n) fa fd ps (mr ct (run Pm n f))/\Binds K fd ps ij/\Vals (ds.map V.int) ij/\Wg K (.ref fa)=true/\mg (jj f)=some (.ref fa)
 rH:Pm.xt=true->nN K (ct "DotError")/\mg "DotError"=some (.ref (ct "DotError"))/\∀ c b,Pm.mn c c=some b->nN K (ct c)/\(EF K (ct c)).contains (.ref (ct "DotError"))=true
 meths:∀ c m f,Pm.meths c m=some f->m≠"__init__"->Pz P w K mg base (2*n) (ct c) (jj m) (mr ct (run Pm n f))
 nA:∀ c,Pm.nA c=true->pF K (ct c)/\mg (jj c)=some (.ref (ct c))
 b9:∀ x v,Pm.b9 x=some v->Oz mg x v
structure Cc (X:Cx) (Pm:Prog) (ct:Tx) (n:Nat) (Ra:L2.St->Prop) (E:XK) (N:List Str) (sc:az):Prop where
 txt:Txt X.prog X.w X.K X.mg X.base Pm ct n
 calm:X.calm=true
 room:dz (2*n+1) X.A
 Dm:∀ σ,Ra σ->Zu (lj X.prog X.w) X σ E
 nm:X.N=N
 sc:X.env.scope=sc
 nd:X.N.Nodup
 hK:X.K=ct.K
section
variable {ct:Tx} {X:Cx} {E:XK} {Pm:Prog} {n:Nat} {Ra:L2.St->Prop} {N:List Str} {sc:az}
theorem Cc.units(c:Cc X Pm ct n Ra E N sc):X.A.units+65<cT:=by have:=c.room.un;lia
theorem QH  (hs:X.env.scope=sc)(h:gl sc x=true):Gl X x/\(x==("__debug__":Str))=false/\x≠"__name__":=by
 unfold gl at h;simp only[Wa,beq_iff_eq,Wq,decide_eq_true_eq] at h;refine⟨?_,h.1.2,h.2⟩;show X.env.scope.names.lookup x=_;rw[hs];exact h.1.1
theorem Yh    (h:qa e=true):ao (e::es) env=(false,eval e env)::ao es env:=by
 cases e <;> first|rfl|(simp[qa] at h)
theorem qD  (h:qa e=true)(op:eF):bC op e=false:=by
 cases e <;> first|rfl|(simp[qa] at h)
theorem Zcj  (h:qa e=true):Oq e:=by
 intro o i;cases e <;> first|rfl|(simp[qa] at h)
theorem zN   (h:qa e=true):∀ x,cJ e env x=pure x:=by
 intro x;cases e <;> first|rfl|(simp[qa] at h)
theorem qF     (h:yj e=true):aX e f env w=w:=by
 cases e with
 |Call g as ks p =>
  cases g with
  |Name x q =>
   cases as with
   |nil =>
    cases ks with
    |nil =>
     have h':(x==("super":Str))=false:=by simpa[yj] using h
     have e1:(x != ("super":Str))=true:=by simp[bne,h']
     unfold aX;simp only[e1,Bool.true_or,if_true]
    |cons _ _=>rfl
   |cons _ _=>rfl
  |_=>rfl
 |_=>rfl
theorem Zn   (h:Zf Pm me N sc e=true):qa e=true:=by
 unfold Zf at h;exact(Wy.mp h).1
theorem Zd   (h:Zf Pm me N sc e=true):Qo Pm me N sc e=true:=by
 unfold Zf at h;exact(Wy.mp h).2
theorem ff{P:Prop}(h:false=true):P:=xj h
theorem Ybp     (h:qm Pm (m::ms) N sc (e::es)=true):Zf Pm m N sc e=true/\qm Pm ms N sc es=true:=Wy.mp (show(Zf Pm m N sc e&&qm Pm ms N sc es)=true from h)
theorem Zh :∀{es:List Expr},(∀ e∈es,qa e=true)->ao es env=es.map λe=>(false,eval e env)
 |[],_=>rfl
 |e::es,h=>by
  rw[Yh (h e (by simp)),Zh λx hx=>h x (by simp[hx])];rfl
theorem yw    (h:∀ e∈es,qa e=true):(bf pos (ao es env)).any (·.1)=false:=by
 rw[Zh h];unfold bf;rw[Ue,wG]
 induction es with
 |nil=>rfl
 |cons e es ih=>simp[vE]
theorem PE.imp   (p:PE X e t)(k:∀ σ H Q,t' σ H Q->t σ H Q):PE X e t':=λpins s σ H Q I h=>p pins s σ H Q I (k σ H Q h)
theorem PT.imp   (p:PT X e t)(k:∀ σ H Q,t' σ H Q->t σ H Q):PT X e t':=λpins s σ H Q I h=>p pins s σ H Q I (k σ H Q h)
theorem PW.imp   (p:PW X e t)(k:∀ σ H Q,t' σ H Q->t σ H Q):PW X e t':=λwh pins s σ H Q I h=>p wh pins s σ H Q I (k σ H Q h)
theorem PA.imp   (p:PA X es t)(k:∀ σ H Q,t' σ H Q->t σ H Q):PA X es t':=λpos pins s σ H Q I h=>p pos pins s σ H Q I (k σ H Q h)
theorem PS.imp   (p:PS X e t)(k:∀ D σ H,t' D σ H->t D σ H):PS X e t':=λpins s σ H D I h=>p pins s σ H D I (k D σ H h)
theorem iu.imp   (p:iu X e t)(k:∀ D σ H,t' D σ H->t D σ H):iu X e t':=λpins s σ H D I h=>p pins s σ H D I (k D σ H h)
noncomputable def lG(ct:Tx)(tg:Tg):TG:=λv σ H Q=>∃ μ h σs m σs',Rel ct μ h H/\aW ct μ h H σ σs/\RV ct μ (aZ μ h) H m v/\yr tg m σs=some σs'/\∀ σ',aW ct μ h H σ' σs'->Q σ' H
noncomputable def lGs(ct:Tx)(tgs:List Tg):rz:=λvs σ H Q=>∃ μ h σs ms σs',Rel ct μ h H/\aW ct μ h H σ σs/\aw ct μ (aZ μ h) H ms vs/\ZF tgs ms σs=some σs'/\∀ σ',aW ct μ h H σ' σs'->Q σ' H
theorem PG.imp   (p:PG X e t)(k:∀ v σ H Q,t' v σ H Q->t v σ H Q):PG X e t':=λpins s σ H v u Q I r h=>p pins s σ H v u Q I r (k v σ H Q h)
theorem oj.imp   (p:oj X e t)(k:∀ v σ H Q,t' v σ H Q->t v σ H Q):oj X e t':=λpins s σ H v u Q I r h=>p pins s σ H v u Q I r (k v σ H Q h)
theorem Gy{lo:Str->Bool}{t:Tg}{e:Expr}(h:QB lo N sc t e=true):∀(es:List Expr)(env:Env),bJ (e::es) env=(false,eP e env)::bJ es env:=by
 intro es env;cases t with
 |nm i=>cases e <;> first|rfl|(simp[QB] at h)
 |tp ts=>cases e <;> first|rfl|(simp[QB] at h)
theorem MU{lo:Str->Bool}{env:Env}:∀{ts:List Tg}{es:List Expr},Z0 lo N sc ts es=true->(bJ es env).length=ts.length/\(bJ es env).findIdx? (·.1)=none
 |[],[],_=>⟨rfl,rfl⟩
 |[],_::_,h=>by simp[Z0] at h
 |_::_,[],h=>by simp[Z0] at h
 |t::ts,e::es,h=>by
  simp only[Z0,Wa] at h;obtain⟨h1,h2⟩:=MU (env:=env) h.2;rw[Gy h.1 es env];exact⟨by simp[h1],by rw[List.findIdx?_cons];simp[h2]⟩
theorem Lh:∀{ts:List Tg}{ms:List MV}{σs σs':aF},ZF ts ms σs=some σs'->ms.length=ts.length
 |[],[],_,_,_=>rfl
 |[],_::_,_,_,e=>by simp[ZF] at e
 |_::_,[],_,_,e=>by simp[ZF] at e
 |t::ts,m::ms,σs,σs',e=>by
  simp only[ZF,ub] at e;obtain⟨σ1,_,e2⟩:=e;simp[Lh e2]
mutual
theorem sG{lo:Str->Bool}(hN:X.N=N)(hs:X.env.scope=sc)(nd:X.N.Nodup)(hc:X.calm=true)(hf:∀ x,lo x=true->X.fn x=true):∀(t:Tg)(e:Expr),QB lo N sc t e=true->PG X e (lG ct t)
 |.nm i,e,h=>by
  cases e with
  |Name x p =>
   simp only[QB,rM,Wa,beq_iff_eq,vn] at h;obtain⟨h1,h2⟩:=h;have hi:X.N[i]?=some x:=by rw[hN];exact h1
   have hk:Loc X.env.scope x:=by
    rw[hs]
    rcases h2 with h2|⟨_,h2⟩
    ·exact .inl h2
    ·exact .inr h2
   have hf':X.fn x=true\/X.env.scope.names.lookup x=some .local:=by
    rw[hs]
    rcases h2 with h2|⟨hl,h2⟩
    ·exact .inr h2
    ·exact .inl (hf x hl)
   refine PG.imp (KZ nd hi hk hf') λv σ H Q q=>?_;obtain⟨μ,hh,σs,m,σs',rel,aG,r,e,k⟩:=q;simp[yr] at e;subst e;exact k _ (aG.set i r)
  |_=>simp[QB] at h
 |.tp ts,e,h=>by
  cases e with
  |Tuple es k p =>
   simp only[QB] at h;obtain⟨h1,h2⟩:=MU (env:=X.env) h;refine PG.imp (Yc3 hc (Mm hN hs nd hc hf ts es h) h1 h2) λv σ H Q q=>?_;obtain⟨μ,hh,σs,m,σs',rel,aG,r,e,k⟩:=q;simp only[yr,ub] at e;obtain⟨ms,e1,e2⟩:=e;obtain⟨a,vs,rfl,_,rd,rs⟩:=yy e1 r;exact⟨a,vs,rfl,.inl (.inl rd),by rw[rs.length];exact Lh e2,μ,hh,σs,ms,σs',rel,aG,rs,e2,k⟩
  |_=>simp[QB] at h
theorem Mm{lo:Str->Bool}(hN:X.N=N)(hs:X.env.scope=sc)(nd:X.N.Nodup)(hc:X.calm=true)(hf:∀ x,lo x=true->X.fn x=true):∀(ts:List Tg)(es:List Expr),Z0 lo N sc ts es=true->oj X es (lGs ct ts)
 |[],es,h=>by
  cases es with
  |nil =>
   refine oj.imp Qcr λv σ H Q q=>?_;obtain⟨μ,hh,σs,ms,σs',rel,aG,rs,e,k⟩:=q;cases ms with
   |nil =>
    simp only[aw] at rs;subst rs;simp[ZF] at e;subst e;exact⟨rfl,k _ aG⟩
   |cons m ms=>simp[ZF] at e
  |cons e es=>simp[Z0] at h
 |t::ts,es,h=>by
  cases es with
  |nil=>simp[Z0] at h
  |cons e es =>
   simp only[Z0,Wa] at h;refine oj.imp (Zcb (sG hN hs nd hc hf t e h.1) (Mm hN hs nd hc hf ts es h.2) (by rw[Gy h.1 es X.env];rfl)) λv σ H Q q=>?_;obtain⟨μ,hh,σs,ms,σs',rel,aG,rs,e,k⟩:=q;cases ms with
   |nil=>simp[ZF] at e
   |cons m ms =>
    simp only[ZF,ub] at e;obtain⟨σ1,e1,e2⟩:=e;simp only[aw] at rs;obtain⟨v1,vr,rfl,r1,r2⟩:=rs;exact⟨v1,vr,rfl,μ,hh,σs,m,σ1,rel,aG,r1,e1,λσ' iU=>⟨μ,hh,σ1,ms,σs',rel,iU,r2,e2,k⟩⟩
end
end
section
variable {ct:Tx} {X:Cx} {E:XK} {Pm:Prog} {n:Nat} {Ra:L2.St->Prop} {N:List Str} {sc:az}
theorem PI.imp   (p:PI X tg e t)(k:∀ σ H Q,t' σ H Q->t σ H Q):PI X tg e t':=λpins s σ H Q I h=>p pins s σ H Q I (k σ H Q h)
noncomputable def Wk(ct:Tx)(J:It)(items:List MV)(g:zG)(μ1:List ae)(h1:MH)(H1:Hp):Prop:=∀(i:Nat) μ h H,Ext μ1 h1 H1 μ h H->Rel ct μ h H->aP g h ->
 (i<items.length->J.go i H/\∀ x H2,J.oq i H x H2->∃ m,items[i]?=some m/\Ext μ h H μ h H2/\Rel ct μ h H2/\RV ct μ (aZ μ h) H2 m x)/\(i=items.length->J.stop i H)
noncomputable def tD(ct:Tx)(b:Bool)(a:ae)(items:List MV)(g:zG)(μ1:List ae)(h1:MH)(H1:Hp):Prop:=∀ μ h H,Ext μ1 h1 H1 μ h H->Rel ct μ h H->aP g h->∃ vs,uV ct H b a vs/\aw ct μ (aZ μ h) H items vs
theorem zW       (rel:Rel ct μ h H)(e:qb h m=some items)(r:RV ct μ (aZ μ h) H m v):∃ b a,v=.ref a/\tD ct b a items (Qb h m) μ h H:=by
 cases m with
 |f x =>
  rcases Qz e with e'|e'|⟨ns,e',rfl⟩
  ·obtain⟨a,vs,rfl,na,rd,rs⟩:=yy e' r;exact⟨true,a,rfl,λμ' h' H' ex _ _=>⟨vs,gA.of (ex.keep a _ rd na),rs.ext ex⟩⟩
  ·cases x with
   |lst xs =>
    simp only[RV,RF] at r;obtain⟨a,vs,rfl,na,rd,rs⟩:=r;cases e';exact⟨false,a,rfl,λμ' h' H' ex _ _=>⟨vs,.inl (Rd.keep (λo q=>ex.keep a o q na) rd),(aw.Ax (μ:=μ) rs).ext ex⟩⟩
   |_=>cases e'
  ·cases e';simp only[RV,RF] at r;obtain⟨a,rfl,q⟩:=r;exact⟨false,a,rfl,λμ' h' H' ex _ _=>⟨_,C1 (L:=aZ μ' h') (q.imp (λ⟨n,o,e⟩=>⟨ex.let.lC a _ e n,o,ex.keep a _ e n⟩) id),QU ns⟩⟩
 |tup xs =>
  rcases Qz e with e'|e'|⟨ns,e',_⟩
  ·obtain⟨a,vs,rfl,na,rd,rs⟩:=yy e' r;exact⟨true,a,rfl,λμ' h' H' ex _ _=>⟨vs,gA.of (ex.keep a _ rd na),rs.ext ex⟩⟩
  ·cases e'
  ·cases e'
 |ref i =>
  have e0:Qc h i=some items:=e;simp only[RV] at r;obtain⟨b,eb,rfl⟩:=r;refine⟨false,b,rfl,λμ' h' H' ex bp g=>?_⟩;have g':Qc h' i=some items:=g (i,items) (by simp[Qb,e0]);obtain⟨b',vs,i8,hb,rs⟩:=bp.lst g';obtain⟨ν,rfl⟩:=ex.pre;rw[Xb (xa.mp eb).1,eb] at i8;cases i8;exact⟨vs,fK.of hb,rs⟩
 |exc c=>cases e
theorem aP.left   (k:aP (g++g') h):aP g h:=λp hp=>k p (wj _ hp)
theorem aP.right   (k:aP (g++g') h):aP g' h:=λp hp=>k p (xf _ hp)
theorem YcZ{K:Jc}(hK:K=ct.K){b:Bool}{a:ae}{items:List MV}{g:zG}{μ1:List ae}{h1:MH}{H1:Hp}(st:tD ct b a items g μ1 h1 H1):Wk ct (nP K b a) items g μ1 h1 H1:=by
 intro i μ h H ex rel gd;obtain⟨vs,sq,rs⟩:=st μ h H ex rel gd;have hl:=rs.length;refine⟨λhi=>⟨nP.go (sq.s hK) (by lia),λx H2 y=>?_⟩,λhi=>?_⟩
 ·obtain⟨rfl,e⟩:=nP.oq (sq.s hK) y;obtain⟨m,em,rm⟩:=rs.get' e;exact⟨m,em,Ext.refl _ _ _,rel,rm⟩
 ·rw[hi,<- hl];exact nP.stop (sq.s hK)
theorem yc2{K:Jc}(hK:K=ct.K){b1 b2:Bool}{a1 a2:ae}{xs ys:List MV}{g g':zG}{μ1:List ae}{h1:MH}{H1:Hp}(s1:tD ct b1 a1 xs g μ1 h1 H1)(s2:tD ct b2 a2 ys g' μ1 h1 H1) :
  Wk ct (J9 K b1 b2 a1 a2) ((xs.zip ys).map λp=>yg [p.1,p.2]) (g++g') μ1 h1 H1:=by
 intro i μ h H ex rel gd;obtain⟨vs,sq,rs⟩:=s1 μ h H ex rel (aP.left gd);obtain⟨ws,FH,Mq⟩:=s2 μ h H ex rel (aP.right gd);have hl:=rs.length;have DU:=Mq.length;refine⟨λhi=>?_,λhi=>?_⟩
 ·simp only[Wc,jn] at hi;refine⟨⟨vs,ws,sq.s hK,FH.s hK,by lia,by lia⟩,λx H2 y=>?_⟩;obtain⟨T,x1,y1,rfl,hT,rfl,e1,e2⟩:=y;obtain⟨m1,BN,r1⟩:=rs.get' (e1 vs (sq.s hK));obtain⟨m2,em2,r2⟩:=Mq.get' (e2 ws (FH.s hK));have o7:=Ext.new rel hT (.tup [x1,y1]);refine⟨yg [m1,m2],?_,o7,rel.new hT _,qE (zX rel hT) qd (aw.cons (r1.ext o7) (aw.cons (r2.ext o7) aw.nil))⟩;simp only[Wb,xv,Wd];exact⟨(m1,m2),⟨BN,em2⟩,rfl⟩
 ·simp only[Wc,jn] at hi;refine⟨vs,ws,sq.s hK,FH.s hK,?_⟩
  lia
theorem ycC{K:Jc}(hK:K=ct.K){b:Bool}{a:ae}{xs:List MV}{g:zG}{μ1:List ae}{h1:MH}{H1:Hp}(s1:tD ct b a xs g μ1 h1 H1):Wk ct (J' K b a) (xs.mapIdx λk x=>yg [.f (.int k),x]) g μ1 h1 H1:=by
 intro i μ h H ex rel gd;obtain⟨vs,sq,rs⟩:=s1 μ h H ex rel gd;have hl:=rs.length;refine⟨λhi=>?_,λhi=>?_⟩
 ·simp only[Uv] at hi;refine⟨⟨vs,sq.s hK,by lia⟩,λx H2 y=>?_⟩;obtain⟨T,x1,rfl,hT,rfl,e1⟩:=y;obtain⟨m1,BN,r1⟩:=rs.get' (e1 vs (sq.s hK));have o7:=Ext.new rel hT (.tup [.int i,x1]);refine⟨yg [.f (.int i),m1],?_,o7,rel.new hT _,qE (zX rel hT) qd (aw.cons (yq _) (aw.cons (r1.ext o7) aw.nil))⟩;rw[Wj,BN];rfl
 ·simp only[Uv] at hi;exact⟨vs,sq.s hK,by lia⟩
theorem MR{lo:Int}{k:Nat}{μ1:List ae}{h1:MH}{H1:Hp}(f:Nat->Int)(hf:∀ i:Nat,f i=lo+i):Wk ct (CC lo k) ((uc k).map λi=>MV.f (.int (f i))) [] μ1 h1 H1:=by
 intro i μ h H ex rel gd;refine⟨λhi=>?_,λhi=>?_⟩
 ·have lY:i<k:=by simpa using hi
  refine⟨lY,λx H2 y=>?_⟩;obtain⟨rfl,rfl⟩:=y;refine⟨.f (.int (f i)),by simp[lY],Ext.refl _ _ _,rel,?_⟩;rw[hf];exact yq _
 ·have lY:i=k:=by simpa using hi
  exact vo lY.symm
theorem qcD{lo st:Int}{k:Nat}{μ1:List ae}{h1:MH}{H1:Hp}:Wk ct (pG lo st k) ((uc k).map λ(i:Nat)=>MV.f (.int (lo+i*st))) [] μ1 h1 H1:=by
 intro i μ h H ex rel gd;refine⟨λhi=>?_,λhi=>?_⟩
 ·have lY:i<k:=by simpa using hi
  refine⟨lY,λx H2 y=>?_⟩;obtain⟨rfl,rfl⟩:=y;exact⟨.f (.int (lo+i*st)),by simp[lY],Ext.refl _ _ _,rel,yq _⟩
 ·have lY:i=k:=by simpa using hi
  exact vo lY.symm
theorem ZbU      (r:aw ct μ L H [m,m',m''] vs):∃ v v' vM,vs=[v,v',vM]/\RV ct μ L H m v/\RV ct μ L H m' v'/\RV ct μ L H m'' vM:=by
 simp only[aw] at r;obtain⟨v,t,rfl,r1,v',t',rfl,r2,vM,t'',rfl,r3,rfl⟩:=r;exact⟨v,v',vM,rfl,r1,r2,r3⟩
noncomputable def lI(ct:Tx)(Ra:L2.St->Prop)(E:XK)(ev:aF->MH->R (List MV))(it:String):TI:=λσ H R=>∃ μ h σs,Rel ct μ h H/\aW ct μ h H σ σs/\Ra σ /\
 Po ct E (ev σs h) μ h H λxs μ1 h1 H1=>∃ items g,gE it xs h1=some (items,g)/\Rel ct μ1 h1 H1/\∀ J,Wk ct J items g μ1 h1 H1->R J H1
theorem zda(hK:X.K=ct.K)   (h:PE X e (lE ct Ra E ev)):PI X tg e (lI ct Ra E (λσ hh=>(ev σ hh).bind λx h1=>.ok [x] h1) "seq"):=PI.imp (GS X.K h) λσ H Q q=>by
 obtain⟨μ,hh,σs,rel,aG,ra,p⟩:=q;refine lE.mk rel aG ra p λm v μ1 h1 H1 ex ar aQ rv p1=>?_;obtain⟨items,g,e1,_,k⟩:=p1.now ar;simp only[Yp,Wd,kr.injEq] at e1;obtain⟨xs,e2,rfl,rfl⟩:=e1;obtain⟨b,a,rfl,st⟩:=zW ar e2 rv;obtain⟨vs,sq,_⟩:=st μ1 h1 H1 (Ext.refl _ _ _) ar (λp hp=>by
  cases m with
  |ref i =>
   have e0:Qc h1 i=some xs:=e2;simp[Qb,e0] at hp;subst hp;exact e0
  |f _=>simp[Qb] at hp
  |tup _=>simp[Qb] at hp
  |exc _=>simp[Qb] at hp)
 exact⟨b,a,rfl,⟨vs,sq.s hK⟩,k _ (YcZ hK st)⟩
theorem QK    (e2:qb h1 m=some xs):aP (Qb h1 m) h1:=λp hp=>by
 cases m with
 |ref i =>
  have e0:Qc h1 i=some xs:=e2;simp[Qb,e0] at hp;subst hp;exact e0
 |f _=>simp[Qb] at hp
 |tup _=>simp[Qb] at hp
 |exc _=>simp[Qb] at hp
theorem zb7     (hg:Gl X "range")(hm:X.mg "range"=none)(ha:PA X es (lA ct Ra E ev))(bZ:∀ e∈es,qa e=true)(hl:(es.length=1\/es.length=2)\/es.length=3)(hn:∀ σ h xs h',ev σ h=.ok xs h'->xs.length=es.length) :
  PI X tg (.Call (.Name "range" p) es [] pos) (lI ct Ra E ev "range"):=by
 rcases es with _|⟨a,_|⟨b,_|⟨c,_|⟨d,es⟩⟩⟩⟩
 ·simp at hl
 ·refine PI.imp (ybL hg hm ha (Zh bZ)) λσ H Q q=>?_;obtain(⟨μ,hh,σs,rel,aG,ra,p⟩):=q;refine⟨μ,hh,σs,rel,aG,ra,?_⟩;cases er:ev σs hh with
  |exc c h'=>rw[er] at p;exact p
  |stuck=>rw[er] at p;exact p
  |ok xs h' =>
   rw[er] at p;have hx:=hn _ _ _ _ er;intro μ' H' ex bp vs dP;obtain(⟨items,g,e1,_,k⟩):=p μ' H' ex bp
   rcases xs with _|⟨m,_|⟨m2,xs⟩⟩
   ·simp at hx
   ·obtain(⟨v,rfl,rm⟩):=Zs dP;simp only[YcS,ub] at e1;obtain(⟨j,e2,e3⟩):=e1;have:=zf e2;subst this;split at e3
    next c =>
     simp only[gb.injEq,kr.injEq] at e3;obtain(⟨rfl,rfl⟩):=e3;rw[Zj rm];exact⟨j,rfl,c.1,c.2,k _ (MR _ λi=>by simp)⟩
    next=>cases e3
   ·simp at hx
 ·refine PI.imp (qbV hg hm ha (Zh bZ) (Zh λe he=>bZ e (by simp at he;simp[he]))) λσ H Q q=>?_;obtain(⟨μ,hh,σs,rel,aG,ra,p⟩):=q;refine⟨μ,hh,σs,rel,aG,ra,?_⟩;cases er:ev σs hh with
  |exc c h'=>rw[er] at p;exact p
  |stuck=>rw[er] at p;exact p
  |ok xs h' =>
   rw[er] at p;have hx:=hn _ _ _ _ er;intro μ' H' ex bp vs dP;obtain(⟨items,g,e1,_,k⟩):=p μ' H' ex bp
   rcases xs with _|⟨m,_|⟨m2,_|⟨m3,xs⟩⟩⟩
   ·simp at hx
   ·simp at hx
   ·obtain(⟨v,v',rfl,rm,oE⟩):=u3 dP;simp only[ZcQ,ub] at e1;obtain(⟨i,e2,j,e3,e4⟩):=e1;have:=zf e2;subst this;have:=zf e3;subst this;split at e4
    next c =>
     simp only[gb.injEq,kr.injEq] at e4;obtain(⟨rfl,rfl⟩):=e4;rw[Zj rm,Zj oE];exact⟨i,j,rfl,⟨c.1,c.2.1,c.2.2.1,c.2.2.2⟩,k _ (MR _ λi=>rfl)⟩
    next=>cases e4
   ·simp at hx
 ·refine PI.imp (YbS hg hm ha (Zh bZ) (Zh λe he=>bZ e (by simp at he;rcases he with he|he <;> simp[he]))) λσ H Q q=>?_;obtain(⟨μ,hh,σs,rel,aG,ra,p⟩):=q;refine⟨μ,hh,σs,rel,aG,ra,?_⟩;cases er:ev σs hh with
  |exc c h'=>rw[er] at p;exact p
  |stuck=>rw[er] at p;exact p
  |ok xs h' =>
   rw[er] at p;have hx:=hn _ _ _ _ er;intro μ' H' ex bp vs dP;obtain(⟨items,g,e1,_,k⟩):=p μ' H' ex bp
   rcases xs with _|⟨m,_|⟨m2,_|⟨m3,_|⟨m4,xs⟩⟩⟩⟩
   ·simp at hx
   ·simp at hx
   ·simp at hx
   ·obtain(⟨v,v',vM,rfl,rm,oE,FT⟩):=ZbU dP;simp only[qcT,ub] at e1;obtain(⟨i,e2,j,e3,l,e4,e5⟩):=e1;have:=zf e2;subst this;have:=zf e3;subst this;have:=zf e4;subst this;split at e5
    next c =>
     simp only[gb.injEq,kr.injEq] at e5;obtain(⟨rfl,rfl⟩):=e5;rw[Zj rm,Zj oE,Zj FT];exact⟨i,j,l,rfl,c,k _ qcD⟩
    next=>cases e5
   ·simp at hx
 ·simp at hl
theorem zc1(hK:X.K=ct.K)      (hg:Gl X "zip")(hm:X.mg "zip"=none)(ha:PA X [a,b] (lA ct Ra E ev))(bZ:∀ e∈[a,b],qa e=true)(hn:∀ σ h xs h',ev σ h=.ok xs h'->xs.length=2) :
  PI X (.Tuple es kt pt) (.Call (.Name "zip" p) [a,b] [] pos) (lI ct Ra E ev "zip"):=by
 refine PI.imp (AY X.K hg hm ha (Zh bZ) (Zh λe he=>bZ e (by simp at he;simp[he]))) λσ H Q q=>?_;obtain⟨μ,hh,σs,rel,aG,ra,p⟩:=q;refine⟨μ,hh,σs,rel,aG,ra,?_⟩;cases er:ev σs hh with
 |exc c h'=>rw[er] at p;exact p
 |stuck=>rw[er] at p;exact p
 |ok xs h' =>
  rw[er] at p;have hx:=hn _ _ _ _ er;intro μ' H' ex bp vs dP;obtain⟨items,g,e1,_,k⟩:=p μ' H' ex bp
  rcases xs with _|⟨m,_|⟨m2,_|⟨m3,xs⟩⟩⟩
  ·simp at hx
  ·simp at hx
  ·obtain⟨v,v',rfl,rm,oE⟩:=u3 dP;simp only[Fg,ub,Wd,kr.injEq] at e1;obtain⟨us,e2,ws,e3,rfl,rfl⟩:=e1;obtain⟨b1,a1,rfl,s1⟩:=zW bp e2 rm;obtain⟨b2,a2,rfl,s2⟩:=zW bp e3 oE;obtain⟨vL,q1,_⟩:=s1 _ _ _ (Ext.refl _ _ _) bp (QK e2);obtain⟨vs2,q2,_⟩:=s2 _ _ _ (Ext.refl _ _ _) bp (QK e3);exact⟨b1,b2,a1,a2,rfl,⟨vL,q1.s hK⟩,⟨vs2,q2.s hK⟩,k _ (yc2 hK s1 s2)⟩
  ·simp at hx
theorem Zcv(hK:X.K=ct.K)      (hg:Gl X "enumerate")(hm:X.mg "enumerate"=none)(ha:PA X [a] (lA ct Ra E ev))(bZ:∀ e∈[a],qa e=true)(hn:∀ σ h xs h',ev σ h=.ok xs h'->xs.length=1) :
  PI X (.Tuple es kt pt) (.Call (.Name "enumerate" p) [a] [] pos) (lI ct Ra E ev "enumerate"):=by
 refine PI.imp (ycX X.K hg hm ha (Zh bZ)) λσ H Q q=>?_;obtain⟨μ,hh,σs,rel,aG,ra,p⟩:=q;refine⟨μ,hh,σs,rel,aG,ra,?_⟩;cases er:ev σs hh with
 |exc c h'=>rw[er] at p;exact p
 |stuck=>rw[er] at p;exact p
 |ok xs h' =>
  rw[er] at p;have hx:=hn _ _ _ _ er;intro μ' H' ex bp vs dP;obtain⟨items,g,e1,_,k⟩:=p μ' H' ex bp
  rcases xs with _|⟨m,_|⟨m2,xs⟩⟩
  ·simp at hx
  ·obtain⟨v,rfl,rm⟩:=Zs dP;simp only[J0,Wd,kr.injEq] at e1;obtain⟨us,e2,rfl,rfl⟩:=e1;obtain⟨b1,a1,rfl,s1⟩:=zW bp e2 rm;obtain⟨vL,q1,_⟩:=s1 _ _ _ (Ext.refl _ _ _) bp (QK e2);exact⟨b1,a1,rfl,⟨vL,q1.s hK⟩,k _ (ycC hK s1)⟩
  ·simp at hx
end
theorem yC  (h:jj a=jj b):a=b:=by
 rw[Jj,Jj] at h;injection h with h
 have h2:a.toList.map Char.toNat=b.toList.map Char.toNat:=by simpa using congrArg UF h
 have h3:a.toList=b.toList:=by
  refine(List.map_inj_right λx y e=>?_).mp h2;exact Char.ext (UInt32.toNat_inj.mp e)
 exact String.ext h3
section
variable {ct:Tx} {X:Cx} {E:XK} {Pm:Prog} {n:Nat} {Ra:L2.St->Prop} {N:List Str} {sc:az}
noncomputable def fM(ev:aF->MH->R MV):aF->MH->R Bool:=λσ h=>(ev σ h).bind λx h1=>opt (yG x) λk=>.ok k h1
theorem MN     (q:lT ct Ra E (fM ev) σ H Q):lE ct Ra E ev σ H λx H'=>∃ k,x=.bl k/\Q k H':=by
 obtain⟨μ,h,σs,rel,aG,ra,p⟩:=q;refine lE.mk rel aG ra p λm v μ1 h1 H1 ex ar aQ rv p1=>?_;obtain⟨k,e,p2⟩:=Po.opt p1;have:=Em e;subst this;exact⟨k,tL rv,p2.now ar⟩
theorem Dg    (p:PE X e t)(pt:PT X e (JQ t))(k:∀ σ H Q,lE ct Ra E ev σ H Q->t σ H Q):PE X e (lE ct Ra E ev)/\PT X e (lT ct Ra E (fM ev)) :=
 ⟨PE.imp p k,PT.imp pt λσ H Q q=>k σ H _ (MN q)⟩
theorem yd   (p:PE X e (lE ct Ra E ev))(he:∀ whole,kZ e X.env whole=(do let v<-whole;i6 e.pos;cx [v] (truthy v)):=by intro _;rfl):PE X e (lE ct Ra E ev)/\PT X e (lT ct Ra E (fM ev)) :=
 ⟨p,PT.imp (ZcW p he) λσ H Q q=>MN q⟩
section
variable {ea eb ec:aF->MH->R MV} {a b c:Expr} {pos:Pos}
theorem CQ   (h:PE X a (tC v))(r:∀ μ L H,RV ct μ L H (.f x) v):PE X a (lE ct Ra E λ_ h=>.ok (.f x) h):=PE.imp h λσ H Q q=>by
 obtain⟨μ,hh,σs,rel,aG,ra,p⟩:=q;exact p.now rel v (r _ _ _)
theorem BQ{i:Nat}{x:Str}(hN:X.N[i]?=some x)(hv:ou X.env.scope x=true):PE X (.Name x pos) (lE ct Ra E λσ h=>opt ((σ[i]?).join) λv=>.ok v h):=by
 unfold ou at hv;simp only[Wa,vn,beq_iff_eq,Wq] at hv;refine PE.imp (KC hN (by rcases hv.1.1 with (h|h)|h;exact .inl h;exact .inr (.inl h);exact .inr (.inr h)) hv.1.2 hv.2) λσ H Q q=>?_;obtain⟨μ,hh,σs,rel,aG,ra,p⟩:=q;obtain⟨m,e,p⟩:=Po.opt p;have e':σs[i]?=some (some m):=by
  cases q:σs[i]? with
  |none=>rw[q] at e;cases e
  |some z=>rw[q] at e;exact congrArg some e
 obtain⟨v,e2,rv⟩:=aG.at_ i m e';exact⟨v,e2,p.now rel v rv⟩
theorem B8(fz)(op)(ha:PE X a (lE ct Ra E ea))(hb:PE X b (lE ct Ra E eb)):PE X (.BinOp a (Dt op) b pos) (lE ct Ra E λσ h=>(ea σ h).bind λx h1=>(eb σ h1).bind λy h2=>ye fz op x y h2) :=
 PE.imp (Ak (zc2 (ct:=ct) (E:=E) fz op) ha hb) λσ H Q q=>by
  obtain⟨μ,h,σs,rel,aG,ra,p⟩:=q;exact lE.mk rel aG ra p λm v μ1 h1 H1 ex ar aQ rv p1=>lE.mk ar aQ ra p1 λm2 v2 μ2 h2 H2 dJ aU dD jU p2=>⟨μ2,h2,m,m2,aU,rv.ext dJ,jU,p2⟩
theorem BW(ha:PE X a (lE ct Ra E ea)):PE X (.UnaryOp .USub a pos) (lE ct Ra E λσ h=>(ea σ h).bind λx h1=>opt (yc x) λi=>.ok (.f (.int (-i))) h1) :=
 PE.imp (Oa O9 ha) λσ H Q q=>by
  obtain⟨μ,h,σs,rel,aG,ra,p⟩:=q;refine lE.mk rel aG ra p λm v μ1 h1 H1 ex ar aQ rv p1=>?_;obtain⟨i,e,p2⟩:=Po.opt p1;have:=zf e;subst this;exact⟨i,Zj rv,p2.now ar _ (yq _)⟩
theorem B6(hK:X.K=ct.K)(op)(hu:X.A.units+65<cT)(ha:PE X a (lE ct Ra E ea))(hb:PE X b (lE ct Ra E eb))(hp:qa b=true) :
  PE X (.Compare a [mK op] [b] pos) (lE ct Ra E λσ h=>(ea σ h).bind λx h1=>(eb σ h1).bind λy h2=>opt (yI op x y h2) λk=>.ok (.f (.bl k)) h2) /\
  PT X (.Compare a [mK op] [b] pos) (lT ct Ra E (fM λσ h=>(ea σ h).bind λx h1=>(eb σ h1).bind λy h2=>opt (yI op x y h2) λk=>.ok (.f (.bl k)) h2)) :=
 Dg (YcJ (uT (ct:=ct) hK hu op) ha hb (qD hp _)) (Qcw (uT (ct:=ct) hK hu op) ha hb (qD hp _)) λσ H Q q=>by
  obtain⟨μ,h,σs,rel,aG,ra,p⟩:=q;refine lE.mk rel aG ra p λm v μ1 h1 H1 ex ar aQ rv p1=>lE.mk ar aQ ra p1 λm2 v2 μ2 h2 H2 dJ aU dD jU p2=>?_;obtain⟨k,e,p3⟩:=Po.opt p2;exact⟨μ2,h2,m,m2,k,aU,rv.ext dJ,jU,e,p3.now aU _ (YE _)⟩
theorem yct(hK:X.K=ct.K)(op kY)(hu:X.A.units+65<cT)(ha:PE X a (lE ct Ra E ea))(hb:PE X b (lE ct Ra E eb))(hc:PE X c (lE ct Ra E ec))(hp:qa c=true) :
  PE X (.Compare a [mK op,mK kY] [b,c] pos) (lE ct Ra E λσ h=>(ea σ h).bind λx h1=>(eb σ h1).bind λy h2=>opt (yI op x y h2) λk=>if k=true then(ec σ h2).bind λz h3=>opt (yI kY y z h3) λk=>.ok (.f (.bl k)) h3 else .ok (.f (.bl false)) h2) /\
  PT X (.Compare a [mK op,mK kY] [b,c] pos) (lT ct Ra E (fM λσ h=>(ea σ h).bind λx h1=>(eb σ h1).bind λy h2=>opt (yI op x y h2) λk=>if k=true then(ec σ h2).bind λz h3=>opt (yI kY y z h3) λk=>.ok (.f (.bl k)) h3 else .ok (.f (.bl false)) h2)) :=
 Dg (yb5 (uT (ct:=ct) hK hu op) (uT (ct:=ct) hK hu kY) ha hb hc (qD hp _)) (qcp (uT (ct:=ct) hK hu op) (uT (ct:=ct) hK hu kY) ha hb hc (qD hp _)) λσ H Q q=>by
  obtain⟨μ,h,σs,rel,aG,ra,p⟩:=q;refine lE.mk rel aG ra p λm v μ1 h1 H1 ex ar aQ rv p1=>lE.mk ar aQ ra p1 λm2 v2 μ2 h2 H2 dJ aU dD jU p2=>?_;obtain⟨k,e,p3⟩:=Po.opt p2;refine⟨μ2,h2,m,m2,k,aU,rv.ext dJ,jU,e,k,rfl,?_⟩;cases k with
  |false=>exact p3.now aU _ (YE _)
  |true =>
   refine lE.mk aU dD ra p3 λm3 v3 μ3 h3 H3 gF eK nr xN p4=>?_;obtain⟨k',e',p5⟩:=Po.opt p4;exact⟨μ3,h3,m2,m3,k',eK,jU.ext gF,xN,e',p5.now eK _ (YE _)⟩
theorem N7      (r:RV ct μ L H m v):Yy m=decide (v=.bG):=by
 cases m with
 |f x =>
  cases x with
  |bG=>simp only[RV,RF] at r;subst r;rfl
  |bl _=>simp only[RV,RF] at r;subst r;rfl
  |int _=>simp only[RV,RF] at r;subst r;rfl
  |str _=>simp only[RV,RF] at r;subst r;rfl
  |tup _=>simp only[RV,RF] at r;obtain⟨_,_,rfl,_⟩:=r;rfl
  |lst _=>simp only[RV,RF] at r;obtain⟨_,_,rfl,_⟩:=r;rfl
  |obj _ _ _=>simp only[RV,RF] at r;obtain⟨_,_,_,rfl,_⟩:=r;rfl
  |bP _=>simp only[RV,RF] at r;obtain⟨_,rfl,_⟩:=r;rfl
  |tab _=>simp only[RV,RF] at r;obtain⟨_,_,rfl,_⟩:=r;rfl
  |cY _=>simp only[RV,RF] at r;obtain⟨_,_,rfl,_⟩:=r;rfl
 |ref _=>simp only[RV] at r;obtain⟨_,_,rfl⟩:=r;rfl
 |tup _=>simp only[RV] at r;obtain⟨_,_,rfl,_⟩:=r;rfl
 |exc _=>simp only[RV] at r;obtain⟨_,rfl,_⟩:=r;rfl
theorem Qc0   (ha:PE X a (lE ct Ra E ea)) :
  PE X (.Compare a [.IsNot] [.Constant .none j p2] pos) (lE ct Ra E λσ h=>(ea σ h).bind λx h1=>.ok (.f (.bl (!Yy x))) h1) /\
  PT X (.Compare a [.IsNot] [.Constant .none j p2] pos) (lT ct Ra E (fM λσ h=>(ea σ h).bind λx h1=>.ok (.f (.bl (!Yy x))) h1)) :=
 Dg (KA (ML ha)) (LL (ML ha)) λσ H Q q=>by
  obtain⟨μ,h,σs,rel,aG,ra,p⟩:=q;refine lE.mk rel aG ra p λm v μ1 h1 H1 ex ar aQ rv p1=>?_;rw[<- N7 rv];exact p1.now ar _ (YE _)
theorem BV(ha:PE X a (lE ct Ra E ea))(ta:PT X a (lT ct Ra E (fM ea))) :
  PE X (.UnaryOp .Not a pos) (lE ct Ra E λσ h=>(ea σ h).bind λx h1=>opt (yG x) λk=>.ok (.f (.bl (!k))) h1) /\
  PT X (.UnaryOp .Not a pos) (lT ct Ra E (fM λσ h=>(ea σ h).bind λx h1=>opt (yG x) λk=>.ok (.f (.bl (!k))) h1)):=by
 refine⟨PE.imp (YcY ha) λσ H Q q=>?_,PT.imp (qc8 ta) λσ H Q q=>?_⟩
 ·obtain⟨μ,h,σs,rel,aG,ra,p⟩:=q;refine lE.mk rel aG ra p λm v μ1 h1 H1 ex ar aQ rv p1=>?_;obtain⟨k,e,p2⟩:=Po.opt p1;have:=Em e;subst this;exact⟨k,tL rv,p2.now ar _ (YE _)⟩
 ·obtain⟨μ,h,σs,rel,aG,ra,p⟩:=q;refine⟨μ,h,σs,rel,aG,ra,?_⟩;dsimp only[fM] at p ⊢;cases er:ea σs h with
  |stuck=>rw[er] at p;exact p
  |exc c h'=>rw[er] at p;exact p
  |ok x h' =>
   rw[er] at p;simp only[R.ay] at p ⊢;cases eb:yG x with
   |none=>rw[eb] at p;exact p
   |some k =>
    rw[eb] at p;exact p
theorem BZ(tc:PT X c (lT ct Ra E (fM ec)))(ha:PE X a (lE ct Ra E ea))(hb:PE X b (lE ct Ra E eb)) :
  PE X (.IfExp c a b pos) (lE ct Ra E λσ h=>(ec σ h).bind λx h1=>opt (yG x) λk=>if k=true then ea σ h1 else eb σ h1) :=
 PE.imp (Yci tc ha hb) λσ H Q q=>by
  obtain⟨μ,h,σs,rel,aG,ra,p⟩:=q;have p':Po ct E ((fM ec σs h).bind λk h1=>if k=true then ea σs h1 else eb σs h1) μ h H (kV ct Q):=by
   dsimp only[fM] at p ⊢;cases er:ec σs h with
   |stuck=>rw[er] at p;exact p
   |exc c h'=>rw[er] at p;exact p
   |ok x h' =>
    rw[er] at p;simp only[R.ay] at p ⊢;cases eb:yG x with
    |none=>rw[eb] at p;exact p
    |some k=>rw[eb] at p;exact p
  refine lT.mk rel aG ra p' λk μ1 h1 H1 ex ar aQ p1=>?_;cases k with
  |true=>exact⟨μ1,h1,σs,ar,aQ,ra,p1⟩
  |false=>exact⟨μ1,h1,σs,ar,aQ,ra,p1⟩
theorem B4(ha:PE X a (lE ct Ra E ea)):PE X a (lE ct Ra E λσ h=>(ea σ h).bind λx h1=>ZJ x h1):=PE.imp ha λσ H Q q=>by
 obtain⟨μ,h,σs,rel,aG,ra,p⟩:=q;refine lE.mk rel aG ra p λm v μ1 h1 H1 ex ar aQ rv p1=>?_;obtain⟨x,h',o8,bp,rv',k⟩:=K4 ar rv p1;exact k v rv'
theorem BS(hK:X.K=ct.K)(ha:PE X a (lE ct Ra E ea))(hb:PE X b (lE ct Ra E eb))(hp:qa b=true) :
  PE X (.Subscript a b pos) (lE ct Ra E λσ h=>(ea σ h).bind λx h1=>(eb σ h1).bind λy h2=>opt (qb h2 x) λxs=>opt (yc y) λk=>opt (dy xs k) λv=>.ok v h2) :=
 PE.imp (Al (ycI (ct:=ct) hK) ha hb (Zcj hp)) λσ H Q q=>by
  obtain⟨μ,h,σs,rel,aG,ra,p⟩:=q;refine lE.mk rel aG ra p λm v μ1 h1 H1 ex ar aQ rv p1=>lE.mk ar aQ ra p1 λm2 v2 μ2 h2 H2 dJ aU dD jU p2=>?_;obtain⟨xs,e1,p3⟩:=Po.opt p2;obtain⟨k,e2,p4⟩:=Po.opt p3;obtain⟨w,e3,p5⟩:=Po.opt p4;have:=zf e2;subst this;exact⟨μ2,h2,m,k,xs,w,aU,rv.ext dJ,Zj jU,e1,e3,p5.now aU⟩
end
end
section
variable {ct:Tx} {X:Cx} {E:XK} {Pm:Prog} {n:Nat} {Ra:L2.St->Prop} {N:List Str} {sc:az}
noncomputable def Bo(ct:Tx)(X:Cx)(Ra:L2.St->Prop)(E:XK)(Pm:Prog)(n:Nat):List ME->List Expr->Prop
 |[],[]=>True
 |m::ms,e::es=>(qa e=true/\PE X e (lE ct Ra E (ya Pm (run Pm n) m))/\(jB m=true->PT X e (lT ct Ra E (fM (ya Pm (run Pm n) m)))))/\Bo ct X Ra E Pm n ms es
 |_,_=>False
theorem Bo.pa:∀{ms:List ME}{es:List Expr},Bo ct X Ra E Pm n ms es->PA X es (lA ct Ra E (Zg Pm (run Pm n) ms))
 |[],[],_=>PA.imp Aa λσ H Q q=>by
  obtain⟨μ,h,σs,rel,aG,ra,p⟩:=q;simp only[Zg] at p;exact p.now rel [] aw.nil
 |[],_::_,b=>b.elim
 |_::_,[],b=>b.elim
 |m::ms,e::es,b=>PA.imp (qU b.1.2.1 (Bo.pa b.2) (Yh b.1.1)) λσ H Q q=>by
  obtain⟨μ,h,σs,rel,aG,ra,p⟩:=q;simp only[Zg] at p;refine lE.mk rel aG ra p λm' v μ1 h1 H1 ex ar aQ rv p1=>?_;refine lA.mk ar aQ ra p1 λms' vs μ2 h2 H2 dJ aU dD dP p2=>?_;exact p2.now aU _ (aw.cons (rv.ext dJ) dP)
theorem Bo.plain:∀{ms:List ME}{es:List Expr},Bo ct X Ra E Pm n ms es->∀ e∈es,qa e=true
 |[],[],_,e,he=>by simp at he
 |[],_::_,b,_,_=>b.elim
 |_::_,[],b,_,_=>b.elim
 |m::ms,e::es,b,x,hx=>by
  rcases Xa.mp hx with rfl|hx
  ·exact b.1.1
  ·exact Bo.plain b.2 x hx
theorem Bo.length:∀{ms:List ME}{es:List Expr},Bo ct X Ra E Pm n ms es->ms.length=es.length
 |[],[],_=>rfl
 |[],_::_,b=>b.elim
 |_::_,[],b=>b.elim
 |m::ms,e::es,b=>by simp[Bo.length b.2]
theorem QF :∀{ms:List ME}{σ:aF}{h:MH}{xs:List MV}{h':MH},Zg Pm W ms σ h=.ok xs h'->xs.length=ms.length
 |[],σ,h,xs,h',e=>by simp only[Zg,R.ok.injEq] at e;simp[<- e.1]
 |m::ms,σ,h,xs,h',e=>by
  simp only[Zg] at e;cases e1:ya Pm W m σ h with
  |stuck=>rw[e1] at e;cases e
  |exc c h2=>rw[e1] at e;cases e
  |ok x h1 =>
   rw[e1] at e;simp only[R.ay] at e;cases e2:Zg Pm W ms σ h1 with
   |stuck=>rw[e2] at e;cases e
   |exc c h2=>rw[e2] at e;cases e
   |ok ys h2 =>
    rw[e2] at e;simp only[R.ay,R.ok.injEq] at e;rw[<- e.1,Uc,Uc,QF e2]
theorem Ls :∀{ms:List ME}{es:List Expr},Bo ct X Ra E Pm n ms es->ms.all jB=true->PE X (.BoolOp .And es pos) (lE ct Ra E (Ys Pm (run Pm n) ms))/\PW X (.BoolOp .And es pos) (lT ct Ra E (fM (Ys Pm (run Pm n) ms)))
 |[],[],_,_=>⟨λpins s σ H Q I q=>by
   obtain⟨μ,h,σs,rel,aG,ra,p⟩:=q;simp only[Ys] at p;exact p.elim,λwh pins s σ H Q I q=>by
   obtain⟨μ,h,σs,rel,aG,ra,p⟩:=q;simp only[fM,Ys] at p;exact p.elim⟩
 |[],_::_,b,_=>b.elim
 |_::_,[],b,_=>b.elim
 |[m],[e],b,ht=>by
  simp at ht;refine⟨PE.imp (P7 b.1.2.1) λσ H Q q=>?_,PW.imp (qcE (b.1.2.2 ht)) λσ H Q q=>?_⟩
  ·simpa only[Ys] using q
  ·have:Ys Pm (run Pm n) [m]=ya Pm (run Pm n) m:=by funext σ h;simp only[Ys]
   rw[this] at q;exact q
 |[m],_::_::_,b,_=>b.2.elim
 |_::_::_,[_],b,_=>b.2.elim
 |m::m'::ms,e::e'::es,b,ht=>by
  have Bk:jB m=true/\(m'::ms).all jB=true:=by simpa using ht
  obtain⟨i1,i2⟩:=Ls (ms:=m'::ms) (es:=e'::es) (pos:=pos) b.2 Bk.2;refine⟨PE.imp (yc3 b.1.2.1 i1) λσ H Q q=>?_,PW.imp (Zda (b.1.2.2 Bk.1) i2) λσ H Q q=>?_⟩
  ·obtain⟨μ,h,σs,rel,aG,ra,p⟩:=q;simp only[Ys] at p;refine lE.mk rel aG ra p λx v μ1 h1 H1 ex ar aQ rv p1=>?_;obtain⟨k,ek,p2⟩:=Po.opt p1;have:=Em ek;subst this;refine⟨k,tL rv,?_⟩;cases k with
   |true=>exact⟨μ1,h1,σs,ar,aQ,ra,p2⟩
   |false=>exact p2.now ar _ (YE _)
  ·obtain⟨μ,h,σs,rel,aG,ra,p⟩:=q;have p':Po ct E ((fM (ya Pm (run Pm n) m) σs h).bind λk h1=>if k=true then fM (Ys Pm (run Pm n) (m'::ms)) σs h1 else .ok false h1) μ h H (λb _ _ H'=>Q b H'):=by
    simp only[fM,Ys] at p ⊢;cases er:ya Pm (run Pm n) m σs h with
    |stuck=>rw[er] at p;exact p
    |exc c h'=>rw[er] at p;exact p
    |ok x h' =>
     rw[er] at p;simp only[R.ay] at p ⊢;cases eb:yG x with
     |none=>rw[eb] at p;exact p
     |some k =>
      rw[eb] at p;cases k with
      |true=>exact p
      |false=>exact p
   refine lT.mk rel aG ra p' λk μ1 h1 H1 ex ar aQ p1=>?_;cases k with
   |true=>exact⟨μ1,h1,σs,ar,aQ,ra,p1⟩
   |false=>exact p1.now ar
theorem BU :∀{ms:List ME}{es:List Expr},Bo ct X Ra E Pm n ms es->ms.all jB=true->PE X (.BoolOp .Or es pos) (lE ct Ra E (YA Pm (run Pm n) ms))/\PW X (.BoolOp .Or es pos) (lT ct Ra E (fM (YA Pm (run Pm n) ms)))
 |[],[],_,_=>⟨λpins s σ H Q I q=>by
   obtain⟨μ,h,σs,rel,aG,ra,p⟩:=q;simp only[YA] at p;exact p.elim,λwh pins s σ H Q I q=>by
   obtain⟨μ,h,σs,rel,aG,ra,p⟩:=q;simp only[fM,YA] at p;exact p.elim⟩
 |[],_::_,b,_=>b.elim
 |_::_,[],b,_=>b.elim
 |[m],[e],b,ht=>by
  simp at ht;refine⟨PE.imp (P7 b.1.2.1) λσ H Q q=>?_,PW.imp (Zc2 (b.1.2.2 ht)) λσ H Q q=>?_⟩
  ·simpa only[YA] using q
  ·have:YA Pm (run Pm n) [m]=ya Pm (run Pm n) m:=by funext σ h;simp only[YA]
   rw[this] at q;exact q
 |[m],_::_::_,b,_=>b.2.elim
 |_::_::_,[_],b,_=>b.2.elim
 |m::m'::ms,e::e'::es,b,ht=>by
  have Bk:jB m=true/\(m'::ms).all jB=true:=by simpa using ht
  obtain⟨i1,i2⟩:=BU (ms:=m'::ms) (es:=e'::es) (pos:=pos) b.2 Bk.2;refine⟨PE.imp (Aj b.1.2.1 i1) λσ H Q q=>?_,PW.imp (Ac (b.1.2.2 Bk.1) i2) λσ H Q q=>?_⟩
  ·obtain⟨μ,h,σs,rel,aG,ra,p⟩:=q;simp only[YA] at p;refine lE.mk rel aG ra p λx v μ1 h1 H1 ex ar aQ rv p1=>?_;obtain⟨k,ek,p2⟩:=Po.opt p1;have:=Em ek;subst this;refine⟨k,tL rv,?_⟩;cases k with
   |false=>exact⟨μ1,h1,σs,ar,aQ,ra,p2⟩
   |true=>exact p2.now ar _ (YE _)
  ·obtain⟨μ,h,σs,rel,aG,ra,p⟩:=q;have p':Po ct E ((fM (ya Pm (run Pm n) m) σs h).bind λk h1=>if k=true then .ok true h1 else fM (YA Pm (run Pm n) (m'::ms)) σs h1) μ h H (λb _ _ H'=>Q b H'):=by
    simp only[fM,YA] at p ⊢;cases er:ya Pm (run Pm n) m σs h with
    |stuck=>rw[er] at p;exact p
    |exc c h'=>rw[er] at p;exact p
    |ok x h' =>
     rw[er] at p;simp only[R.ay] at p ⊢;cases eb:yG x with
     |none=>rw[eb] at p;exact p
     |some k =>
      rw[eb] at p;cases k with
      |true=>exact p
      |false=>exact p
   refine lT.mk rel aG ra p' λk μ1 h1 H1 ex ar aQ p1=>?_;cases k with
   |false=>exact⟨μ1,h1,σs,ar,aQ,ra,p1⟩
   |true=>exact p1.now ar
section
variable {ea:aF->MH->R MV} {es:List Expr} {ev:aF->MH->R (List MV)} {a:Expr} {pos:Pos}
theorem BR  (ha:PA X es (lA ct Ra E ev))(hl:∀ σ h xs h',ev σ h=.ok xs h'->xs.length<=sizeLine):PE X (.Tuple es k pos) (lE ct Ra E λσ h=>(ev σ h).bind λxs h1=>.ok (yg xs) h1):=PE.imp (zcV ha) λσ H Q q=>by
 obtain⟨μ,h,σs,rel,aG,ra,p⟩:=q;refine⟨μ,h,σs,rel,aG,ra,?_⟩;dsimp only at p;cases er:ev σs h with
 |stuck=>rw[er] at p;exact p
 |exc c h'=>rw[er] at p;exact p
 |ok xs h' =>
  rw[er] at p;intro μ1 H1 ex ar vs dP;exact⟨by rw[dP.length];exact hl _ _ _ _ er,u6 ar dP (Po.start ex p)⟩
theorem BY(fz)(ha:PA X es (lA ct Ra E ev))(hl:∀ σ h xs h',ev σ h=.ok xs h'->xs.length<=sizeLine):PE X (.List es pos) (lE ct Ra E λσ h=>(ev σ h).bind λxs h1=>Qr fz xs h1):=PE.imp (QcZ ha) λσ H Q q=>by
 obtain⟨μ,h,σs,rel,aG,ra,p⟩:=q;refine⟨μ,h,σs,rel,aG,ra,?_⟩;dsimp only at p;cases er:ev σs h with
 |stuck=>rw[er] at p;exact p
 |exc c h'=>rw[er] at p;exact p
 |ok xs h' =>
  rw[er] at p;intro μ1 H1 ex ar vs dP;exact⟨by rw[dP.length];exact hl _ _ _ _ er,ZC ar dP (Po.start ex p)⟩
theorem PO.imp   (p:PO X e t)(k:∀ σ H Q,t' σ H Q->t σ H Q):PO X e t':=λpins s σ H Q I h=>p pins s σ H Q I (k σ H Q h)
theorem qcr(hK:X.K=ct.K)(fz:Bool){lo hi:Option Expr}{el eh:aF->MH->R (Option Int)}{p2:Pos}(ha:PE X a (lE ct Ra E ea))(hl:PO X lo (lO ct Ra E el))(hh:PO X hi (lO ct Ra E eh)) :
  PE X (.Subscript a (.Slice lo hi none p2) pos) (lE ct Ra E λσ h=>(ea σ h).bind λx h1=>(el σ h1).bind λl h2=>(eh σ h2).bind λu h3=>yA fz x l u h3) :=
 PE.imp (Qb2 (Zcu (ct:=ct) (E:=E) hK fz) ha hl hh) λσ H Q q=>by
  obtain⟨μ,h,σs,rel,aG,ra,p⟩:=q;refine lE.mk rel aG ra p λm v μ1 h1 H1 ex ar aQ rv p1=>?_;refine lO.mk ar aQ ra p1 λl μ2 h2 H2 dJ aU dD p2=>?_;refine lO.mk aU dD ra p2 λu μ3 h3 H3 gF eK nr p3=>?_;exact⟨μ3,h3,m,eK,(rv.ext dJ).ext gF,p3⟩
theorem K1   :∀{ns:List String}{xs:List FV}{fs:List (Str×V)} {x:FV},fs.map ut=ns.map jj->fy ct L H xs (fs.map wo)->sT f ns xs=some x->∃ v,fs.lookup (jj f)=some v/\RF ct L H x v
 |[],_,_,_,_,_,e=>by simp[sT] at e
 |_::_,[],_,_,_,_,e=>by simp[sT] at e
 |m::ns,y::xs,fs,x,h1,h2,e=>by
  cases fs with
  |nil=>simp at h1
  |cons p fs =>
   obtain⟨k,u⟩:=p;simp only[xb,Jm.injEq] at h1;simp only[xb,fy] at h2;obtain⟨v,r,Bh,r1,r2⟩:=h2;simp only[Jm.injEq] at Bh;obtain⟨rfl,rfl⟩:=Bh;simp only[sT] at e;by_cases hf:f=m
   ·subst hf;simp at e;subst e;exact⟨u,by simp[vb,h1.1],r1⟩
   ·rw[if_neg hf] at e;obtain⟨w,q1,q2⟩:=K1 h1.2 r2 e;refine⟨w,?_,q2⟩;have:(jj f==k)=false:=by
     rw[h1.1];exact beq_false_of_ne λz=>hf (yC z)
    simp[vb,this,q1]
theorem KY    :∀{fs:List (String×MV)} {gs:List (Str×V)} {m:MV},gs.map ut=fs.map (λp=>jj p.1)->aw ct μ L H (fs.map wo) (gs.map wo)->fs.lookup f=some m->∃ v,gs.lookup (jj f)=some v/\RV ct μ L H m v
 |[],_,_,_,_,e=>by simp at e
 |(k,y)::fs,gs,m,h1,h2,e=>by
  cases gs with
  |nil=>simp at h1
  |cons p gs =>
   obtain⟨k',u⟩:=p;simp only[xb,Jm.injEq] at h1;simp only[xb,aw] at h2;obtain⟨v,r,Bh,r1,r2⟩:=h2;simp only[Jm.injEq] at Bh;obtain⟨rfl,rfl⟩:=Bh;by_cases hf:f=k
   ·subst hf;simp[vb] at e;subst e;exact⟨u,by simp[vb,h1.1],r1⟩
   ·have hb:(f==k)=false:=beq_false_of_ne hf;simp[vb,hb] at e;obtain⟨w,q1,q2⟩:=KY h1.2 r2 e;refine⟨w,?_,q2⟩;have:(jj f==k')=false:=by
     rw[h1.1];exact beq_false_of_ne λz=>hf (yC z)
    simp[vb,this,q1]
theorem Rel.obj{μ:List ae}{h:MH}{H:Hp}(rel:Rel ct μ h H){i:Nat}{c:String}{fs:List (String×MV)}(e:h[i]?=some (.obj c fs)):∃ b dx gs,μ[i]?=some b/\H b=some (.ins (ct c) dx gs)/\gs.map ut=fs.map (λp=>jj p.1)/\aw ct μ (aZ μ h) H (fs.map wo) (gs.map wo):=by
 have hi:i<μ.length:=by rw[rel.len];exact(xa.mp e).1
 obtain⟨dx,gs,q1,q2,q3⟩:=rel.cells i μ[i] _ (by simp[hi]) e;exact⟨_,dx,gs,by simp[hi],q1,q2,q3⟩
set_option tactic.hygienic true in
theorem B5{f:String}(T:Txt X.prog X.w X.K X.mg X.base Pm ct n)(ha:PE X a (lE ct Ra E ea))(hn:yj a=true):PE X (.Attribute a (jj f) pos) (lE ct Ra E λσ h=>(ea σ h).bind λx h1=>opt (mM Pm.iZ f x h1) λv=>.ok v h1) :=
 PE.imp (A4 X.K ha (qF hn)) λσ H Q q=>by
  obtain(⟨μ,h,σs,rel,aG,ra,p⟩):=q;refine lE.mk rel aG ra p λm v μ1 h1 H1 ex ar aQ rv p1=>?_;obtain(⟨w,e,p2⟩):=Po.opt p1;unfold mM at e;split at e
  next c ns xs =>
   split at e
   next ok =>
    simp only[Wd] at e;obtain(⟨x,e1,rfl⟩):=e;simp only[RV,RF] at rv;obtain(⟨b,dx,fs,rfl,nl,hb,q1,q2⟩):=rv;obtain(⟨u,e2,ru⟩):=K1 q1 q2 e1;obtain(⟨t1,t2⟩):=T.iZ c f ok;exact⟨b,ct c,dx,fs,u,rfl,hb,t1,t2,e2,p2.now ar u (by simp only[RV];exact ru)⟩
   next=>cases e
  next i =>
   split at e
   next c fs ec =>
    split at e
    next ok =>
     simp only[RV] at rv;obtain(⟨b,eb,rfl⟩):=rv;obtain(⟨b',dx,gs,i8,hb,q1,q2⟩):=ar.obj ec;rw[eb] at i8;cases i8;obtain(⟨u,e2,ru⟩):=KY q1 q2 e;obtain(⟨t1,t2⟩):=T.iZ c f ok;exact⟨b,ct c,dx,gs,u,rfl,hb,t1,t2,e2,p2.now ar u ru⟩
    next=>cases e
   next=>cases e
  next=>cases e
end
end
section
variable {ct:Tx} {X:Cx} {E:XK} {Pm:Prog} {n:Nat} {Ra:L2.St->Prop} {N:List Str} {sc:az}
section
variable {ea:aF->MH->R MV} {v:Expr} {es:List Expr} {ev:aF->MH->R (List MV)} {a:Expr} {p pos:Pos}
theorem qc1   (c:Cc X Pm ct n Ra E N sc)(hd:Pm.defs f=some d)(eL:f.toList.contains '.'=false)(hg:gl sc (jj f)=true)(ha:PA X (v::es) (lA ct Ra E ev))(bZ:∀ e∈v::es,qa e=true) :
  PE X (.Call (.Name (jj f) p) (v::es) [] pos) (lE ct Ra E λσ h=>(ev σ h).bind λxs h1=>run Pm n f xs h1):=by
 obtain⟨g1,g2,g3⟩:=QH c.sc hg;obtain⟨ps,D⟩:=c.txt.defs f d hd eL;intro pins s σ H Q I q;obtain⟨μ,h,σs,rel,aG,ra,p⟩:=q;refine qbP (σ0:=σ) D (c.room.mono (by lia)) g1 (c.Dm σ ra) ha g2 (Yh (bZ v (by simp))) (yw λe he=>bZ e (by simp[he])) pins s σ H Q I ⟨rfl,?_⟩;refine lA.mk rel aG ra p λms vs μ1 h1 H1 ex ar aQ dP p1=>?_;exact⟨μ1,h1,ms,ar,by simpa using dP,p1⟩
theorem Zc4(fz)  (c:Cc X Pm ct n Ra E N sc)(hi:Pm.meths cn "__init__"=some f)(hg:gl sc (jj cn)=true)(ha:PA X (v::es) (lA ct Ra E ev))(bZ:∀ e∈v::es,qa e=true) :
  PE X (.Call (.Name (jj cn) p) (v::es) [] pos) (lE ct Ra E λσ h=>(ev σ h).bind λxs h1=>qJ Pm (run Pm n) fz cn xs h1):=by
 obtain⟨g1,g2,g3⟩:=QH c.sc hg;obtain⟨ps,D⟩:=c.txt.mB cn f hi;intro pins s σ H Q I q;obtain⟨μ,h,σs,rel,aG,ra,p⟩:=q;refine YbM (σ0:=σ) D c.room g1 (c.Dm σ ra) ha g2 (Yh (bZ v (by simp))) (yw λe he=>bZ e (by simp[he])) pins s σ H Q I ⟨rfl,?_⟩;refine lA.mk rel aG ra p λms vs μ1 h1 H1 ex ar aQ dP p1=>?_;intro x dx hx Bw jV;have kK:upd H1 dx (.own x) x=none:=by rw[qc (Jd jV)];exact hx
 have ig:=Ext.new ar Bw (.own x);have aU:=ar.new Bw (.own x);have dJ:=Ext.cell aU kK (.obj cn []) (.ins (ct cn) dx []);have eK:Rel ct (μ1++[x]) (h1++[.obj cn []]) (upd (upd H1 dx (.own x)) x (.ins (ct cn) dx [])):=aU.cell kK ⟨dx,[],qd,rfl,aw.nil⟩;have gF:=ig.trans dJ;refine⟨μ1++[x],h1++[.obj cn []],.ref h1.length::ms,eK,aw.cons ?_ (by simpa using dP.ext gF),?_⟩
 ·simp only[RV];exact⟨x,by rw[<- ar.len];simp,rfl⟩
 ·unfold qJ at p1;rw[hi] at p1;dsimp only at p1;cases er:run Pm n f (.ref h1.length::ms) (h1++[.obj cn []]) with
  |stuck=>rw[er] at p1;exact p1.elim
  |exc c h2=>rw[er] at p1;exactλμ2 H2 lx kU=>p1 μ2 H2 (gF.trans lx) kU
  |ok m h2 =>
   rw[er] at p1;simp only[R.ay] at p1;intro μ2 H2 lx kU u ru;have sj:Yy m=true:=by
    cases em:Yy m with
    |true=>rfl
    |false=>rw[em] at p1;simp only[if_true] at p1;exact p1.elim
   rw[sj] at p1;simp only[WG,if_false] at p1;rw[N7 ru] at sj;refine⟨of_decide_eq_true sj,?_⟩;have ext:=gF.trans lx;obtain⟨ν,eν⟩:=lx.pre;rw[uh] at eν;subst eν;have Bg:(μ1++([x]++ν))[h1.length]?=some x:=by rw[<- ar.len];simp
   cases fz with
   |false=>exact p1 _ H2 ext kU _ (by simp only[RV];exact⟨x,Bg,rfl⟩)
   |true =>
    dsimp only at p1;split at p1
    next c' fs ec =>
     obtain⟨ys,ey,p4⟩:=Po.opt p1;split at p4
     next t =>
      obtain⟨b,IA,gs,eb,hb,q1,q2⟩:=kU.obj ec;rw[Bg] at eb;cases eb;have nx:x∉μ1:=ar.fresh hx;refine p4 μ1 H2 (Ext.cut ar.len ext) (ar.cut t kU) (.ref x) ?_;simp only[RV,RF];refine⟨x,IA,gs,rfl,λl=>?_,hb,?_,?_⟩
      ·obtain⟨i,_,e1,_,_⟩:=l;exact nx (ue e1)
      ·rw[q1,Ue];rfl
      ·exact fy.to ⟨λ_ _ e _=>e,λb _ _ nl l=>nl (aZ.cut ar.len l)⟩ (aw.toF ey q2)
     next=>exact p4.elim
    next=>exact p1.elim
theorem uP(fz:Bool){id:String}(c:Cc X Pm ct n Ra E N sc)(hx:id∈eD)(hg:gl sc (jj id)=true)(hb:bB (jj id)=some (.builtin id))(hr:aH X (.builtin id) (rB ct E fz id))(ha:PA X (v::es) (lA ct Ra E ev))(bZ:∀ e∈v::es,qa e=true) :
  PE X (.Call (.Name (jj id) p) (v::es) [] pos) (lE ct Ra E λσ h=>(ev σ h).bind λxs h1=>zq fz id xs h1):=by
 obtain⟨g1,g2,g3⟩:=QH c.sc hg;have hm:=c.txt.iq id (by simp[hx]);refine PE.imp (Fb hr g1 hm hb ha g3 g2 (Yh (bZ v (by simp))) (yw λe he=>bZ e (by simp[he]))) λσ H Q q=>?_;obtain⟨μ,h,σs,rel,aG,ra,p⟩:=q;exact lA.mk rel aG ra p λms vs μ1 h1 H1 ex ar aQ dP p1=>⟨μ1,h1,ms,ar,dP,p1⟩
theorem Lk(fz:Bool){id:String}(c:Cc X Pm ct n Ra E N sc)(hx:id∈dH)(hg:gl sc (jj id)=true)(hb:bB (jj id)=some (.type id))(hr:aH X (.type id) (rB ct E fz id))(ha:PA X (v::es) (lA ct Ra E ev))(bZ:∀ e∈v::es,qa e=true) :
  PE X (.Call (.Name (jj id) p) (v::es) [] pos) (lE ct Ra E λσ h=>(ev σ h).bind λxs h1=>zq fz id xs h1):=by
 obtain⟨g1,g2,g3⟩:=QH c.sc hg;have hm:=c.txt.iq id (by simp[hx]);refine PE.imp (E2 hr g1 hm hb ha g3 g2 (Yh (bZ v (by simp))) (yw λe he=>bZ e (by simp[he]))) λσ H Q q=>?_;obtain⟨μ,h,σs,rel,aG,ra,p⟩:=q;exact lA.mk rel aG ra p λms vs μ1 h1 H1 ex ar aQ dP p1=>⟨μ1,h1,ms,ar,dP,p1⟩
theorem B7(fz:Bool){id:String}(c:Cc X Pm ct n Ra E N sc)(hx:id∈eD\/id∈dH)(hg:gl sc (jj id)=true)(ha:PA X (v::es) (lA ct Ra E ev))(bZ:∀ e∈v::es,qa e=true) :
  PE X (.Call (.Name (jj id) p) (v::es) [] pos) (lE ct Ra E λσ h=>(ev σ h).bind λxs h1=>zq fz id xs h1):=by
 rcases hx with hx|hx
 ·have kK:=hx;simp only[eD,Xa,Vc,or_false] at kK
  rcases kK with rfl|rfl|rfl|rfl|rfl|rfl
  ·exact uP fz c hx hg (by decide +kernel) (zcZ c.hK fz) ha bZ
  ·exact uP fz c hx hg (by decide +kernel) (qc9 c.hK fz c.calm) ha bZ
  ·exact uP fz c hx hg (by decide +kernel) (yda c.hK fz c.calm) ha bZ
  ·exact uP fz c hx hg (by decide +kernel) (zc4 c.hK fz c.calm) ha bZ
  ·exact uP fz c hx hg (by decide +kernel) (Zc3 c.hK fz c.calm) ha bZ
  ·exact uP fz c hx hg (by decide +kernel) (ycS fz) ha bZ
 ·have kK:=hx;simp only[dH,Xa,Vc,or_false] at kK
  rcases kK with rfl|rfl
  ·exact Lk fz c hx hg (by decide +kernel) (qb0 c.hK fz) ha bZ
  ·exact Lk fz c hx hg (by decide +kernel) (QcA c.hK fz) ha bZ
theorem Qco  (h:t∈a9):bB (jj t)=some (.type t):=by
 simp only[a9,Xa,Vc,or_false] at h
 rcases h with rfl|rfl|rfl|rfl|rfl|rfl <;> decide +kernel
end
end
noncomputable def bb(T U:String):Bool:=decide (U=T)||(decide (T="bool")&&decide (U="int"))
theorem qcU{K:Jc}{T U:String}(h:T∈["NoneType","bool","int","str","list","tuple"])(h':U∈a9):uf K (.type T) (.type U)=some (bb T U):=by
 simp only[a9,Xa,Vc,or_false] at h h'
 rcases h with rfl|rfl|rfl|rfl|rfl|rfl <;> rcases h' with rfl|rfl|rfl|rfl|rfl|rfl <;> rfl
section
variable {ct:Tx} {X:Cx} {E:XK} {Pm:Prog} {n:Nat} {Ra:L2.St->Prop} {N:List Str} {sc:az}
noncomputable def YS(h:MH):MV->Option String
 |.f .bG=>some "NoneType"
 |.f (.bl _)=>some "bool"
 |.f (.int _)=>some "int"
 |.f (.str _)=>some "str"
 |.f (.tup _)=>some "tuple"
 |.f (.lst _)=>some "list"
 |.tup _=>some "tuple"
 |.ref a=>match h[a]? with
  |some (.lst _)=>some "list"
  |_=>none
 |_=>none
theorem KO    (e:YS h m=some T):T∈["NoneType","bool","int","str","list","tuple"]:=by
 unfold YS at e;split at e
 all_goals first|(cases e;simp;done)|skip
 ·split at e
  next=>cases e;simp
  next=>cases e
 ·cases e
set_option tactic.hygienic true in
theorem QcJ{K:Jc}{μ:List ae}{h:MH}{H:Hp}{m:MV}{v:V}{T:String}(rel:Rel ct μ h H)(e:YS h m=some T)(r:RV ct μ (aZ μ h) H m v):gY K H v (.type T):=by
 unfold YS at e;split at e
 next=>cases e;simp only[RV,RF] at r;subst r;exact .bG
 next=>cases e;simp only[RV,RF] at r;subst r;exact .bl _
 next=>cases e;simp only[RV,RF] at r;subst r;exact .int _
 next=>cases e;simp only[RV,RF] at r;subst r;exact .str _
 next=>cases e;simp only[RV,RF] at r;obtain(⟨_,_,rfl,_,hb,_⟩):=r;exact .tup hb
 next =>
  cases e;simp only[RV,RF] at r;obtain(⟨_,_,rfl,_,hb,_⟩):=r
  rcases hb with hb|⟨o,hb⟩
  ·exact .lst hb
  ·exact .eQ hb
 next=>cases e;simp only[RV] at r;obtain(⟨_,_,rfl,_,hb,_⟩):=r;exact .tup hb
 next i =>
  split at e
  next xs q =>
   cases e;simp only[RV] at r;obtain(⟨b,eb,rfl⟩):=r;obtain(⟨b',vs,i8,hb,_⟩):=rel.lst (show Qc h i=some xs by unfold Qc;rw[q]);rw[eb] at i8;cases i8;exact .lst hb
  next=>cases e
 next=>cases e
set_option tactic.hygienic true in
theorem Zcy      (e:YS h m=some T)(q:yT subs h m t=some b)(hn:t≠"NoneType"):b=bb T t:=by
 unfold YS at e;split at e
 next=>cases e;cases q;simp[bb,hn]
 next=>cases e;cases q;simp[bb]
 next=>cases e;cases q;simp[bb]
 next=>cases e;cases q;simp[bb]
 next=>cases e;cases q;simp[bb]
 next=>cases e;cases q;simp[bb]
 next=>cases e;cases q;simp[bb]
 next i =>
  split at e
  next xs w =>
   cases e;simp only[yT,w,gb.injEq] at q;rw[<- q];simp[bb]
  next=>cases e
 next=>cases e
set_option tactic.hygienic true in
theorem Qc3        (T:Txt X.prog X.w X.K X.mg X.base Pm ct n)(rel:Rel ct μ h H)(r:RV ct μ (aZ μ h) H m v)(q:yT Pm.subs h m t=some b)(ht:a9.contains t=true\/(Pm.subs t t).isSome=true) :
  ∃ tv,gY X.K H v tv/\uf X.K tv (if a9.contains t=true then .type t else .ref (ct t))=some b:=by
 cases ek:YS h m with
 |some Tn =>
  refine⟨.type Tn,QcJ rel ek r,?_⟩;by_cases hb:a9.contains t=true
  ·rw[if_pos hb];have hm:t∈a9:=by simpa using hb
   have hn:t≠"NoneType":=by
    rintro rfl;simp[a9] at hm
   rw[Zcy ek q hn];exact qcU (KO ek) hm
  ·rw[if_neg hb];have kN:a9.contains t=false:=by simpa using hb
   obtain⟨b0,e0⟩:=xn.mp (ht.resolve_left hb);have hk:=T.C3 t t b0 e0 kN Tn (KO ek);rw[hk];have hm:t∉a9:=by simpa using kN
   simp only[a9,Xa,Vc,or_false,not_or] at hm;unfold YS at ek;split at ek
   next=>cases ek;cases q;rfl
   next=>cases ek;cases q;simp[hm]
   next=>cases ek;cases q;simp[hm]
   next=>cases ek;cases q;simp[hm]
   next=>cases ek;cases q;simp[hm]
   next=>cases ek;cases q;simp[hm]
   next=>cases ek;cases q;simp[hm]
   next i =>
    split at ek
    next xs w =>
     simp only[yT,w,gb.injEq] at q;rw[<- q];simp[hm]
    next=>cases ek
   next=>cases ek
 |none =>
  have obj:∃ c a dx fs,v=.ref a/\H a=some (.ins (ct c) dx fs)/\Pm.subs c t=some b:=by
   cases m with
   |f x =>
    cases x with
    |obj c ns vs =>
     simp only[RV,RF] at r;obtain⟨a,dx,fs,rfl,_,hb,_⟩:=r;exact⟨c,a,dx,fs,rfl,hb,q⟩
    |bP _=>cases q
    |tab _=>cases q
    |cY _=>cases q
    |_=>simp[YS] at ek
   |tup _=>simp[YS] at ek
   |exc _=>cases q
   |ref i =>
    simp only[yT] at q;split at q
    next xs w=>simp[YS,w] at ek
    next c fs w =>
     obtain⟨a,dx,gs,ea,hb,_⟩:=rel.obj w;simp only[RV] at r;obtain⟨a',NY,rfl⟩:=r;rw[ea] at NY;cases NY;exact⟨c,a,dx,gs,rfl,hb,q⟩
    next=>cases q
  obtain⟨c,a,dx,fs,rfl,hb,q⟩:=obj;have C:=T.cls c t b q;refine⟨.ref (ct c),.ins hb C.cl C.ha C.hn C.tk C.hm,?_⟩;by_cases hb:a9.contains t=true
  ·rw[if_pos hb];exact T.oy c t b q hb
  ·rw[if_neg hb];exact(T.nj c t b q (by simpa using hb)).2
section
variable {ea:aF->MH->R MV} {v:Expr} {es:List Expr} {ev:aF->MH->R (List MV)} {a:Expr} {p p2 pos:Pos}
theorem B0  (c:Cc X Pm ct n Ra E N sc)(ht:a9.contains t=true\/(Pm.subs t t).isSome=true)(hg:gl sc "isinstance"=true)(hgt:gl sc (jj t)=true)(ha:PE X a (lE ct Ra E ea))(hp:qa a=true) :
  PE X (.Call (.Name "isinstance" p) [a,.Name (jj t) p2] [] pos) (lE ct Ra E λσ h=>(ea σ h).bind λx h1=>opt (yT Pm.subs h1 x t) λk=>.ok (.f (.bl k)) h1):=by
 obtain⟨g1,g2,g3⟩:=QH c.sc hg;obtain⟨k1,k2,k3⟩:=QH c.sc hgt;have hm:X.mg "isinstance"=none:=c.txt.iq "isinstance" (by simp);have tyE:∃ cv,sO cv=some (if a9.contains t=true then .type t else .ref (ct t))/\PE X (.Name (jj t) p2) (tC cv):=by
  by_cases hb:a9.contains t=true
  ·rw[if_pos hb];have DQ:t∈a9:=by simpa using hb
   exact⟨.ty t,rfl,Ycr (v:=.ty t) k1 (c.txt.iq t (by simp[DQ])) (Qco DQ) rfl k3 k2⟩
  ·rw[if_neg hb];obtain⟨b0,e0⟩:=xn.mp (ht.resolve_left hb);exact⟨.ref (ct t),rfl,GH (v:=.ref (ct t)) k1 (c.txt.nj t t b0 e0 (by simpa using hb)).1 rfl k2⟩
 obtain⟨cv,ecv,pe⟩:=tyE;refine PE.imp (Fb (A3 X.K) g1 hm boot_isinstance (qU ha (qU pe Aa (by rfl)) (Yh hp)) g3 g2 (Yh hp) (by rfl)) λσ H Q q=>?_;obtain⟨μ,h,σs,rel,aG,ra,p⟩:=q;refine lE.mk rel aG ra p λm w μ1 h1 H1 ex ar aQ rv p1=>?_;obtain⟨k,e,p2⟩:=Po.opt p1;obtain⟨tv,ty,kit⟩:=Qc3 c.txt ar rv e ht;exact⟨w,cv,tv,_,k,rfl,ecv,ty,kit,p2.now ar _ (YE _)⟩
theorem QcY{K:Jc}{mo:MV}{xs:List MV}{μ:List ae}{h:MH}{H:Hp}{x:V}(rel:Rel ct μ h H)(r:RV ct μ (aZ μ h) H mo x)(e:Dz mo h=some xs):Fm K "list" x H:=by
 cases mo with
 |ref i =>
  obtain⟨b,vs,e1,e2,q⟩:=rel.lst (show Qc h i=some xs from e);simp only[RV] at r;obtain⟨b',e3,rfl⟩:=r;rw[e1] at e3;cases e3;exact .inl ⟨rfl,vs,fK.of e2⟩
 |f _=>cases e
 |tup _=>cases e
 |exc _=>cases e
theorem Gx    (h : ∀ e∈es, qa e=true)(hl : es.length<30) : ((bf cp (ao es env)).all (λx => !x.1)&&(dt cp (bH [] env)).all (λx => x.1.isSome)
   && decide (es.length+([]:List cP).length+(if([]:List cP).isEmpty then 0 else 1)<30))=true:=by
 rw[Zh h];have h1:(bf cp (es.map λe=>(false,eval e env))).all (λx=>!x.1)=true:=by
  unfold bf;rw[Ue,List.all_map]
  induction es with
  |nil=>rfl
  |cons e es ih=>simp[vE]
 rw[h1];simp[bH,dt];exact hl
theorem Lu{m id:String}{ap cp:Pos}(slot:Slot "list" (jj m) id)(G3:typeOf (.builtin id)=pure (.type "method_descriptor"))(hr:pE X id (F3 ct E m))(ho:PE X a (lE ct Ra E ea))(hn:yj a=true)(ha:PA X (v::es) (lA ct Ra E ev))(bZ:∀ e∈v::es,qa e=true)
  (hl:(v::es).length<30) (dR:(ap.endLine==cp.line)=true):PE X (.Call (.Attribute a (jj m) ap) (v::es) [] cp) (lE ct Ra E λσ h=>(ea σ h).bind λx h1=>opt (Dz x h1) λ_=>(ev σ h1).bind λxs h2=>mz m x xs h2) :=
 PE.imp (Am PySem.F.plainAttrs_list slot G3 hr ho ha (qF hn) (Gx bZ hl) dR (Yh (bZ v (by simp))) (yw λe he=>bZ e (by simp[he]))) λσ H Q q=>by
  obtain⟨μ,h,σs,rel,aG,ra,p⟩:=q;refine lE.mk rel aG ra p λm' w μ1 h1 H1 ex ar aQ rv p1=>?_;obtain⟨xs,ig,p2⟩:=Po.opt p1;refine⟨QcY ar rv ig,?_⟩;exact lA.mk ar aQ ra p2 λms vs μ2 h2 H2 dJ aU dD dP p3=>⟨μ2,h2,m',ms,aU,rv.ext dJ,dP,p3⟩
set_option tactic.hygienic true in
theorem Y6{h:MH}{v:MV}{ks:List Int}(e:YZ h v=some ks):∃ i,v=.ref i/\h[i]?=some (.fI ks):=by
 cases v with
 |ref i =>
  simp only[YZ] at e;split at e
  next iW w=>cases e;exact⟨i,rfl,w⟩
  next=>cases e
 |f _=>cases e
 |tup _=>cases e
 |exc _=>cases e
noncomputable abbrev nH(ks:List Int):List (Key×V):=ks.map λk=>((Jb k:Key),V.bl true)
theorem E5(ks)(k):qC (nH ks) (Jb k:Key) (V.bl true)=nH (Qu ks k):=by
 unfold qC Qu nH;have e:((ks.map λk=>((Jb k:Key),V.bl true)).any λkv=>decide (kv.1=Jb k))=decide (k∈ks):=by
  rw[wG]
  induction ks with
  |nil=>rfl
  |cons a ks ih =>
   rw[vw,ih];by_cases h:a=k
   ·subst h;simp
   ·have h':¬ k=a:=λz=>h z.symm;simp[h,h']
 rw[e];by_cases h:k∈ks
 ·simp only[h,decide_true,if_true,Ue];refine XF λa _=>?_;simp only[vE];split <;> rfl
 ·simp[h]
theorem YcA{b:Expr}{eb:aF->MH->R MV}{k1 k2:Nat}(ha:PE X a (lE ct Ra E ea))(hb:PE X b (lE ct Ra E eb)) :
  PE X (.Dict [some a,some b] [.Constant (.bool true) k1 p,.Constant (.bool true) k2 p2] pos) (lE ct Ra E λσ h=>(ea σ (h++[.fI []])).bind λx h1=>(eb σ h1).bind λy h2=>gJ h.length x y h2):=by
 refine PE.imp (zcH (OY ha Dc (OY hb Dc ycF)) rfl rfl (by simp) (by simp)) λσ H Q q d hd=>?_;obtain⟨μ,h,σs,rel,aG,ra,pp⟩:=q;have D':=Ext.cell rel hd (.fI []) (.dK []);have rQ:Rel ct (μ++[d]) (h++[.fI []]) (upd H d (.dK [])):=rel.cell hd qd;refine lE.mk rQ (aG.ext D') ra (Po.start D' pp) λm w μ1 h1 H1 ig ar aQ pR p1=>?_;refine lE.mk ar aQ ra p1 λm2 w2 μ2 h2 H2 dJ aU dD jU p2=>?_;obtain⟨i,e1,p3⟩:=Po.opt p2;obtain⟨j,e2,p4⟩:=Po.opt p3;obtain⟨ks,e3,p5⟩:=Po.opt p4;split at p5
 next hk =>
  subst hk;obtain⟨i',ei,hc⟩:=Y6 e3;cases ei;have:=zf e1;subst this;have:=zf e2;subst this;have hm:μ2[h.length]?=some d:=by
   obtain⟨ν,e⟩:=ig.pre;obtain⟨ν',e'⟩:=dJ.pre;rw[e',e,<- rel.len];simp
  have hH:H2 d=some (.dK []):=aU.cells _ _ _ hm hc;refine⟨hH,[((Jb i:Key),V.bl true),((Jb j:Key),V.bl true)],?_,by simp,?_⟩
  ·rw[Zj (pR.ext dJ),Zj jU];rfl
  ·have gF:=Ext.set (H:=H2) aU hm hc (λz=>nomatch z) (.fI (Qu (Qu [] i) j)) (.dK (nH (Qu (Qu [] i) j)));have e4:tK [] [((Jb i:Key),V.bl true),((Jb j:Key),V.bl true)]=nH (Qu (Qu [] i) j):=by
    rw[<- E5,<- E5];rfl
   rw[e4];exact p5 μ2 _ gF (aU.set hm hc (λz=>nomatch z) qd) (.ref d) (by simp only[RV];exact⟨d,hm,rfl⟩)
 next=>exact p5.elim
theorem Qc8{p3 p4:Pos}(c:Cc X Pm ct n Ra E N sc)(hg:gl sc "sorted"=true)(hgl:gl sc "list"=true)(ha:PE X a (lE ct Ra E ea))(hp:qa a=true) :
  PE X (.Call (.Name "sorted" p) [.Call (.Name "list" p2) [a] [] p3] [] pos) (lE ct Ra E λσ h=>(ea σ h).bind λx h1=>j5 x h1):=by
 obtain⟨g1,g2,g3⟩:=QH c.sc hg;obtain⟨k1,k2,k3⟩:=QH c.sc hgl;have hm:X.mg "sorted"=none:=c.txt.iq "sorted" (by simp);have DQ:X.mg "list"=none:=c.txt.iq "list" (by simp[dH,a9]);refine PE.imp (Fb zbe g1 hm (by decide +kernel) (qU (E2 (Zbz c.calm) k1 DQ (by decide +kernel) (qU ha Aa (Yh hp)) k3 k2 (Yh hp) (by rfl)) Aa (by rfl)) g3 g2 (by rfl) (by rfl)) λσ H Q q=>?_;obtain⟨μ,h,σs,rel,aG,ra,pp⟩:=q;refine lE.mk rel aG ra pp λm w μ1 h1 H1 ex ar aQ rv p1=>?_;obtain⟨ks,e,p2⟩:=Po.opt p1;split at p2
 next hk =>
  obtain⟨i,rfl,hc⟩:=Y6 e;simp only[RV] at rv;obtain⟨b,eb,rfl⟩:=rv;have hH:H1 b=some (.dK (nH ks)):=ar.cells _ _ _ eb hc;refine⟨b,nH ks,rfl,hH,λl hl=>?_⟩;refine⟨l,ks,rfl,fK.of (by rw[qd,Ue];rfl),hk,λnZ pm pw l' DU=>?_⟩;have:=ycc pm pw;subst this;have dJ:=Ext.new ar hl (.lst ((nH ks).map λkv=>L2.kV kv.1));have aU:=ar.new hl (.lst ((nH ks).map λkv=>L2.kV kv.1));exact ZC (fz:=false) aU (QU _) (Po.start dJ p2) l' DU
 next=>exact p2.elim
noncomputable abbrev kP(k:Int×Int):List Key:=[Jb k.1,Jb k.2]
theorem rZ :kP k=kP l↔k=l:=by
 constructor
 ·intro h;simp only[kP,Jm.injEq,Jb.injEq,and_true] at h;exact Uz h.1 h.2
 ·rintro rfl;rfl
theorem QcQ(k l):decide (kP k=kP l)=decide (k=l):=by
 by_cases h:k=l
 ·subst h;simp
 ·have h':¬ kP k=kP l:=λz=>h (rZ.mp z);rw[decide_eq_false h,decide_eq_false h']
set_option tactic.hygienic true in
theorem Fh{μ:List ae}{L:ae->Prop}{H:Hp}{y:MV}{v:V}{k:Int×Int}(r:RV ct μ L H y v)(e:vI y=some k):∃ p,v=.ref p/\¬ L p/\H p=some (.tup ((kP k).map L2.kV)):=by
 unfold vI at e;split at e
 next a b w =>
  cases e;cases y with
  |f x =>
   cases x with
   |tup xs =>
    simp only[zk,gb.injEq] at w
    rcases xs with _|⟨x,_|⟨y,_|⟨z,zs⟩⟩⟩ <;> simp at w
    obtain⟨rfl,rfl⟩:=w;simp only[RV,RF,fy] at r;obtain⟨p,vs,rfl,n,hp,v1,r1,rfl,rfl,v2,r2,rfl,rfl,rfl⟩:=r;exact⟨p,rfl,n,hp⟩
   |_=>simp[zk] at w
  |tup xs =>
   simp only[zk,gb.injEq] at w;subst w;simp only[RV,aw,RF] at r;obtain⟨p,vs,rfl,n,hp,v1,r1,rfl,rfl,v2,r2,rfl,rfl,rfl⟩:=r;exact⟨p,rfl,n,hp⟩
  |ref _=>simp[zk] at w
  |exc _=>simp[zk] at w
 next=>cases e
theorem aw.rev   :∀{xs:List MV}{vs:List V},aw ct μ L H xs vs->aw ct μ L H xs.reverse vs.reverse
 |[],vs,r=>by simp only[aw] at r;subst r;exact aw.nil
 |x::xs,vs,r=>by
  simp only[aw] at r;obtain⟨v,t,rfl,r1,r2⟩:=r;rw[Vs,Vs];exact(aw.rev r2).append (aw.cons r1 aw.nil)
theorem Zc6(fz:Bool){st:Expr}{p2:Pos}(c:Cc X Pm ct n Ra E N sc)(hs:oQ st=true)(ha:PE X a (lE ct Ra E ea)) :
  PE X (.Subscript a (.Slice none none (some st) p2) pos) (lE ct Ra E λσ h=>(ea σ h).bind λx h1=>opt (MP.listOf h1 x) λxs=>Qr fz xs.reverse h1):=by
 have sd:∃ p3 p4 k,st=.UnaryOp .USub (.Constant (.int 1) k p3) p4:=by
  unfold oQ at hs;split at hs
  ·exact⟨_,_,_,rfl⟩
  ·cases hs
 obtain⟨p3,p4,k,rfl⟩:=sd;refine PE.imp (Qcy ha (O7 (Oa O9 N4))) λσ H Q q=>?_;obtain⟨μ,h,σs,rel,aG,ra,pp⟩:=q;refine lE.mk rel aG ra pp λm w μ1 h1 H1 ex ar aQ rv p1=>?_;obtain⟨xs,e,p2⟩:=Po.opt p1;obtain⟨b,vs,rfl,rd,rs⟩:=zu ar e rv;exact⟨1,rfl,-1,rfl,rfl,b,vs,rfl,.inl rd,λl hl=>ZC ar rs.rev p2 l hl⟩
theorem Jx :∀{ns:List String}{gs:List (Str×V)},gs.map ut=ns.map jj->m∉ns->gs.lookup (jj m)=none
 |[],[],_,_=>rfl
 |[],_::_,e,_=>by simp at e
 |_::_,[],e,_=>by simp at e
 |k::ns,(k',u)::gs,e,h=>by
  simp only[xb,Jm.injEq] at e;have:(jj m==k')=false:=by
   rw[e.1];exact beq_false_of_ne λz=>h (by have:=yC z;subst this;exact xg)
  rw[vb,this];exact Jx e.2 λz=>h (Ve _ z)
set_option tactic.hygienic true in
theorem K0{μ:List ae}{h:MH}{H:Hp}{m c:String}{x:MV}{v:V}(rel:Rel ct μ h H)(r:RV ct μ (aZ μ h) H x v)(e:nh m x h=some c):∃ b dx fs,v=.ref b/\H b=some (.ins (ct c) dx fs)/\fs.lookup (jj m)=none:=by
 unfold nh at e;split at e
 next c' ns xs =>
  split at e
  next=>cases e
  next no =>
   cases e;simp only[RV,RF] at r;obtain⟨b,dx,fs,rfl,nl,hb,q1,q2⟩:=r;exact⟨b,dx,fs,rfl,hb,Jx q1 no⟩
 next i =>
  split at e
  next c' fs ec =>
   split at e
   next=>cases e
   next no =>
    cases e;simp only[RV] at r;obtain⟨b,eb,rfl⟩:=r;obtain⟨b',dx,gs,i8,hb,q1,q2⟩:=rel.obj ec;rw[eb] at i8;cases i8;exact⟨b,dx,gs,rfl,hb,Jx (by rw[q1,Ue];rfl) no⟩
  next=>cases e
 next=>cases e
theorem Yct   (c:Cc X Pm ct n Ra E N sc)(hm:m≠"__init__")(ho:PE X a (lE ct Ra E ea))(hn:yj a=true)(ha:PA X (v::es) (lA ct Ra E ev))(bZ:∀ e∈v::es,qa e=true)
  (hl:(v::es).length<30) (dR:(ap.endLine==cp.line)=true) :
  PE X (.Call (.Attribute a (jj m) ap) (v::es) [] cp) (lE ct Ra E λσ h=>(ea σ h).bind λx h1=>opt (nh m x h1) λk=>opt (Pm.meths k m) λf=>(ev σ h1).bind λxs h2=>run Pm n f (x::xs) h2):=by
 intro pins s σ H Q I q;obtain⟨μ,h,σs,rel,aG,ra,p⟩:=q;refine yck (k:=2*n) (σ0:=σ) ho (c.room.mono (by lia)) (c.Dm σ ra) ha (Yh (bZ v (by simp))) (yw λe he=>bZ e (by simp[he])) (qF hn) (Gx bZ hl) dR pins s σ H Q I ⟨rfl,?_⟩;refine lE.mk rel aG ra p λm' w μ1 h1 H1 ex ar aQ rv p1=>?_;obtain⟨cn,ec,p2⟩:=Po.opt p1;obtain⟨f,ef,p3⟩:=Po.opt p2;obtain⟨b,dx,fs,rfl,hb,l⟩:=K0 ar rv ec;refine⟨b,ct cn,dx,fs,mr ct (run Pm n f),rfl,hb,l,c.txt.meths cn m f ef hm,?_⟩;refine lA.mk ar aQ ra p3 λms vs μ2 h2 H2 dJ aU dD dP p4=>?_;exact⟨μ2,h2,m'::ms,aU,aw.cons (rv.ext dJ) dP,p4⟩
theorem ycE   (c:Cc X Pm ct n Ra E N sc)(hm:m≠"__init__")(ho:PE X a (lE ct Ra E ea))(hn:yj a=true)(dR:(ap.endLine==cp.line)=true) :
  PE X (.Call (.Attribute a (jj m) ap) [] [] cp) (lE ct Ra E λσ h=>(ea σ h).bind λx h1=>opt (nh m x h1) λk=>opt (Pm.meths k m) λf=>(R.ok [] h1).bind λxs h2=>run Pm n f (x::xs) h2):=by
 intro pins s σ H Q I q;obtain⟨μ,h,σs,rel,aG,ra,p⟩:=q;refine qbN (k:=2*n) (σ0:=σ) ho (c.room.mono (by lia)) (c.Dm σ ra) (qF hn) dR pins s σ H Q I ⟨rfl,?_⟩;refine lE.mk rel aG ra p λm' w μ1 h1 H1 ex ar aQ rv p1=>?_;obtain⟨cn,ec,p2⟩:=Po.opt p1;obtain⟨f,ef,p3⟩:=Po.opt p2;obtain⟨b,dx,fs,rfl,hb,l⟩:=K0 ar rv ec;exact⟨b,ct cn,dx,fs,mr ct (run Pm n f),rfl,hb,l,c.txt.meths cn m f ef hm,μ1,h1,[m'],ar,aw.cons rv aw.nil,p3⟩
set_option tactic.hygienic true in
theorem ycy(fz)  (c:Cc X Pm ct n Ra E N sc)(hk:Pm.nA cn=true)(hi:Pm.meths cn "__init__"=none)(hg:gl sc (jj cn)=true) :
  PE X (.Call (.Name (jj cn) p) [] [] pos) (lE ct Ra E λσ h=>(R.ok [] h).bind λxs h1=>qJ Pm (run Pm n) fz cn xs h1):=by
 obtain⟨g1,g2,g3⟩:=QH c.sc hg;obtain⟨M,mg⟩:=c.txt.nA cn hk;refine PE.imp (YbW M g1 mg g2) λσ H Q q=>?_;obtain⟨μ,h,σs,ar,aG,ra,p1⟩:=q;intro x dx hx Bw jV;have kK:upd H dx (.own x) x=none:=by rw[qc (Jd jV)];exact hx
 have ig:=Ext.new ar Bw (.own x);have aU:=ar.new Bw (.own x);have dJ:=Ext.cell aU kK (.obj cn []) (.ins (ct cn) dx []);have eK:Rel ct (μ++[x]) (h++[.obj cn []]) (upd (upd H dx (.own x)) x (.ins (ct cn) dx [])):=aU.cell kK ⟨dx,[],qd,rfl,aw.nil⟩;have ext:=ig.trans dJ;have Bg:(μ++[x])[h.length]?=some x:=by rw[<- ar.len];simp
 have p2:Po ct E (qJ Pm (run Pm n) fz cn [] h) μ h H (λm μ' h' H'=>∀ v,RV ct μ' (aZ μ' h') H' m v->Q v H'):=p1;unfold qJ at p2;rw[hi] at p2;simp only[R.ay,ZbP,WG,if_false] at p2;cases fz with
 |false=>exact p2 _ _ ext eK _ (by simp only[RV];exact⟨x,Bg,rfl⟩)
 |true =>
  dsimp only at p2;split at p2
  next c' fs ec =>
   obtain⟨ys,ey,p4⟩:=Po.opt p2;split at p4
   next t =>
    obtain⟨b,IA,gs,eb,hb,q1,q2⟩:=eK.obj ec;rw[Bg] at eb;cases eb;have nx:x∉μ:=ar.fresh hx;refine p4 μ _ (Ext.cut ar.len ext) (ar.cut t eK) (.ref x) ?_;simp only[RV,RF];refine⟨x,IA,gs,rfl,λl=>?_,hb,?_,?_⟩
    ·obtain⟨i,_,e1,_,_⟩:=l;exact nx (ue e1)
    ·rw[q1,Ue];rfl
    ·exact fy.to ⟨λ_ _ e _=>e,λb _ _ nl l=>nl (aZ.cut ar.len l)⟩ (aw.toF ey q2)
   next=>exact p4.elim
  next=>exact p2.elim
theorem yc5   (c:Cc X Pm ct n Ra E N sc)(hv:Pm.b9 g=some (.int i))(hg:gl sc (jj g)=true):PE X (.Name (jj g) pos) (lE ct Ra E λσ h=>opt (Pm.b9 g) λv=>.ok (.f v) h):=by
 obtain⟨g1,g2,g3⟩:=QH c.sc hg;obtain⟨t,mg⟩:=c.txt.b9 g _ hv;refine PE.imp (GH (v:=.int i) g1 mg ⟨t,rfl⟩ g2) λσ H Q q=>?_;obtain⟨μ,h,σs,rel,aG,ra,p⟩:=q;simp only[hv,zc] at p;exact p.now rel _ (yq _)
theorem zcy   (c:Cc X Pm ct n Ra E N sc)(hv:Pm.b9 g=some (.str z))(hg:gl sc (jj g)=true):PE X (.Name (jj g) pos) (lE ct Ra E λσ h=>opt (Pm.b9 g) λv=>.ok (.f v) h):=by
 obtain⟨g1,g2,g3⟩:=QH c.sc hg;obtain⟨t,mg⟩:=c.txt.b9 g _ hv;refine PE.imp (GH (v:=.str z) g1 mg ⟨t,rfl⟩ g2) λσ H Q q=>?_;obtain⟨μ,h,σs,rel,aG,ra,p⟩:=q;simp only[hv,zc] at p;exact p.now rel _ (OQ _)
theorem Po.calm{α:Type}{r:R α}{μ:List ae}{h:MH}{H:Hp}{k:α->List ae->MH->Hp->Prop}(p:Po ct E (MP.calm r) μ h H k):Po ct E0 r μ h H k:=by
 cases r with
 |ok x h'=>exact p
 |exc c h'=>exact p.elim
 |stuck=>exact p.elim
theorem m6.imp{ifs:List Expr}{t t':TT}(p:m6 X ifs t)(k:∀ σ H Q,t' σ H Q->t σ H Q):m6 X ifs t':=λpins s σ H Q I h=>p pins s σ H Q I (k σ H Q h)
theorem ZbS{μ:List ae}{h:MH}{H:Hp}{σ:L2.St}{σs:aF}(bX:Nat)(js:List Nat)(r:aW ct μ h H σ σs):aW ct μ h H (stC bX js σ) (stM bX js σs):=by
 refine⟨by simp[L3.stC,MP.stM],λi m e=>?_⟩;unfold MP.stM at e;by_cases hi:i<bX
 ·rw[Xb (by simpa using hi),xo,if_pos hi] at e;cases e
 ·rw[We (by simpa using hi),xp,Wb] at e;cases ej:js[i-bX]? with
  |none=>rw[ej] at e;cases e
  |some j =>
   rw[ej] at e;simp only[vf,gb.injEq] at e;have e':σs[j]?=some (some m):=by
    cases q:σs[j]? with
    |none=>rw[q] at e;cases e
    |some z=>rw[q] at e;exact congrArg some e
   obtain⟨v,ev,rv⟩:=r.at_ j m e';refine⟨v,?_,rv⟩;unfold L3.stC;rw[We (by simpa using hi),xp,Wb,ej];simp[ev]
theorem Rj(fz:Bool){bX:Nat}{js:List Nat}{it:String}{t:Tg}{es:aF->MH->R (List MV)}{tc:aF->MH->R Bool}{te:aF->MH->R MV}(σ:L2.St)(H:Hp)(Q:VK)
  (q:lE ct Ra E (λσ h=>(es σ h).bind λxs h1=>opt (gE it xs h1) λp=>(zh p.2 (Qi t tc te) p.1 [] (MP.stM bX js σ) h1).bind λacc h3=>Qr fz acc h3) σ H Q) :
  JV (lI ct Ra E es it) bX js (lG ct t) (lT ct (λ_=>True) E0 tc) (lE ct (λ_=>True) E0 te) σ H Q:=by
 obtain⟨μ,h,σs,rel,aG,ra,p⟩:=q;refine⟨μ,h,σs,rel,aG,ra,(Po.bind p).imp λxs μ1 h1 H1 ⟨ig,ar,p1⟩=>?_⟩;obtain⟨⟨items,g⟩,e1,p2⟩:=Po.opt p1;refine⟨items,g,e1,ar,λJ wk=>?_⟩;dsimp only at p2;refine⟨λi m acc σ' H'=>∃ μ' h' σs' lB,m=items.length-i/\i<=items.length/\Ext μ1 h1 H1 μ' h' H'/\Rel ct μ' h' H'/\aW ct μ' h' H' σ' σs'/\aw ct μ' (aZ μ' h') H' lB acc /\
  Po ct E ((zh g (Qi t tc te) (items.drop i) lB σs' h').bind λacc h3=>Qr fz acc h3) μ' h' H' (kV ct Q),?_,?_⟩
 ·exact⟨items.length,μ1,h1,stM bX js σs,[],by simp,Wn _,Ext.refl _ _ _,ar,ZbS bX js (aG.ext ig),aw.nil,by simpa using p2⟩
 ·rintro i m acc σ' H' ⟨μ',h',σs',lB,rfl,lY,ex,bp,iU,oG,p3⟩;by_cases lt:i<items.length
  ·right
   have ed:items.drop i=items[i]::items.drop (i+1):=Wv lt;rw[ed] at p3;simp only[zh] at p3;split at p3
   next gd =>
    obtain⟨w1,_⟩:=wk i μ' h' H' ex bp gd.1;obtain⟨go,yl⟩:=w1 lt;refine⟨go,λx H2 y=>?_⟩;obtain⟨mx,em,dJ,aU,rx⟩:=yl x H2 y;have Iz:mx=items[i]:=by simpa[lt] using em.symm
    subst Iz;have p4:=Po.start dJ p3;unfold Qi at p4;cases eb:yr t items[i] σs' with
    |none=>rw[eb] at p4;exact p4.elim
    |some σ2s =>
     rw[eb] at p4;simp only[zc] at p4;refine⟨μ',h',σs',items[i],σ2s,aU,iU.ext dJ,rx,eb,λσ2 dD=>?_⟩;have p5:Po ct E ((MP.calm (tc σ2s h')).bind λk h2=>(if k=true then(MP.calm (te σ2s h2)).bind λy h3=>R.ok (some y,σ2s) h3 else R.ok (none,σ2s) h2).bind λp h1=>(zh g (Qi t tc te) (items.drop (i+1)) (match p.1 with|some y=>lB++[y]|none=>lB) p.2 h1).bind λacc h3=>Qr fz acc h3) μ' h' H2 (kV ct Q):=by
      cases er:MP.calm (tc σ2s h') with
      |stuck=>rw[er] at p4;exact p4
      |exc c uJ=>rw[er] at p4;exact p4
      |ok k uJ =>
       rw[er] at p4;simp only[R.ay] at p4 ⊢;cases k with
       |false=>exact p4
       |true =>
        simp only[if_true] at p4 ⊢;cases pb:MP.calm (te σ2s uJ) with
        |stuck=>rw[pb] at p4;exact p4
        |exc c h3=>rw[pb] at p4;exact p4
        |ok y h3=>rw[pb] at p4;exact p4
     refine⟨μ',h',σ2s,aU,dD,trivial,Po.calm ((Po.bind p5).imp λk μ3 h3 H3 ⟨gF,eK,p6⟩=>?_)⟩;cases k with
     |false =>
      simp only[Uk,if_false,R.ay] at p6 ⊢;exact⟨items.length-(i+1),by lia,μ3,h3,σ2s,lB,rfl,lt,(ex.trans dJ).trans gF,eK,dD.ext gF,(oG.ext dJ).ext gF,p6⟩
     |true =>
      simp only[if_true] at p6 ⊢;have p7:Po ct E ((MP.calm (te σ2s h3)).bind λy h4=>(zh g (Qi t tc te) (items.drop (i+1)) (lB++[y]) σ2s h4).bind λacc h5=>Qr fz acc h5) μ3 h3 H3 (kV ct Q):=by
       cases pb:MP.calm (te σ2s h3) with
       |stuck=>rw[pb] at p6;exact p6
       |exc c h4=>rw[pb] at p6;exact p6
       |ok y h4=>rw[pb] at p6;exact p6
      refine⟨μ3,h3,σ2s,eK,dD.ext gF,trivial,Po.calm ((Po.bind p7).imp λy μ4 h4 H4 ⟨lx,kU,p8⟩ w rw_=>?_)⟩;refine⟨by rw[oG.length];exact Xd gd.2 YJ,items.length-(i+1),by lia,μ4,h4,σ2s,lB++[y],rfl,lt,((ex.trans dJ).trans gF).trans lx,kU,(dD.ext gF).ext lx,?_,p8⟩;exact(((oG.ext dJ).ext gF).ext lx).append (aw.cons rw_ aw.nil)
   next=>exact p3.elim
  ·left
   have Bt:i=items.length:=by lia
   subst Bt;rw[xI] at p3;simp only[zh] at p3;split at p3
   next gd =>
    obtain⟨_,w2⟩:=wk items.length μ' h' H' ex bp gd;exact⟨w2 rfl,λD hD=>ZC bp oG p3 D hD⟩
   next=>exact p3.elim
theorem Zc9(fz:Bool){elt iter tg:Expr}{ifs:List Expr}{cs:az}{N':List Str}{bX:Nat}{js:List Nat}{it:String}{t:Tg}{es:aF->MH->R (List MV)}{tc:aF->MH->R Bool}{te:aF->MH->R MV}(aL:QC X.env.scope X.N cs N' bX js=true)(hc:X.calm=true)
  (hi:PI X tg iter (lI ct Ra E es it)) (hg:∀ C s3 H ex,PG (iH X cs N' C s3 H ex) tg (lG ct t)) (oW:∀ C s3 H ex,m6 (iH X cs N' C s3 H ex) ifs (lT ct (λ_=>True) E0 tc)) (k9:∀ C s3 H ex,PE (iH X cs N' C s3 H ex) elt (lE ct (λ_=>True) E0 te)) (bZ:qa iter=true) :
  PE X (.ListComp elt [⟨tg,iter,ifs,0⟩] cs pos) (lE ct Ra E λσ h=>(es σ h).bind λxs h1=>opt (gE it xs h1) λp=>(zh p.2 (Qi t tc te) p.1 [] (stM bX js σ) h1).bind λacc h3=>Qr fz acc h3):=by
 exact PE.imp (ycw N' bX js aL hc hi hg oW k9 (zN bZ)) (Rj fz)
end
end
end SD
end
section
namespace SD
open PySem PySem.Spec PyProof.Rows L2 L3 M3 MP
section
variable {ct:Tx} {X:Cx} {E:XK} {Pm:Prog} {n:Nat} {Ra:L2.St->Prop} {N:List Str} {sc:az}
noncomputable abbrev Zx(ks:List (Int×Int)):List (List Key×V):=ks.map λk=>(kP k,V.bl true)
theorem O6(ks)(k):((Zx ks).any λkv=>decide (kv.1=kP k))=decide (k∈ks):=by
 induction ks with
 |nil=>rfl
 |cons a r ih =>
  show(decide (kP a=kP k)||(Zx r).any λkv=>decide (kv.1=kP k))=_;rw[ih,QcQ];by_cases h:a=k
  ·subst h;simp
  ·simp[h,Jd h]
theorem zb3(ks)(k):qC (Zx ks) (kP k) (V.bl true)=Zx (qz ks k):=by
 unfold qC qz;rw[O6];by_cases h:k∈ks
 ·rw[if_pos (by simpa using h),if_pos h,Zx,Ue]
  congr 1
  funext p;show(if kP p=kP k then(kP p,V.bl true) else(kP p,V.bl true))=_;split <;> rfl
 ·rw[if_neg (by simpa using h),if_neg h,Zx,Zx,Vh];rfl
theorem Nb:∀(ks acc:List (Int×Int)),Zy (Zx ks) (Zx acc)=Zx (ks.foldl qz acc)
 |[],acc=>rfl
 |k::ks,acc=>by
  show Zy (Zx ks) (qC (Zx acc) (kP k) (V.bl true))=_;rw[zb3];exact Nb ks (qz acc k)
theorem Yb2(ks)(k):(nM (Zx ks) (kP k)).isSome=decide (k∈ks):=by
 rw[<- O6,J1]
theorem Oj  (h:qS k=true):I0 k:=by
 unfold qS at h;simp at h;exact⟨⟨h.1.1,h.1.2⟩,h.2.1,h.2.2⟩
theorem Pd  :∀(ks:List (Int×Int)),ks.all qS=true->ks.Nodup->(ks.map λk=>(aA (ze P w)).hash (kP k)).Nodup
 |[],_,_=>by simp
 |k::ks,h,n=>by
  rw[List.all_cons,Wa] at h;rw[Xk] at n;rw[xb,Xk];refine⟨λm=>?_,Pd ks h.2 n.2⟩;obtain⟨k',hk,e⟩:=ud.mp m;have:=Yb7 (Oj (uo.mp h.2 k' hk)) (Oj h.1) e;exact n.1 (this ▸ hk)
set_option tactic.hygienic true in
theorem Zcl       (r:RV ct μ L H y v)(e:tM y=some k):∃ T K,v=.ref T/\H T=some (.tup [.ref K,V.bl true])/\H K=some (.tup ((kP k).map L2.kV)):=by
 unfold tM at e;split at e
 next q w =>
  cases y with
  |f x =>
   cases x with
   |tup xs =>
    simp only[zk,gb.injEq] at w
    rcases xs with _|⟨x,_|⟨y,_|⟨z,zs⟩⟩⟩ <;> simp at w
    obtain⟨rfl,rfl⟩:=w;simp only[RV,RF,fy] at r;obtain⟨p,vs,rfl,n,hp,v1,r1,rfl,h1,v2,r2,rfl,rfl,rfl⟩:=r;obtain⟨K,rfl,_,hK⟩:=Fh (y:=MV.f x) (μ:=μ) (L:=L) (H:=H) (by simp only[RV];exact h1) e;exact⟨p,K,rfl,hp,hK⟩
   |_=>simp[zk] at w
  |tup xs =>
   simp only[zk,gb.injEq] at w;subst w;simp only[RV,aw,RF] at r;obtain⟨p,vs,rfl,n,hp,v1,r1,rfl,h1,v2,r2,rfl,rfl,rfl⟩:=r;obtain⟨K,rfl,_,hK⟩:=Fh h1 e;exact⟨p,K,rfl,hp,hK⟩
  |ref _=>simp[zk] at w
  |exc _=>simp[zk] at w
 next=>cases e
theorem Rk   :∀{xs:List MV}{vs:List V}{ks:List (Int×Int)},aw ct μ L H xs vs->xs.mapM tM=some ks->Gs H vs (Zx ks)
 |[],vs,ks,r,e=>by
  simp only[aw] at r;subst r;simp at e;subst e;exact .nil
 |x::xs,vs,ks,r,e=>by
  simp only[aw] at r;obtain⟨v,r',rfl,h1,h2⟩:=r;simp only[Xq,Xu,ub] at e;obtain⟨k,e1,iW,e2,e3⟩:=e;cases e3;obtain⟨T,K,q⟩:=Zcl h1 e1;exact .cons ⟨T,K,q⟩ (Rk h2 e2)
set_option tactic.hygienic true in
theorem Rf    (e:QP h (.ref i)=some ks):h[i]?=some (.cY ks):=by
 simp only[QP] at e;split at e
 next iW w=>cases e;exact w
 next=>cases e
theorem Mv       (rel:Rel ct μ h H)(r:RV ct μ (aZ μ h) H x v)(e:QP h x=some ks):∃ a,v=.ref a/\Rd H a (.dT (Zx ks)):=by
 cases x with
 |ref i =>
  simp only[RV] at r;obtain⟨b,eb,rfl⟩:=r;exact⟨b,rfl,.inl (rel.cells _ _ _ eb (Rf e))⟩
 |f y =>
  cases y with
  |cY ks =>
   cases e;simp only[RV,RF] at r;obtain⟨a,o,rfl,_,ha⟩:=r;exact⟨a,rfl,.inr ⟨o,ha⟩⟩
  |_=>cases e
 |tup _=>cases e
 |exc _=>cases e
section
variable {ea eb:aF->MH->R MV} {a b:Expr} {p p2 pos:Pos}
theorem qcY:PE X (.Dict [] [] pos) (lE ct Ra E λ_ h=>.ok (.ref h.length) (h++[.cY []])):=by
 refine PE.imp qcl λσ H Q q d hd=>?_;obtain⟨μ,h,σs,rel,aG,ra,pp⟩:=q;have D':=Ext.cell rel hd (.cY []) (.dT []);have rQ:Rel ct (μ++[d]) (h++[.cY []]) (upd H d (.dT [])):=rel.cell hd qd;exact(Po.start D' pp).now rQ _ (by simp only[RV];exact⟨d,by rw[<- rel.len];simp,rfl⟩)
theorem BX(c:Cc X Pm ct n Ra E N sc)(hg:gl sc "dict"=true)(ha:PE X a (lE ct Ra E ea))(hp:qa a=true) :
  PE X (.Call (.Name "dict" p) [a] [] pos) (lE ct Ra E λσ h=>(ea σ h).bind λx h1=>Ew x h1):=by
 obtain(⟨k1,k2,k3⟩):=QH c.sc hg;have hm:X.mg "dict"=none:=c.txt.iq "dict" (by simp[a9]);refine PE.imp (E2 (qbr c.calm (by have:=c.units;lia)) k1 hm (by decide +kernel) (qU ha Aa (Yh hp)) k3 k2 (Yh hp) (by rfl)) λσ H Q q=>?_;obtain(⟨μ,h,σs,rel,aG,ra,pp⟩):=q;refine lE.mk rel aG ra pp λm w μ1 h1 H1 ex ar aQ rv p1=>?_;cases m with
 |ref i =>
  obtain(⟨xs,e1,p2⟩):=Po.opt p1;obtain(⟨ks,e2,p3⟩):=Po.opt p2;split at p3
  next hl =>
   simp only[RV] at rv;obtain(⟨b,eb,rfl⟩):=rv;have hc:h1[i]?=some (.lst xs):=by
    simp only[Qc] at e1;split at e1
    next w=>cases e1;exact w
    next=>cases e1
   obtain(⟨vs,hb,dP⟩):=(show bL ct μ1 (aZ μ1 h1) H1 b (.lst xs) from ar.cells _ _ _ eb hc);have pv:=Rk dP e2;have hlen:ks.length=xs.length:=by
    clear p1 p2 p3 pv hc hl e1 dP
    induction xs generalizing ks with
    |nil=>simp at e2;subst e2;rfl
    |cons x xs ih =>
     simp only[Xq,Xu,ub] at e2;obtain(⟨k,_,iW,e3,e4⟩):=e2;cases e4;simp[ih _ e3]
   refine⟨b,vs,Zx ks,rfl,.inl hb,pv,by rw[Wc,hlen,df];lia,λq o hq=>?_⟩;have e5:Zy (Zx ks) []=Zx (ks.foldl qz []):=Nb ks [];rw[e5];refine p3 μ1 _ (Ext.new ar hq _) (ar.new hq _) _ ?_;simp only[RV,RF];exact⟨q,o,rfl,zX ar hq,qd⟩
  next=>exact p3.elim
 |f _=>exact p1.elim
 |tup _=>exact p1.elim
 |exc _=>exact p1.elim
theorem Qc9  (ha:PE X a (lE ct Ra E ea))(hb:PE X b (lE ct Ra E eb))(hn:yj a=true)(bZ:qa b=true)(dR:(ap.endLine==cp.line)=true) :
  PE X (.Call (.Attribute a "update" ap) [b] [] cp) (lE ct Ra E λσ h=>(ea σ h).bind λx h1=>opt (QP h1 x) λ_=>(eb σ h1).bind λy h2=>El x y h2):=by
 have oS:∀ e∈[b],qa e=true:=λe he=>by rw[vc.mp he];exact bZ
 refine PE.imp (ycr ha hb ⟨qF hn,Gx oS (by simp),dR,by rw[Zh oS];rfl⟩) λσ H Q q=>?_;obtain⟨μ,h,σs,rel,aG,ra,pp⟩:=q;refine lE.mk rel aG ra pp λm w μ1 h1 H1 ig ar aQ pR p1=>?_;obtain⟨ks0,e0,p2⟩:=Po.opt p1;obtain⟨c,rfl,rd0⟩:=Mv ar pR e0;refine⟨c,rfl,.inr ⟨_,rd0⟩,?_⟩;refine lE.mk ar aQ ra p2 λm2 w2 μ2 h2 H2 dJ aU dD jU p3=>?_;have xO:=pR.ext dJ;cases m with
 |ref i =>
  cases m2 with
  |f y =>
   cases y with
   |cY iW =>
    obtain⟨ks,e1,p4⟩:=Po.opt p3;split at p4
    next hq =>
     obtain⟨h1',NQ,h3'⟩:=hq;simp only[RV] at xO;obtain⟨c',ec,ecc⟩:=xO;cases ecc;have hc:=Rf e1;have hH:H2 c=some (.dT (Zx ks)):=aU.cells _ _ _ ec hc;simp only[RV,RF] at jU;obtain⟨d,o,rfl,nd,hd⟩:=jU;have e6:(if Zx iW=[] then Zx ks else Zx iW)=Zx (if iW=[] then ks else iW):=by
      by_cases z:iW=[]
      ·subst z;rfl
      ·rw[if_neg z,if_neg (by intro q;exact z (List.map_eq_nil_iff.mp q))]
     refine⟨d,Zx ks,Zx iW,rfl,hH,.inr ⟨o,hd⟩,λz=>?_,?_,?_,?_⟩
     ·rw[z,hd] at hH;cases hH
     ·rcases h1' with z|z
      ·left;rw[z];rfl
      ·right;rw[z];rfl
     ·rw[Ue];exact Pd iW NQ h3'
     ·rw[e6];have lx:=Ext.set (H:=H2) aU ec hc (λz=>nomatch z) (.cY (if iW=[] then ks else iW)) (.dT (Zx (if iW=[] then ks else iW)));have kU:=aU.set (c':=.cY (if iW=[] then ks else iW)) (o:=.dT (Zx (if iW=[] then ks else iW))) ec hc (λz=>nomatch z) qd;exact p4.AG lx kU _ (by simp only[RV,RF])
    next=>exact p4.elim
   |_=>exact p3.elim
  |ref _=>exact p3.elim
  |tup _=>exact p3.elim
  |exc _=>exact p3.elim
 |f _=>cases m2 <;> exact p3.elim
 |tup _=>cases m2 <;> exact p3.elim
 |exc _=>cases m2 <;> exact p3.elim
theorem ycT(hu:X.A.units+65<cT)(ha:PE X a (lE ct Ra E ea))(hb:PE X b (lE ct Ra E eb))(hp:qa b=true) :
  PE X (.Compare a [.NotIn] [b] pos) (lE ct Ra E λσ h=>(ea σ h).bind λx h1=>(eb σ h1).bind λy h2=>uR x y h2) /\
  PT X (.Compare a [.NotIn] [b] pos) (lT ct Ra E (fM λσ h=>(ea σ h).bind λx h1=>(eb σ h1).bind λy h2=>uR x y h2)):=by
 have main:∀ σ H Q,lE ct Ra E (λσ h=>(ea σ h).bind λx h1=>(eb σ h1).bind λy h2=>uR x y h2) σ H Q->PY (lE ct Ra E ea) (lE ct Ra E eb) σ H Q:=λσ H Q q=>by
  obtain⟨μ,h,σs,rel,aG,ra,pp⟩:=q;refine lE.mk rel aG ra pp λm w μ1 h1 H1 ig ar aQ pR p1=>?_;refine lE.mk ar aQ ra p1 λm2 w2 μ2 h2 H2 dJ aU dD jU p2=>?_;obtain⟨k,e1,p3⟩:=Po.opt p2;obtain⟨ks,e2,p4⟩:=Po.opt p3;obtain⟨c,rfl,rd⟩:=Mv aU jU e2;obtain⟨q,rfl,_,hq⟩:=Fh (pR.ext dJ) e1;refine⟨c,_,rfl,.inr ⟨_,kP k,q,rd,rfl,hq,rfl⟩,?_⟩;rw[Yb2];have e3:(!decide (k∈ks))=decide (k∉ks):=by by_cases z:k∈ks <;> simp[z]
  rw[e3];exact p4.now aU _ (YE _)
 have kN:bC .NotIn b=false:=qD hp _;exact Dg (KA (OK (by lia) ha hb) kN) (LL (OK (by lia) ha hb) kN) main
theorem Zb5{K:Jc}(hK:K=ct.K){b:Bool}{a:ae}{xs:List MV}{g:zG}{μ1:List ae}{h1:MH}{H1:Hp}(s1:tD ct b a xs g μ1 h1 H1):Wk ct (tj K b a) (xs.mapIdx λk x=>yg [.f (.int ((k+1:Nat):Int)),x]) g μ1 h1 H1:=by
 intro i μ h H ex rel gd;obtain⟨vs,sq,rs⟩:=s1 μ h H ex rel gd;have hl:=rs.length;refine⟨λhi=>?_,λhi=>?_⟩
 ·simp only[Uv] at hi;refine⟨⟨vs,sq.s hK,by lia⟩,λx H2 y=>?_⟩;obtain⟨T,x1,rfl,hT,rfl,e1⟩:=y;obtain⟨m1,BN,r1⟩:=rs.get' (e1 vs (sq.s hK));have o7:=Ext.new rel hT (.tup [.int ((i+1:Nat):Int),x1]);refine⟨yg [.f (.int ((i+1:Nat):Int)),m1],?_,o7,rel.new hT _,qE (zX rel hT) qd (aw.cons (yq _) (aw.cons (r1.ext o7) aw.nil))⟩;rw[Wj,BN];rfl
 ·simp only[Uv] at hi;exact⟨vs,sq.s hK,by lia⟩
theorem ycd(hK:X.K=ct.K)     (hg:Gl X "enumerate")(hm:X.mg "enumerate"=none)(ha:PE X a (lE ct Ra E ev))(bZ:qa a=true) :
  PI X (.Tuple es kt pt) (Eu a j p cp kp pos) (lI ct Ra E (λσ hh=>(ev σ hh).bind λx h1=>.ok [x] h1) "enum1"):=by
 have oS:∀ e∈[a],qa e=true:=λe he=>by rw[vc.mp he];exact bZ
 refine PI.imp (hK ▸ zci hg hm ha (Zh oS)) λσ H Q q=>?_;obtain(⟨μ,hh,σs,rel,aG,ra,p⟩):=q;refine lE.mk rel aG ra p λm v μ1 h1 H1 ex ar aQ rv p1=>?_;obtain(⟨items,g,e1,_,k⟩):=p1.now ar;simp only[LU,Wd,kr.injEq] at e1;obtain(⟨us,e2,rfl,rfl⟩):=e1;obtain(⟨b1,a1,rfl,s1⟩):=zW ar e2 rv;obtain(⟨vL,q1,_⟩):=s1 _ _ _ (Ext.refl _ _ _) ar (QK e2);exact⟨b1,a1,rfl,⟨vL,q1.s rfl⟩,k _ (Zb5 rfl s1)⟩
end
end
section
variable {ct:Tx} {Pm:Prog} {n:Nat}
section
variable {X:Cx} {E:XK} {Ra:L2.St->Prop} {N:List Str} {sc:az}
theorem zd   (p:PE X e (lE ct Ra E ev))(h:∀ σ hh,uK σ hh=ev σ hh):PE X e (lE ct Ra E uK):=by
 have:uK=ev:=funext λσ=>funext λhh=>h σ hh;rw[this];exact p
theorem zt   (p:PE X e (lE ct Ra E ev)/\PT X e (lT ct Ra E (fM ev)))(h:∀ σ hh,uK σ hh=ev σ hh):PE X e (lE ct Ra E uK)/\PT X e (lT ct Ra E (fM uK)):=by
 have:uK=ev:=funext λσ=>funext λhh=>h σ hh;rw[this];exact p
theorem Cc.comp   (c:Cc X Pm ct n Ra E N sc)(nd:N'.Nodup)(C)(s3)(H)(ex):Cc (iH X cs N' C s3 H ex) Pm ct n (λ_=>True) E0 N' (zI cs sc) :=
 ⟨c.txt,c.calm,c.room,λσ _ pins H s e s' I ⟨_,_,_,_,_,_,_,_,_,_,_,_,_,_,_,q⟩=>q.elim,rfl,by rw[<- c.sc];rfl,nd,c.hK⟩
noncomputable def Sd(X:Cx)(ct:Tx)(Pm:Prog)(n:Nat)(Ra:L2.St->Prop)(E:XK)(me:ME)(e:Expr):Prop :=
 PE X e (lE ct Ra E (ya Pm (run Pm n) me))/\(jB me=true->PT X e (lT ct Ra E (fM (ya Pm (run Pm n) me))))
theorem Sd.of   (h:PE X e (lE ct Ra E (ya Pm (run Pm n) me))/\PT X e (lT ct Ra E (fM (ya Pm (run Pm n) me)))):Sd X ct Pm n Ra E me e:=⟨h.1,λ_=>h.2⟩
theorem Mx   (b:Bo ct X Ra E Pm n ms es)(hl:es.length<1000):∀ σ h xs h',Zg Pm (run Pm n) ms σ h=.ok xs h'->xs.length<=sizeLine:=λσ h xs h' e=>by
 rw[QF e,b.length];exact Wf (Ux hl) (by decide)
end
end
end SD
end
section
namespace SD
open PySem PySem.Spec PyProof.Rows L2 L3 M3 MP
variable {ct:Tx} {Pm:Prog} {n:Nat}
set_option tactic.hygienic true in
theorem Ju         (c:Cc X Pm ct n Ra E N sc)(k1:rD t it iter=true)(k2:gl sc (jj it)=true)(b:Bo ct X Ra E Pm n ms (YC iter)) :
  PI X t iter (lI ct Ra E (Zg Pm (run Pm n) ms) it):=by
 obtain⟨g1,g2,g3⟩:=QH c.sc k2;unfold rD at k1;split at k1
 next x p as p2 =>
  simp only[Wa,vn,beq_iff_eq] at k1;obtain⟨k1,rfl⟩:=k1;have b':Bo ct X Ra E Pm n ms as:=b
  rcases k1 with (⟨rfl,ha⟩|⟨⟨rfl,ht⟩,ha⟩)|⟨⟨rfl,ht⟩,ha⟩
  ·have hl:=b'.length;have hm:X.mg "range"=none:=c.txt.iq "range" (by simp);exact zb7 g1 hm b'.pa b'.plain ha λσ h xs h' e=>by rw[QF e,hl]
  ·cases t with
   |Tuple es k pt =>
    have hm:X.mg "zip"=none:=c.txt.iq "zip" (by simp)
    rcases as with _|⟨u,_|⟨v,_|⟨w,as⟩⟩⟩
    ·simp at ha
    ·simp at ha
    ·exact zc1 c.hK g1 hm b'.pa b'.plain λσ h xs h' e=>by rw[QF e,b'.length];rfl
    ·simp at ha
   |_=>exact xj ht
  ·cases t with
   |Tuple es k pt =>
    have hm:X.mg "enumerate"=none:=c.txt.iq "enumerate" (by simp)
    rcases as with _|⟨u,_|⟨v,as⟩⟩
    ·simp at ha
    ·exact Zcv c.hK g1 hm b'.pa b'.plain λσ h xs h' e=>by rw[QF e,b'.length];rfl
    ·simp at ha
   |_=>exact xj ht
 next=>exact xj k1
theorem MG{e:Expr}(h:uZ e=true):∃ k p,e=.Constant (.bool true) k p:=by
 cases e with
 |Constant c k p =>
  cases c with
  |bool b=>cases b with
   |true=>exact⟨k,p,rfl⟩
   |false=>exact ff h
  |_=>exact ff h
 |_=>exact ff h
theorem E6{α:Type}{l:List α}{p:α×α}(h:rA l=some p):l=[p.1,p.2]:=by
 rcases l with _|⟨a,_|⟨b,_|⟨c,l⟩⟩⟩
 ·exact nomatch h
 ·exact nomatch h
 ·cases h;rfl
 ·exact nomatch h
theorem Df{α:Type}{l:List α}{p:α}(h:oH l=some p):l=[p]:=by
 rcases l with _|⟨a,_|⟨b,l⟩⟩
 ·exact nomatch h
 ·cases h;rfl
 ·exact nomatch h
set_option tactic.hygienic true in
theorem qcg{e a:Expr}(h:YK e=some a):∃ j p cp kp pos,e=Eu a j p cp kp pos:=by
 unfold YK at h;split at h
 next x p as ks pos =>
  split at h
  next w =>
   rw[Wa] at w;obtain(⟨w1,w2⟩):=w;have:=Df h;subst this;unfold PJ at w2;split at w2
   next k j cp kp =>
    have e1:x=("enumerate":Str):=by simpa using w1
    have e2:k=("start":Str):=by simpa using w2
    subst e1;subst e2;exact⟨j,p,cp,kp,pos,rfl⟩
   next=>cases w2
  next=>cases h
 next=>cases h
theorem ybV{e x y:Expr}(h:EZ e=some (x,y)):∃ k1 p1 k2 p2 p,e=.Dict [some x,some y] [.Constant (.bool true) k1 p1,.Constant (.bool true) k2 p2] p:=by
 cases e with
 |Dict ks vs p =>
  have h:((rA ks).bind λk=>(rA vs).bind λv=>if uZ v.1&&uZ v.2 then k.1.bind λx=>k.2.map λy=>(x,y) else none)=some (x,y):=h;obtain⟨⟨a,b⟩,e1,h⟩:=ub.mp h;obtain⟨⟨u,v⟩,e2,h⟩:=ub.mp h;split at h
  next hb =>
   simp only[Wa] at hb;obtain⟨k1,p1,e3⟩:=MG hb.1;obtain⟨k2,p2,e4⟩:=MG hb.2;dsimp only at e3 e4 h;obtain⟨x',rfl,h⟩:=ub.mp h;obtain⟨y',rfl,h⟩:=Wd.mp h;cases h;subst e3;subst e4;exact⟨k1,p1,k2,p2,p,by rw[E6 e1,E6 e2]⟩
  next=>cases h
 |_=>exact nomatch h
theorem pU{α:Type}{a:α}{p:Prop}(h:none=some a):p:=nomatch h
theorem Jz{e v:Expr}{x:Str}(h:rG e=some (x,v)):∃ p q,e=.Call (.Name x p) [v] [] q:=by
 cases e with
 |Call g as ks q =>
  cases g with
  |Name z p =>
   cases ks with
   |nil =>
    have h:((oH as).map λa=>(z,a))=some (x,v):=h;obtain⟨a,e1,h⟩:=Wd.mp h;cases h;exact⟨p,q,by rw[Df e1]⟩
   |cons _ _=>exact pU h
  |_=>exact pU h
 |_=>exact pU h
theorem Qce{e l r:Expr}{o:eF}(h:Q9 e=some (l,o,r)):∃ p,e=.Compare l [o] [r] p:=by
 cases e with
 |Compare l' os rs p =>
  have h:((oH os).bind λo=>(oH rs).map λr=>(l',o,r))=some (l,o,r):=h;obtain⟨o',e1,h⟩:=ub.mp h;obtain⟨r',e2,h⟩:=Wd.mp h;cases h;exact⟨p,by rw[Df e1,Df e2]⟩
 |_=>exact pU h
theorem qcx  (h:r6 e=true):∃ j p,e=.Constant .none j p:=by
 cases e with
 |Constant k j p =>
  cases k with
  |none=>exact⟨_,_,rfl⟩
  |_=>exact ff h
 |_=>exact ff h
theorem E9{e:Expr}{f:Expr->eF->Expr->Bool}(h:(match Q9 e with|some (l,o,r)=>f l o r|none=>false)=true):∃ l o r p,e=.Compare l [o] [r] p/\f l o r=true:=by
 cases w:Q9 e with
 |none=>rw[w] at h;exact ff h
 |some q =>
  obtain⟨l,o,r⟩:=q;rw[w] at h;obtain⟨p,e⟩:=Qce w;exact⟨l,o,r,p,e,h⟩
theorem zcx{e v u:Expr}{x:Str}(h:Ck e=some (x,v,u)):∃ p q,e=.Call (.Name x p) [v,u] [] q:=by
 cases e with
 |Call g as ks q =>
  cases g with
  |Name z p =>
   cases ks with
   |nil =>
    have h:((rA as).map λa=>(z,a))=some (x,v,u):=h;obtain⟨a,e1,h⟩:=Wd.mp h;cases h;exact⟨p,q,by rw[E6 e1]⟩
   |cons _ _=>exact pU h
  |_=>exact pU h
 |_=>exact pU h
theorem Ce{e:Expr}{f:Str->Expr->Bool}(h:(match rG e with|some (x,v)=>f x v|none=>false)=true):∃ x v p q,e=.Call (.Name x p) [v] [] q/\f x v=true:=by
 cases w:rG e with
 |none=>rw[w] at h;exact ff h
 |some q =>
  obtain⟨x,v⟩:=q;rw[w] at h;obtain⟨p,q,e⟩:=Jz w;exact⟨x,v,p,q,e,h⟩
theorem Qcx{e:Expr}{x:Str}(h:Cj e=some x):∃ p,e=.Name x p:=by
 cases e with
 |Name y p=>cases h;exact⟨p,rfl⟩
 |_=>exact pU h
theorem A5{e:Expr}{f:Str->Expr->Str->Bool}(h:(match EA e with|some (x,v,y)=>f x v y|none=>false)=true):∃ x v y p1 p2 p3,e=.Call (.Name x p1) [v,.Name y p2] [] p3/\f x v y=true:=by
 cases w:EA e with
 |none=>rw[w] at h;exact ff h
 |some q =>
  obtain⟨x,v,y⟩:=q;rw[w] at h;obtain⟨⟨x',v',y'⟩,e1,w⟩:=ub.mp w;obtain⟨z,e2,w⟩:=Wd.mp w;cases w;obtain⟨p2,e2⟩:=Qcx e2;have e2:y'=.Name y p2:=e2;subst e2;obtain⟨p1,p3,e⟩:=zcx e1;exact⟨_,_,_,p1,p2,p3,e,h⟩
theorem Qbt   (h:u7 e=some (x,y,v)):∃ p1 p2 p3 p,e=.Call (.Name x p1) [.Call (.Name y p2) [v] [] p3] [] p:=by
 obtain⟨⟨x',v'⟩,e1,h⟩:=ub.mp h;obtain⟨⟨y',w⟩,e2,h⟩:=Wd.mp h;cases h;obtain⟨p1,p,rfl⟩:=Jz e1;obtain⟨p2,p3,rfl⟩:=Jz e2;exact⟨p1,p2,p3,p,rfl⟩
set_option tactic.hygienic true in
mutual
theorem sB:∀(me:ME){X:Cx}{E:XK}{Ra:L2.St->Prop}{N:List Str} {sc:az} (c:Cc X Pm ct n Ra E N sc) (e:Expr),Zf Pm me N sc e=true->Sd X ct Pm n Ra E me e
 |.var i,X,E,Ra,N,sc,c,e,h=>by
  have h:=Zd h;cases e with
  |Name x p =>
   have h:(N[i]? == some x&&ou sc x)=true:=h;simp only[Wa,beq_iff_eq] at h;exact Sd.of (yd (zd (BQ (by rw[c.nm];exact h.1) (by rw[c.sc];exact h.2)) λσ hh=>by simp only[ya]))
  |_=>exact ff h
 |.cI i,X,E,Ra,N,sc,c,e,h=>by
  have h:=Zd h;cases e with
  |Constant k j p =>
   cases k with
   |int z =>
    have hz:i=z:=by simpa using(show(i==z)=true from h)
    subst hz;exact Sd.of (yd (zd (CQ N4 λ_ _ _=>yq _) λσ hh=>by simp only[ya]))
   |_=>exact ff h
  |_=>exact ff h
 |.cB i,X,E,Ra,N,sc,c,e,h=>by
  have h:=Zd h;cases e with
  |Constant k j p =>
   cases k with
   |bool z =>
    have hz:i=z:=by simpa using(show(i==z)=true from h)
    subst hz;exact Sd.of (yd (zd (CQ Dc λ_ _ _=>YE _) λσ hh=>by simp only[ya]))
   |_=>exact ff h
  |_=>exact ff h
 |.cN,X,E,Ra,N,sc,c,e,h=>by
  have h:=Zd h;cases e with
  |Constant k j p =>
   cases k with
   |none =>
    exact Sd.of (yd (zd (CQ QcR λ_ _ _=>CU) λσ hh=>by simp only[ya]))
   |_=>exact ff h
  |_=>exact ff h
 |.cS i,X,E,Ra,N,sc,c,e,h=>by
  have h:=Zd h;cases e with
  |Constant k j p =>
   cases k with
   |str z =>
    have hz:i=z:=by simpa using(show(i==z)=true from h)
    subst hz;exact Sd.of (yd (zd (CQ QcT λ_ _ _=>OQ _) λσ hh=>by simp only[ya]))
   |_=>exact ff h
  |_=>exact ff h
 |.glob g,X,E,Ra,N,sc,c,e,h=>by
  have h:=Zd h;cases e with
  |Name x p =>
   have h:(x==jj g&&gl sc x&&K3 (Pm.b9 g))=true:=h;simp only[Wa,beq_iff_eq] at h;obtain(⟨⟨rfl,h1⟩,h2⟩):=h;have hv:(∃ i,Pm.b9 g=some (.int i))\/∃ z,Pm.b9 g=some (.str z):=by
    cases hq:Pm.b9 g with
    |none=>rw[hq] at h2;cases h2
    |some w =>
     rw[hq] at h2;cases w with
     |int i=>exact .inl ⟨i,rfl⟩
     |str z=>exact .inr ⟨z,rfl⟩
     |_=>cases h2
   rcases hv with ⟨i,hv⟩|⟨z,hv⟩
   ·exact Sd.of (yd (zd (yc5 c hv h1) λσ hh=>by simp only[ya]))
   ·exact Sd.of (yd (zd (zcy c hv h1) λσ hh=>by simp only[ya]))
  |_=>exact ff h
 |.bin fz op a b,X,E,Ra,N,sc,c,e,h=>by
  have h:=Zd h;cases e with
  |BinOp l o r p =>
   have h:(o==Dt op&&Zf Pm a N sc l&&Zf Pm b N sc r)=true:=h;simp only[Wa,beq_iff_eq] at h;obtain(⟨⟨rfl,h1⟩,h2⟩):=h;exact Sd.of (yd (zd (B8 fz op (sB a c l h1).1 (sB b c r h2).1) λσ hh=>by simp only[ya]))
  |_=>exact ff h
 |.neg a,X,E,Ra,N,sc,c,e,h=>by
  have h:=Zd h;cases e with
  |UnaryOp o x p =>
   cases o with
   |USub=>exact Sd.of (yd (zd (BW (sB a c x (show Zf Pm a N sc x=true from h)).1) λσ hh=>by simp only[ya]))
   |_=>exact ff h
  |_=>exact ff h
 |.cmp op a b,X,E,Ra,N,sc,c,e,h=>by
  obtain(⟨l,o,r,p,rfl,g⟩):=E9 (show(match Q9 e with|some (l,o,r)=>o==mK op&&Zf Pm a N sc l&&Zf Pm b N sc r|none=>false)=true from Zd h);simp only[Wa,beq_iff_eq] at g;obtain(⟨⟨rfl,h1⟩,h2⟩):=g;exact Sd.of (zt (B6 c.hK op c.units (sB a c l h1).1 (sB b c r h2).1 (Zn h2)) λσ hh=>by simp only[ya])
 |.chain op Nd a b d,X,E,Ra,N,sc,c,e,h=>by
  have h:=Zd h;cases e with
  |Compare l os rs p =>
   rcases os with _|⟨o,_|⟨o2,_|⟨o3,os⟩⟩⟩
   ·exact ff h
   ·exact ff h
   ·rcases rs with _|⟨m,_|⟨r,_|⟨r2,rs⟩⟩⟩
    ·exact ff h
    ·exact ff h
    ·have h:(o==mK op&&o2==mK Nd&&Zf Pm a N sc l&&Zf Pm b N sc m&&Zf Pm d N sc r)=true:=h;simp only[Wa,beq_iff_eq] at h;obtain(⟨⟨⟨⟨rfl,rfl⟩,h1⟩,h2⟩,h3⟩):=h;exact Sd.of (zt (yct c.hK op Nd c.units (sB a c l h1).1 (sB b c m h2).1 (sB d c r h3).1 (Zn h3)) λσ hh=>by simp only[ya])
    ·exact ff h
   ·exact ff h
  |_=>exact ff h
 |.Nt a,X,E,Ra,N,sc,c,e,h=>ff (Zd h)
 |.oJ a,X,E,Ra,N,sc,c,e,h=>by
  obtain(⟨l,o,r,p,rfl,g⟩):=E9 (show(match Q9 e with|some (l,o,r)=>o == .IsNot&&r6 r&&Zf Pm a N sc l|none=>false)=true from Zd h);simp only[Wa,beq_iff_eq] at g;obtain(⟨⟨rfl,h1⟩,h2⟩):=g;obtain(⟨j,p2,rfl⟩):=qcx h1;exact Sd.of (zt (Qc0 (sB a c l h2).1) λσ hh=>by simp only[ya])
 |.and es,X,E,Ra,N,sc,c,e,h=>by
  have h:=Zd h;cases e with
  |BoolOp o vs p =>
   cases o with
   |And =>
    have h:(es.all jB&&qm Pm es N sc vs)=true:=h;rw[Wa] at h;obtain(⟨i1,i2⟩):=Ls (pos:=p) (mO es c vs h.2) h.1;exact Sd.of (zt ⟨i1,i2.pt⟩ λσ hh=>by simp only[ya])
   |_=>exact ff h
  |_=>exact ff h
 |.or es,X,E,Ra,N,sc,c,e,h=>by
  have h:=Zd h;cases e with
  |BoolOp o vs p =>
   cases o with
   |Or =>
    have h:(es.all jB&&qm Pm es N sc vs)=true:=h;rw[Wa] at h;obtain(⟨i1,i2⟩):=BU (pos:=p) (mO es c vs h.2) h.1;exact Sd.of (zt ⟨i1,i2.pt⟩ λσ hh=>by simp only[ya])
   |_=>exact ff h
  |_=>exact ff h
 |.not a,X,E,Ra,N,sc,c,e,h=>by
  have h:=Zd h;cases e with
  |UnaryOp o x p =>
   cases o with
   |Not =>
    have h:(jB a&&Zf Pm a N sc x)=true:=h;rw[Wa] at h;obtain(⟨i1,i2⟩):=sB a c x h.2;exact Sd.of (zt (BV i1 (i2 h.1)) λσ hh=>by simp only[ya])
   |_=>exact ff h
  |_=>exact ff h
 |.ite d a b,X,E,Ra,N,sc,c,e,h=>by
  have h:=Zd h;cases e with
  |IfExp t x y p =>
   have h:(jB d&&Zf Pm d N sc t&&Zf Pm a N sc x&&Zf Pm b N sc y)=true:=h;simp only[Wa] at h;obtain(⟨⟨⟨h0,h1⟩,h2⟩,h3⟩):=h;exact⟨zd (BZ ((sB d c t h1).2 h0) (sB a c x h2).1 (sB b c y h3).1) λσ hh=>by simp only[ya],λz=>xj z⟩
  |_=>exact ff h
 |.tup es,X,E,Ra,N,sc,c,e,h=>by
  have h:=Zd h;cases e with
  |Tuple vs k p =>
   have h:(decide (vs.length<1000)&&qm Pm es N sc vs)=true:=h;rw[Wa] at h;have b:=mO es c vs h.2;exact Sd.of (yd (zd (BR b.pa (Mx b (of_decide_eq_true h.1))) λσ hh=>by simp only[ya]))
  |_=>exact ff h
 |.lst fz es,X,E,Ra,N,sc,c,e,h=>by
  have h:=Zd h;cases e with
  |List vs p =>
   have h:(decide (vs.length<1000)&&qm Pm es N sc vs)=true:=h;rw[Wa] at h;have b:=mO es c vs h.2;exact Sd.of (yd (zd (BY fz b.pa (Mx b (of_decide_eq_true h.1))) λσ hh=>by simp only[ya]))
  |_=>exact ff h
 |.sub a i,X,E,Ra,N,sc,c,e,h=>by
  have h:=Zd h;cases e with
  |Subscript x y p =>
   have h:(Zf Pm a N sc x&&Zf Pm i N sc y)=true:=h;rw[Wa] at h;exact Sd.of (yd (zd (BS c.hK (sB a c x h.1).1 (sB i c y h.2).1 (Zn h.2)) λσ hh=>by simp only[ya]))
  |_=>exact ff h
 |.slice fz a lo hi,X,E,Ra,N,sc,c,e,h=>by
  have h:=Zd h;cases e with
  |Subscript x y p =>
   cases y with
   |Slice l u st p2 =>
    cases st with
    |none =>
     have h:(Zf Pm a N sc x&&Cp Pm lo N sc l&&Cp Pm hi N sc u)=true:=h;simp only[Wa] at h;obtain(⟨⟨h1,h2⟩,h3⟩):=h;exact Sd.of (yd (zd (qcr c.hK fz (sB a c x h1).1 (Mn lo c l h2) (Mn hi c u h3)) λσ hh=>by simp only[ya]))
    |some _=>exact ff h
   |_=>exact ff h
  |_=>exact ff h
 |.fld a f,X,E,Ra,N,sc,c,e,h=>by
  have h:=Zd h;cases e with
  |Attribute x m p =>
   have h:(m==jj f&&yj x&&Zf Pm a N sc x)=true:=h;simp only[Wa,beq_iff_eq] at h;obtain(⟨⟨rfl,h1⟩,h2⟩):=h;exact Sd.of (yd (zd (B5 c.txt (sB a c x h2).1 h1) λσ hh=>by simp only[ya]))
  |_=>exact ff h
 |.call f es,X,E,Ra,N,sc,c,e,h=>by
  have h:=Zd h;cases e with
  |Call g as ks p =>
   cases g with
   |Name x p2 =>
    cases as with
    |nil=>exact ff h
    |cons v vs =>
     cases ks with
     |cons _ _=>exact ff h
     |nil =>
      have h:(x==jj f&&gl sc x&&!(f.toList.contains '.')&&(Pm.defs f).isSome&&qm Pm es N sc (v::vs))=true:=h;simp only[Wa,beq_iff_eq,Wq] at h;obtain(⟨⟨⟨⟨rfl,h1⟩,h2⟩,h3⟩,h4⟩):=h;obtain(⟨d,hd⟩):=xn.mp h3;have b:=mO es c (v::vs) h4;exact Sd.of (yd (zd (qc1 c hd h2 h1 b.pa b.plain) λσ hh=>by simp only[ya]))
   |_=>exact ff h
  |_=>exact ff h
 |.make fz cn es,X,E,Ra,N,sc,c,e,h=>by
  have h:=Zd h;cases e with
  |Call g as ks p =>
   cases g with
   |Name x p2 =>
    cases as with
    |nil =>
     cases ks with
     |cons _ _=>cases es <;> exact ff h
     |nil =>
      cases es with
      |cons _ _=>exact ff h
      |nil =>
       have h:(x==jj cn&&gl sc x&&Pm.nA cn&&(Pm.meths cn "__init__").isNone)=true:=h;simp only[Wa,beq_iff_eq,Option.isNone_iff_eq_none] at h;obtain(⟨⟨⟨rfl,h1⟩,h3⟩,h4⟩):=h;exact Sd.of (yd (zd (ycy fz c h3 h4 h1) λσ hh=>by simp only[ya,Zg]))
    |cons v vs =>
     cases ks with
     |cons _ _=>exact ff h
     |nil =>
      have h:(x==jj cn&&gl sc x&&(Pm.meths cn "__init__").isSome&&qm Pm es N sc (v::vs))=true:=h;simp only[Wa,beq_iff_eq] at h;obtain(⟨⟨⟨rfl,h1⟩,h3⟩,h4⟩):=h;obtain(⟨d,hd⟩):=xn.mp h3;have b:=mO es c (v::vs) h4;exact Sd.of (yd (zd (Zc4 fz c hd h1 b.pa b.plain) λσ hh=>by simp only[ya]))
   |_=>exact ff h
  |_=>exact ff h
 |.mQ o m es,X,E,Ra,N,sc,c,e,h=>by
  have h:=Zd h;cases e with
  |Call g as ks p =>
   cases g with
   |Attribute x nm ap =>
    cases ks with
    |cons _ _=>exact ff h
    |nil =>
     have h:(nm==jj m&&decide (m≠"__init__")&&yj x&&(ap.endLine==p.line)&&Zf Pm o N sc x&&qm Pm es N sc as&&decide (as.length<30))=true:=h;simp only[Wa,beq_iff_eq,decide_eq_true_eq] at h;obtain(⟨⟨⟨⟨⟨⟨rfl,h0⟩,h1⟩,h2⟩,h3⟩,h4⟩,h5⟩):=h;have b:=mO es c as h4;have ho:=(sB o c x h3).1;have hl:(ap.endLine==p.line)=true:=by simpa using h2
     cases as with
     |nil =>
      cases es with
      |cons _ _=>exact b.elim
      |nil=>exact Sd.of (yd (zd (ycE c h0 ho h1 hl) λσ hh=>by simp only[ya,Zg]))
     |cons v vs=>exact Sd.of (yd (zd (Yct c h0 ho h1 b.pa b.plain h5 hl) λσ hh=>by simp only[ya]))
   |_=>exact ff h
  |_=>exact ff h
 |.blt fz id es,X,E,Ra,N,sc,c,e,h=>by
  have h:=Zd h;cases e with
  |Call g as ks p =>
   cases g with
   |Name x p2 =>
    cases as with
    |nil=>exact ff h
    |cons v vs =>
     cases ks with
     |cons _ _=>exact ff h
     |nil =>
      have h:(x==jj id&&gl sc x&&(eD.contains id||dH.contains id)&&qm Pm es N sc (v::vs))=true:=h;simp only[Wa,beq_iff_eq,vn] at h;obtain(⟨⟨⟨rfl,h1⟩,h2⟩,h4⟩):=h;have b:=mO es c (v::vs) h4;exact Sd.of (yd (zd (B7 fz c (by simpa using h2) h1 b.pa b.plain) λσ hh=>by simp only[ya]))
   |_=>exact ff h
  |_=>exact ff h
 |.lD a t,X,E,Ra,N,sc,c,e,h=>by
  obtain(⟨x,v,y,p1,p2,p3,rfl,g⟩):=A5 (show(match EA e with|some (x,v,y)=>x==("isinstance":Str)&&gl sc x&&y==jj t&&gl sc y&&(a9.contains t||(Pm.subs t t).isSome)&&Zf Pm a N sc v|none=>false)=true from Zd h);simp only[Wa,beq_iff_eq,vn] at g;obtain(⟨⟨⟨⟨⟨rfl,h1⟩,rfl⟩,h2⟩,h3⟩,h4⟩):=g;exact Sd.of (yd (zd (B0 c h3 h1 h2 (sB a c v h4).1 (Zn h4)) λσ hh=>by simp only[ya]))
 |.gJ a b,X,E,Ra,N,sc,c,e,h=>by
  replace h:=Zd h;replace h:(match EZ e with|some (x,y)=>Zf Pm a N sc x&&Zf Pm b N sc y|none=>false)=true:=h;split at h
  next x y w =>
   obtain(⟨k1,p1,k2,p2,p,rfl⟩):=ybV w;simp only[Wa] at h;exact Sd.of (yd (zd (YcA (sB a c x h.1).1 (sB b c y h.2).1) λσ hh=>by simp only[ya]))
  next=>exact ff h
 |.oF fz a,X,E,Ra,N,sc,c,e,h=>by
  replace h:=Zd h;replace h:(match u7 e with|some (x,y,v)=>false|none=>match JD e with|some v=>Zf Pm a N sc v|none=>false)=true:=h;split at h
  next x y v w=>exact ff h
  next =>
   split at h
   next v w =>
    have hw:∃ st p2 p,e=.Subscript v (.Slice none none (some st) p2) p/\oQ st=true:=by
     unfold JD at w;split at w
     ·split at w
      ·cases w;exact⟨_,_,_,rfl,by assumption⟩
      ·cases w
     ·cases w
    obtain(⟨st,p2,p,rfl,sd⟩):=hw;exact Sd.of (yd (zd (Zc6 fz c sd (sB a c v h).1) λσ hh=>by simp only[ya]))
   next=>exact ff h
 |.j5 a,X,E,Ra,N,sc,c,e,h=>by
  replace h:=Zd h;replace h:(match u7 e with|some (x,y,v)=>x==("sorted":Str)&&gl sc x&&y==("list":Str)&&gl sc y&&Zf Pm a N sc v|none=>false)=true:=h;split at h
  next x y v w =>
   obtain(⟨p1,p2,p3,p,rfl⟩):=Qbt w;simp only[Wa,beq_iff_eq] at h;obtain(⟨⟨⟨⟨rfl,h1⟩,rfl⟩,h2⟩,h3⟩):=h;exact Sd.of (yd (zd (Qc8 (p4:=p) c h1 h2 (sB a c v h3).1 (Zn h3)) λσ hh=>by simp only[ya]))
  next=>exact ff h
 |.oO,X,E,Ra,N,sc,c,e,h=>by
  replace h:=Zd h;cases e with
  |Dict ks vs p =>
   cases ks with
   |nil =>
    cases vs with
    |nil=>exact Sd.of (yd (zd qcY λσ hh=>by simp only[ya]))
    |cons _ _=>exact ff h
   |cons _ _=>exact ff h
  |_=>exact ff h
 |.Du a,X,E,Ra,N,sc,c,e,h=>by
  obtain(⟨x,v,p1,p2,rfl,g⟩):=Ce (show(match rG e with|some (x,v)=>x==("dict":Str)&&gl sc x&&Zf Pm a N sc v|none=>false)=true from Zd h);simp only[Wa,beq_iff_eq] at g;obtain(⟨⟨rfl,h1⟩,h2⟩):=g;exact Sd.of (yd (zd (BX c h1 (sB a c v h2).1 (Zn h2)) λσ hh=>by simp only[ya]))
 |.oM a b,X,E,Ra,N,sc,c,e,h=>by
  replace h:=Zd h;cases e with
  |Call f as ks p =>
   cases f with
   |Attribute x n ap =>
    rcases as with _|⟨v,_|⟨v2,as⟩⟩
    ·exact ff h
    ·cases ks with
     |nil =>
      replace h:(n==("update":Str)&&yj x&&(ap.endLine==p.line)&&Zf Pm a N sc x&&Zf Pm b N sc v)=true:=h;simp only[Wa,beq_iff_eq] at h;obtain(⟨⟨⟨⟨rfl,h1⟩,h2⟩,h3⟩,h4⟩):=h;exact Sd.of (yd (zd (Qc9 (sB a c x h3).1 (sB b c v h4).1 h1 (Zn h4) (by simpa using h2)) λσ hh=>by simp only[ya]))
     |cons _ _=>exact ff h
    ·exact ff h
   |_=>exact ff h
  |_=>exact ff h
 |.oN a b,X,E,Ra,N,sc,c,e,h=>by
  obtain(⟨l,o,r,p,rfl,g⟩):=E9 (show(match Q9 e with|some (l,o,r)=>o == .NotIn&&Zf Pm a N sc l&&Zf Pm b N sc r|none=>false)=true from Zd h);simp only[Wa,beq_iff_eq] at g;obtain(⟨⟨rfl,h1⟩,h2⟩):=g;exact Sd.of (zt (ycT c.units (sB a c l h1).1 (sB b c r h2).1 (Zn h2)) λσ hh=>by simp only[ya])
 |.mw a b,X,E,Ra,N,sc,c,e,h=>by
  replace h:=Zd h;cases e <;> exact ff h
 |.lm m o es,X,E,Ra,N,sc,c,e,h=>by
  have h:=Zd h;cases e with
  |Call g as ks p =>
   cases g with
   |Attribute x nm ap =>
    cases ks with
    |cons _ _=>exact ff h
    |nil =>
     have h:(nm==jj m&&yj x&&(ap.endLine==p.line)&&Zf Pm o N sc x&&qm Pm es N sc as&&(if as.isEmpty then hZ.contains m else i7.contains m&&decide (as.length<30)))=true:=h;simp only[Wa,beq_iff_eq] at h;obtain(⟨⟨⟨⟨⟨rfl,h1⟩,h2⟩,h3⟩,h4⟩,h5⟩):=h;have b:=mO es c as h4;have ho:=(sB o c x h3).1;have hl:(ap.endLine==p.line)=true:=by simpa using h2
     cases as with
     |nil =>
      cases es with
      |cons _ _=>exact b.elim
      |nil =>
       have Ih:m∈hZ:=by simpa using h5
       simp only[hZ,Xa,Vc,or_false] at Ih
     |cons v vs =>
      have Ih:m∈i7/\(v::vs).length<30:=by simpa using h5
      obtain(⟨h6,h7⟩):=Ih;simp only[i7,Xa,Vc,or_false] at h6
      rcases h6 with rfl|rfl
      ·exact Sd.of (yd (zd (Lu PySem.F.slot_list_append PySem.F.type_list_append zbP ho h1 b.pa b.plain h7 hl) λσ hh=>by simp only[ya]))
      ·exact Sd.of (yd (zd (Lu PySem.F.slot_list_extend PySem.F.type_list_extend ybS ho h1 b.pa b.plain h7 hl) λσ hh=>by simp only[ya]))
   |_=>exact ff h
  |_=>exact ff h
 |.comp fz elt tg it src cond bX js,X,E,Ra,N,sc,c,e,h=>by
  have h:=Zd h;cases e with
  |ListComp x gs cs p =>
   rcases gs with _|⟨⟨t,iter,ifs,a⟩,_|⟨g2,gs⟩⟩
   ·exact ff h
   ·have h:((a==0)&&qa iter&&QC sc N cs (mT tg t++js.filterMap λj=>N[j]?) bX js&&decide (mT tg t++js.filterMap λj=>N[j]?).Nodup&&QB (rS cs) (mT tg t++js.filterMap λj=>N[j]?) (zI cs sc) tg t&&Zf Pm elt (mT tg t++js.filterMap λj=>N[j]?) (zI cs sc) x&&pq Pm cond (mT tg t++js.filterMap λj=>N[j]?) (zI cs sc) ifs&&(if it == "seq" then mU Pm src N sc iter else if it == "signs" then false else if it == "enum1" then rE t sc iter&&mU Pm src N sc (pJ iter) else rD t it iter&&gl sc (jj it)&&qm Pm src N sc (YC iter)))=true:=h;simp only[Wa,beq_iff_eq,decide_eq_true_eq] at h;obtain(⟨⟨⟨⟨⟨⟨⟨ha,h1⟩,h2⟩,h3⟩,h4⟩,h5⟩,h6⟩,h7⟩):=h;subst ha;have hi:PI X t iter (lI ct Ra E (Zg Pm (run Pm n) src) it):=by
     split at h7
     next hs =>
      subst hs;exact FO src c t iter h7
     next hs =>
      split at h7
      next G6 =>
       subst G6;exact ff h7
      next =>
      split at h7
      next k8 =>
       subst k8;simp only[Wa] at h7;exact FN src c t iter h7.1 h7.2
      next =>
       simp only[Wa] at h7;obtain(⟨⟨k1,k2⟩,k3⟩):=h7;exact Ju c k1 k2 (mO src c (YC iter) k3)
    exact Sd.of (yd (zd (Zc9 fz (by rw[c.sc,c.nm];exact h2) c.calm hi (λC s3 H ex=>sG rfl (c.comp h3 C s3 H ex).sc h3 c.calm (λ_ z=>z) tg t h4) (λC s3 H ex=>Mo cond (c.comp h3 C s3 H ex) ifs h6) (λC s3 H ex=>(sB elt (c.comp h3 C s3 H ex) x h5).1) h1) λσ hh=>by simp only[ya]))
   ·exact ff h
  |_=>exact ff h
 |.eQ m,X,E,Ra,N,sc,c,e,h=>by
  have h:=Zd h;have h':Zf Pm m N sc e=true:=h;exact⟨zd (B4 (sB m c e h').1) λσ hh=>by simp only[ya],λz=>xj z⟩
theorem mO:∀(mV:List ME){X:Cx}{E:XK}{Ra:L2.St->Prop}{N:List Str} {sc:az} (c:Cc X Pm ct n Ra E N sc) (es:List Expr),qm Pm mV N sc es=true->Bo ct X Ra E Pm n mV es
 |[],X,E,Ra,N,sc,c,es,h=>by
  cases es with
  |nil=>trivial
  |cons e es=>exact ff h
 |m::ms,X,E,Ra,N,sc,c,es,h=>by
  cases es with
  |nil=>exact ff h
  |cons e es =>
   have h:=Ybp h;exact⟨⟨Zn h.1,sB m c e h.1⟩,mO ms c es h.2⟩
theorem FO:∀(mV:List ME){X:Cx}{E:XK}{Ra:L2.St->Prop}{N:List Str} {sc:az} (c:Cc X Pm ct n Ra E N sc) (t e:Expr),mU Pm mV N sc e=true->PI X t e (lI ct Ra E (Zg Pm (run Pm n) mV) "seq")
 |[],X,E,Ra,N,sc,c,t,e,h=>ff h
 |[m],X,E,Ra,N,sc,c,t,e,h=>by
  have h:Zf Pm m N sc e=true:=h;have:=zda c.hK (tg:=t) (sB m c e h).1;have e2:Zg Pm (run Pm n) [m]=λσ hh=>(ya Pm (run Pm n) m σ hh).bind λx h1=>.ok [x] h1:=by
   funext σ hh;simp only[Zg] <;> rfl
  rw[e2];exact this
 |_::_::_,X,E,Ra,N,sc,c,t,e,h=>ff h
theorem FN:∀(mV:List ME){X:Cx}{E:XK}{Ra:L2.St->Prop}{N:List Str} {sc:az} (c:Cc X Pm ct n Ra E N sc) (t e:Expr),rE t sc e=true->mU Pm mV N sc (pJ e)=true->PI X t e (lI ct Ra E (Zg Pm (run Pm n) mV) "enum1")
 |[],X,E,Ra,N,sc,c,t,e,h0,h=>ff h
 |[m],X,E,Ra,N,sc,c,t,e,h0,h=>by
  unfold rE at h0;simp only[Wa] at h0;obtain⟨⟨h1,h2⟩,h3⟩:=h0;obtain⟨k1,k2,k3⟩:=QH c.sc h2;cases hf:YK e with
  |none=>rw[hf] at h3;cases h3
  |some a =>
   obtain⟨j,p,cp,kp,pos,rfl⟩:=qcg hf;have ea:pJ (Eu a j p cp kp pos)=a:=by unfold pJ;rw[hf];rfl
   rw[ea] at h;have h:Zf Pm m N sc a=true:=h;cases t with
   |Tuple es k pt =>
    have:=ycd (p:=p) (pos:=pos) (es:=es) (kt:=k) (pt:=pt) (j:=j) (cp:=cp) (kp:=kp) c.hK k1 (c.txt.iq "enumerate" (by simp)) (sB m c a h).1 (Zn h);have e2:Zg Pm (run Pm n) [m]=λσ hh=>(ya Pm (run Pm n) m σ hh).bind λx h1=>.ok [x] h1:=by
     funext σ hh;simp only[Zg] <;> rfl
    rw[e2];exact this
   |_=>exact ff h1
 |_::_::_,X,E,Ra,N,sc,c,t,e,h0,h=>ff h
theorem Mn:∀(mo:Option ME){X:Cx}{E:XK}{Ra:L2.St->Prop}{N:List Str} {sc:az} (c:Cc X Pm ct n Ra E N sc) (eo:Option Expr),Cp Pm mo N sc eo=true->PO X eo (lO ct Ra E (yZ Pm (run Pm n) mo))
 |none,X,E,Ra,N,sc,c,eo,h=>by
  cases eo with
  |none =>
   refine PO.imp zcC λσ H Q q=>?_;obtain⟨μ,hh,σs,rel,aG,ra,p⟩:=q;simp only[yZ] at p;exact p.now rel
  |some e=>exact ff h
 |some m,X,E,Ra,N,sc,c,eo,h=>by
  cases eo with
  |none=>exact ff h
  |some e =>
   have h:Zf Pm m N sc e=true:=h;refine PO.imp (O7 (sB m c e h).1) λσ H Q q=>?_;obtain⟨μ,hh,σs,rel,aG,ra,p⟩:=q;simp only[yZ] at p;refine lE.mk rel aG ra p λx v μ1 h1 H1 ex ar aQ rv p1=>?_;obtain⟨i,e,p2⟩:=Po.opt p1;have:=zf e;subst this;exact⟨i,Zj rv,p2.now ar⟩
theorem Mo:∀(mo:Option ME){X:Cx}{E:XK}{Ra:L2.St->Prop}{N:List Str} {sc:az} (c:Cc X Pm ct n Ra E N sc) (es:List Expr),pq Pm mo N sc es=true->m6 X es (lT ct Ra E (rn Pm (run Pm n) mo))
 |none,X,E,Ra,N,sc,c,es,h=>by
  cases es with
  |nil =>
   refine m6.imp Qcs λσ H Q q=>?_;obtain⟨μ,hh,σs,rel,aG,ra,p⟩:=q;simp only[rn] at p;exact p.now rel
  |cons e es=>exact ff h
 |some m,X,E,Ra,N,sc,c,es,h=>by
  rcases es with _|⟨e,_|⟨e2,es⟩⟩
  ·exact ff h
  ·have h:(jB m&&Zf Pm m N sc e)=true:=h;rw[Wa] at h;have e2:rn Pm (run Pm n) (some m)=fM (ya Pm (run Pm n) m):=by
    funext σ hh;simp only[rn,fM]
   rw[e2];exact ycx ((sB m c e h.2).2 h.1)
  ·exact ff h
end
end SD
end
section
namespace SD
open PySem PySem.Spec PyProof.Rows L2 L3 M3 MP
noncomputable def fA(ct:Tx)(E:XK)(r:RS)(μ:List ae)(h:MH)(H:Hp)(D:Ends):Prop:=match r with
 |.next σ' h'=>∀ μ' H' σ,Ext μ h H μ' h' H'->Rel ct μ' h' H'->aW ct μ' h' H' σ σ'->D.nx σ H'
 |.ret m h'=>∀ μ' H' v,Ext μ h H μ' h' H'->Rel ct μ' h' H'->RV ct μ' (aZ μ' h') H' m v->D.rt v H'
 |.brk σ' h'=>∀ μ' H' σ,Ext μ h H μ' h' H'->Rel ct μ' h' H'->aW ct μ' h' H' σ σ'->D.bk σ H'
 |.cnt σ' h'=>∀ μ' H' σ,Ext μ h H μ' h' H'->Rel ct μ' h' H'->aW ct μ' h' H' σ σ'->D.ct σ H'
 |.exc c h'=>∀ μ' H',Ext μ h H μ' h' H'->Rel ct μ' h' H'->E (.ref (ct c)) none H'
 |.stuck=>False
noncomputable def lS(ct:Tx)(Ra:L2.St->Prop)(E:XK)(ex:aF->MH->RS):TS:=λD σ H=>∃ μ h σs,Rel ct μ h H/\aW ct μ h H σ σs/\Ra σ/\fA ct E (ex σs h) μ h H D
section
variable {ct:Tx} {Pm:Prog} {n:Nat} {X:Cx} {E:XK} {Ra:L2.St->Prop} {N:List Str} {sc:az}
section
variable {μ μ1:List ae} {h h1:MH} {H H1:Hp} {D:Ends} {α:Type}
theorem fA.start  (e:Ext μ h H μ1 h1 H1)(p:fA ct E r μ h H D):fA ct E r μ1 h1 H1 D:=by
 cases r with
 |next σ' h'=>exactλμ' H' σ e' r' q=>p μ' H' σ (e.trans e') r' q
 |ret m h'=>exactλμ' H' v e' r' q=>p μ' H' v (e.trans e') r' q
 |brk σ' h'=>exactλμ' H' σ e' r' q=>p μ' H' σ (e.trans e') r' q
 |cnt σ' h'=>exactλμ' H' σ e' r' q=>p μ' H' σ (e.trans e') r' q
 |exc c h'=>exactλμ' H' e' r'=>p μ' H' (e.trans e') r'
 |stuck=>exact p
theorem fA.st   (p:fA ct E (r.st k) μ h H D):Po ct E r μ h H λx μ1 h1 H1=>Ext μ h H μ1 h1 H1/\Rel ct μ1 h1 H1/\fA ct E (k x h1) μ1 h1 H1 D:=by
 cases r with
 |ok x h'=>exactλμ' H' e' r'=>⟨e',r',fA.start (r:=k x h') e' p⟩
 |exc c h'=>exact p
 |stuck=>exact p
theorem fA.opt   (p:fA ct E (qy o k) μ h H D):∃ x,o=some x/\fA ct E (k x) μ h H D:=by
 cases o with
 |none=>exact p.elim
 |some x=>exact⟨x,rfl,p⟩
end
section
variable {μ:List ae} {h:MH} {H:Hp} {σ:L2.St} {σs:aF} {D:Ends}
theorem lE.st    (rel:Rel ct μ h H)(aG:aW ct μ h H σ σs)(ra:Ra σ)(p:fA ct E ((ev σs h).st k) μ h H D)
  (f:∀ m v μ1 h1 H1,Ext μ h H μ1 h1 H1->Rel ct μ1 h1 H1->aW ct μ1 h1 H1 σ σs->RV ct μ1 (aZ μ1 h1) H1 m v->fA ct E (k m h1) μ1 h1 H1 D->Q v H1):lE ct Ra E ev σ H Q :=
 ⟨μ,h,σs,rel,aG,ra,(fA.st p).imp λm μ1 h1 H1 ⟨e1,r1,p1⟩ v rv=>f m v μ1 h1 H1 e1 r1 (aG.ext e1) rv p1⟩
end
structure Cs (X:Cx) (Pm:Prog) (ct:Tx) (n:Nat) (E:XK) (N:List Str) (sc:az):Prop where
 cc:Cc X Pm ct n (λ_=>True) E N sc
 ex:X.ex=[]
 own:f' (ah X.prog X.w) X.A X.env X.xe
 tk:JU X E
 fn:∀ x,X.fn x=true
 kd:X.env.scope.kind=.function
 FF:X.stack=X.env::X.outer
 fr:X.env.frame=some X.env.locals
section
variable {ea eb ec:aF->MH->R MV} {a b c:Expr} {pos p2:Pos}
noncomputable def mZ:Expr->Bool
 |.ListComp ..=>true
 |.SetComp ..=>true
 |.DictComp ..=>true
 |_=>false
theorem J2     (h:mZ e=false):bh e t l env=pure false:=by
 cases e <;> first|rfl|(simp[mZ] at h)
theorem Lr    (h1:∀ x gs cs p,bh (.ListComp x gs cs p) (some t) l env=pure false)(h2:∀ x gs cs p,bh (.SetComp x gs cs p) (some t) l env=pure false)(h3:∀ x y gs cs p,bh (.DictComp x y gs cs p) (some t) l env=pure false):bh e (some t) l env=pure false:=by
 cases hl:mZ e with
 |false=>exact J2 hl
 |true =>
  cases e with
  |ListComp x gs cs p=>exact h1 _ _ _ _
  |SetComp x gs cs p=>exact h2 _ _ _ _
  |DictComp x y gs cs p=>exact h3 _ _ _ _ _
  |_=>exact xj (show false=true from hl)
theorem wO        (h:∀ x p,t≠.Name x p):bh (.ListComp x gs cs p) (some t) l env=pure false:=by
 cases t with
 |Name x p=>exact absurd rfl (h x p)
 |_=>rfl
theorem qc2(ha:PE X a (lE ct Ra E ea))(hl:mZ a=false):PS X (.Expr a pos) (lS ct Ra E λσ h=>(ea σ h).st λ_ h1=>.next σ h1):=PS.imp (ZcB ha (J2 hl)) λD σ H q=>by
 obtain⟨μ,h,σs,rel,aG,ra,p⟩:=q;exact lE.st rel aG ra p λm v μ1 h1 H1 ex ar aQ rv p1=>p1 μ1 H1 σ (Ext.refl _ _ _) ar aQ
theorem w4(ha:PE X a (lE ct Ra E ea)):PS X (.Return (some a) pos) (lS ct Ra E λσ h=>(ea σ h).st λv h1=>.ret v h1):=PS.imp (Ms ha) λD σ H q=>by
 obtain⟨μ,h,σs,rel,aG,ra,p⟩:=q;exact lE.st rel aG ra p λm v μ1 h1 H1 ex ar aQ rv p1=>p1 μ1 H1 v (Ext.refl _ _ _) ar rv
theorem FJ   (tc:PT X c (lT ct Ra E (fM ec)))(hx:iu X x (lS ct Ra E ex))(hy:iu X y (lS ct Ra E ey)) :
  PS X (.If c x y pos) (lS ct Ra E λσ h=>(ec σ h).st λv h1=>qy (yG v) λk=>if k=true then ex σ h1 else ey σ h1):=PS.imp (Ad tc hx hy) λD σ H q=>by
 obtain⟨μ,h,σs,rel,aG,ra,p⟩:=q;have p':fA ct E ((fM ec σs h).st λk h1=>if k=true then ex σs h1 else ey σs h1) μ h H D:=by
  dsimp only[fM] at p ⊢;cases er:ec σs h with
  |stuck=>rw[er] at p;exact p
  |exc c h'=>rw[er] at p;exact p
  |ok x h' =>
   rw[er] at p;simp only[R.ay,R.st_ok] at p ⊢;cases eb:yG x with
   |none=>rw[eb] at p;exact p.elim
   |some k=>rw[eb] at p;exact p
 refine⟨μ,h,σs,rel,aG,ra,(fA.st p').imp λk μ1 h1 H1 ⟨ig,ar,p1⟩=>?_⟩;cases k with
 |true=>exact⟨μ1,h1,σs,ar,aG.ext ig,ra,p1⟩
 |false=>exact⟨μ1,h1,σs,ar,aG.ext ig,ra,p1⟩
theorem wZ  (c:Cs X Pm ct n E N sc)(ht:QB rR N sc tg b=true)(ha:PE X a (lE ct (λ_=>True) E ea))(hs:bh a (some b) pos.line X.env=pure false)(hw:gB [b] a X.env=pure none) :
  PS X (.Assign [b] a pos) (lS ct (λ_=>True) E λσ h=>(ea σ h).st λv h1=>qy (yr tg v σ) λσ1=>.next σ1 h1):=by
 refine PS.imp (P5 ha (sG (ct:=ct) c.cc.nm c.cc.sc c.cc.nd c.cc.calm (λx _=>c.fn x) tg b ht) hs hw (by rw[Gy ht [] X.env];rfl)) λD σ H q=>?_;obtain⟨μ,h,σs,rel,aG,ra,p⟩:=q;refine lE.st rel aG ra p λm v μ1 h1 H1 ex ar aQ rv p1=>?_;obtain⟨σ1,e,p2⟩:=fA.opt p1;exact⟨μ1,h1,σs,m,σ1,ar,aQ,rv,e,λσ' iU=>p2 μ1 H1 σ' (Ext.refl _ _ _) ar iU⟩
theorem qbA   (hp : qa i=true) : ∀ v, eP (.Subscript o i pos) env v=(do
   let ov<-cx [v] (eval o env)
   let iv<-cx [v,ov] (eval i env)
   i6 pos
   cx [v,ov,iv] (kT ov iv v)
   release [v,ov,iv] []):=by
 intro v;cases i <;> first|rfl|(simp[qa] at hp)
theorem Qcj  (ha:PE X a (lE ct Ra E ea))(ho:PE X o (lE ct Ra E eb))(hi:PE X i (lE ct Ra E ec))(hp:qa i=true) :
  PS X (.Assign [.Subscript o i p2] a pos) (lS ct Ra E λσ h=>(ea σ h).st λv h1=>(eb σ h1).st λx h2=>(ec σ h2).st λy h3 =>
   match x with
   |.ref a=>qy (Qc h3 a) λxs=>qy (yc y) λk=>qy (lu xs.length k) λj=>.next σ (Ye h3 a (xs.set j v))
   |_=>.stuck):=by
 refine PS.imp (P5 ha (Qc7 ho hi zcm (qbA hp)) (show j3 [Expr.Subscript o i p2] a pos.line X.env=pure false from Lr (e:=a) (t:=.Subscript o i p2) (l:=pos.line) (env:=X.env) (λ_ _ _ _=>rfl) (λ_ _ _ _=>rfl) (λ_ _ _ _ _=>rfl)) (by cases a <;> rfl) rfl) λD σ H q=>?_;obtain⟨μ,h,σs,rel,aG,ra,p⟩:=q;refine lE.st rel aG ra p λm v μ1 h1 H1 ig ar aQ rv p1=>?_;refine lE.st ar aQ ra p1 λm2 v2 μ2 h2 H2 dJ aU dD jU p2=>?_;refine lE.st aU dD ra p2 λm3 v3 μ3 h3 H3 gF eK nr xN p3=>?_;cases m2 with
 |ref i0 =>
  obtain⟨xs,e1,p4⟩:=fA.opt p3;obtain⟨k,e2,p5⟩:=fA.opt p4;obtain⟨j,e3,p6⟩:=fA.opt p5;have:=zf e2;subst this;obtain⟨b',vs,i8,hb,rs⟩:=eK.lst e1;have nq:=jU.ext gF;simp only[RV] at nq;obtain⟨b0,pd,rfl⟩:=nq;rw[i8] at pd;cases pd;have e4:=yN e1;have lx:=Ext.set (H:=H3) eK i8 e4 (λz=>nomatch z) (.lst (xs.set j m)) (.lst (vs.set j v));refine⟨b',vs,k,j,rfl,Zj xN,hb,by rw[rs.length,<- N8];exact e3,?_⟩;refine p6 μ3 _ σ lx (eK.set i8 e4 (λz=>nomatch z) ⟨_,qd,?_⟩) (nr.ext lx);exact aw.set (((rv.ext dJ).ext gF).ext lx) j (rs.ext lx)
 |f _=>exact p3.elim
 |tup _=>exact p3.elim
 |exc _=>exact p3.elim
theorem YcU    (hu:X.A.units+65<cT)(ho:PE X o (lE ct Ra E eb))(hi:PE X i (lE ct Ra E ec)) :
  PS X (.Assign [.Subscript o i p2] (.Constant (.bool true) k1 p1) pos) (lS ct Ra E λσ h=>(eb σ h).st λx h1=>(ec σ h1).st λy h2=>qy (yc y) λj=>match x with
   |.ref a=>qy (YZ h2 (.ref a)) λks=>if ks.length<1000000 then .next σ (h2.set a (.fI (Qu ks j))) else .stuck
   |_=>.stuck):=by
 refine PS.imp (qcG (by lia) ho hi Dc rfl) λD σ H q=>?_;obtain⟨μ,h,σs,rel,aG,ra,p⟩:=q;refine lE.st rel aG ra p λm2 v2 μ2 h2 H2 dJ aU dD jU p2=>?_;refine lE.st aU dD ra p2 λm3 v3 μ3 h3 H3 gF eK nr xN p3=>?_;obtain⟨k,e2,p4⟩:=fA.opt p3;have:=zf e2;subst this;cases m2 with
 |ref i0 =>
  obtain⟨ks,e1,p5⟩:=fA.opt p4;split at p5
  next hk =>
   obtain⟨i',ei,hc⟩:=Y6 e1;cases ei;have nq:=jU.ext gF;simp only[RV] at nq;obtain⟨b0,pd,rfl⟩:=nq;have hH:H3 b0=some (.dK (nH ks)):=eK.cells _ _ _ pd hc;have lx:=Ext.set (H:=H3) eK pd hc (λz=>nomatch z) (.fI (Qu ks k)) (.dK (nH (Qu ks k)));refine⟨b0,_,rfl,by rw[Zj xN];exact nQ.k (k:=Jb k) hH (by rw[Wc,df];lia),?_⟩;rw[E5];exact p5 μ3 _ σ lx (eK.set pd hc (λz=>nomatch z) qd) (nr.ext lx)
  next=>exact p5.elim
 |f _=>exact p4.elim
 |tup _=>exact p4.elim
 |exc _=>exact p4.elim
theorem Oi       (r:RV ct μ L H m v):∀{fs:List (String×MV)} {gs:List (Str×V)},gs.map ut=fs.map (λp=>jj p.1)->aw ct μ L H (fs.map wo) (gs.map wo) ->
  (yL (jj f) v gs).map ut=(oh f m fs).map (λp=>jj p.1)/\aw ct μ L H ((oh f m fs).map wo) ((yL (jj f) v gs).map wo)
 |[],gs,h1,h2=>by
  cases gs with
  |nil=>exact⟨rfl,aw.cons r aw.nil⟩
  |cons p gs=>simp at h1
 |(k,y)::fs,gs,h1,h2=>by
  cases gs with
  |nil=>simp at h1
  |cons p gs =>
   obtain⟨k',u⟩:=p;simp only[xb,Jm.injEq] at h1;obtain⟨rfl,h3⟩:=h1;simp only[xb,aw] at h2;obtain⟨w,t,e,q1,q2⟩:=h2;cases e;unfold yL oh;by_cases hk:k=f
   ·subst hk;rw[if_pos rfl,if_pos rfl];exact⟨by simp[h3],by simp only[xb];exact aw.cons r q2⟩
   ·rw[if_neg hk,if_neg (λz=>hk (yC z))];obtain⟨i1,i2⟩:=Oi (f:=f) r h3 q2;exact⟨by simp[i1],by simp only[xb];exact aw.cons q1 i2⟩
theorem Yb8   (T:Txt X.prog X.w X.K X.mg X.base Pm ct n)(ha:PE X a (lE ct Ra E ea))(ho:PE X o (lE ct Ra E eb)) :
  PS X (.Assign [.Attribute o (jj f) p2] a pos) (lS ct Ra E λσ h=>(ea σ h).st λv h1=>(eb σ h1).st λx h2=>match x with
   |.ref a=>match h2[a]? with
    |some (.obj c fs)=>if Pm.iZ c f=true/\fs.length<100 then .next σ (h2.set a (.obj c (oh f v fs))) else .stuck
    |_=>.stuck
   |_=>.stuck):=by
 refine PS.imp (zcT ho ha (Lr (λ_ _ _ _=>rfl) (λ_ _ _ _=>rfl) (λ_ _ _ _ _=>rfl))) λD σ H q=>?_;obtain⟨μ,h,σs,rel,aG,ra,p⟩:=q;refine lE.st rel aG ra p λm v μ1 h1 H1 ig ar aQ rv p1=>?_;refine lE.st ar aQ ra p1 λm2 v2 μ2 h2 H2 dJ aU dD jU p2=>?_;cases m2 with
 |ref i0 =>
  dsimp only at p2;split at p2
  next c fs ec =>
   split at p2
   next ok =>
    obtain⟨ok1,ok2⟩:=ok;obtain⟨b,dx,gs,eb,hb,q1,q2⟩:=aU.obj ec;simp only[RV] at jU;obtain⟨b0,pd,rfl⟩:=jU;rw[eb] at pd;cases pd;obtain⟨t1,t2⟩:=T.iZ c f ok1;have hl:gs.length=fs.length:=by have:=congrArg wu q1;simpa using this
    have gF:=Ext.set (H:=H2) aU eb ec (λz=>nomatch z) (.obj c (oh f m fs)) (.ins (ct c) dx (yL (jj f) v gs));refine⟨b,ct c,dx,gs,rfl,hb,t1,t2,by lia,?_⟩;obtain⟨s1,s2⟩:=Oi (f:=f) ((rv.ext dJ).ext gF) q1 (q2.ext gF);exact p2 μ2 _ σ gF (aU.set eb ec (λz=>nomatch z) ⟨dx,_,qd,s1,s2⟩) (dD.ext gF)
   next=>exact p2.elim
  next=>exact p2.elim
 |f _=>exact p2.elim
 |tup _=>exact p2.elim
 |exc _=>exact p2.elim
end
end
end SD
end
section
namespace SD
open PySem PySem.Spec PyProof.Rows L2 L3 M3 MP
section
variable {ct:Tx} {Pm:Prog} {n:Nat} {X:Cx} {E:XK} {N:List Str} {sc:az}
noncomputable abbrev yes:L2.St->Prop:=λ_=>True
section
variable {ea eb ec:aF->MH->R MV} {a b c:Expr} {pos p2:Pos}
theorem Lp{st:Stmt}{rest:List Stmt}{ex ey:aF->MH->RS}(h1:PS X st (lS ct yes E ex))(h2:iu X rest (lS ct yes E ey)):iu X (st::rest) (lS ct yes E λσ h=>(ex σ h).bind λσ1 h1=>ey σ1 h1):=iu.imp (ycg h1 h2) λD σ H q=>by
 obtain⟨μ,h,σs,rel,aG,ra,p⟩:=q;refine⟨μ,h,σs,rel,aG,ra,?_⟩;dsimp only at p;cases er:ex σs h with
 |next σ' h' =>
  rw[er] at p;intro μ' H' σv e1 r1 q1;exact⟨μ',h',σ',r1,q1,trivial,fA.start e1 p⟩
 |ret m h'=>rw[er] at p;exact p
 |brk σ' h'=>rw[er] at p;exact p
 |cnt σ' h'=>rw[er] at p;exact p
 |exc c h'=>rw[er] at p;exact p
 |stuck=>rw[er] at p;exact p
theorem w6:iu X [] (lS ct yes E λσ h=>.next σ h):=iu.imp YcE λD σ H q=>by
 obtain⟨μ,h,σs,rel,aG,ra,p⟩:=q;exact p μ H σ (Ext.refl _ _ _) rel aG
theorem Yc2:PS X (.Pass pos) (lS ct yes E λσ h=>.next σ h):=PS.imp QcE λD σ H q=>by
 obtain⟨μ,h,σs,rel,aG,ra,p⟩:=q;exact p μ H σ (Ext.refl _ _ _) rel aG
theorem xJ       (c:Cs X Pm ct n E N sc)(hi:PI X t iter (lI ct yes E ev it))(ht:QB rR N sc tg t=true)(hb:iu X body (lS ct yes E ex))(bZ:qa iter=true) :
  PS X (.For t iter body [] pos) (lS ct yes E λσ h=>(ev σ h).st λxs h1=>qy (gE it xs h1) λp=>zJ p.2 (Qm tg ex) p.1 σ h1):=by
 refine PS.imp (ZcU c.own c.cc.calm hi (sG (ct:=ct) c.cc.nm c.cc.sc c.cc.nd c.cc.calm (λx _=>c.fn x) tg t ht) hb (zN bZ)) λD σ H q=>?_;obtain⟨μ,h,σs,rel,aG,ra,p⟩:=q;refine⟨μ,h,σs,rel,aG,ra,(fA.st p).imp λxs μ1 h1 H1 ⟨ig,ar,p1⟩=>?_⟩;obtain⟨⟨items,g⟩,e1,p2⟩:=fA.opt p1;refine⟨items,g,e1,ar,λJ wk=>?_⟩;dsimp only at p2;refine⟨λi m σ' H'=>∃ μ' h' σs',m=items.length-i/\i<=items.length/\Ext μ1 h1 H1 μ' h' H'/\Rel ct μ' h' H'/\aW ct μ' h' H' σ' σs'/\fA ct E (zJ g (Qm tg ex) (items.drop i) σs' h') μ' h' H' D,?_,?_⟩
 ·exact⟨items.length,μ1,h1,σs,by simp,Wn _,Ext.refl _ _ _,ar,aG.ext ig,by simpa using p2⟩
 ·rintro i m σ' H' ⟨μ',h',σs',rfl,lY,dJ,bp,iU,p3⟩;by_cases lt:i<items.length
  ·right
   have ed:items.drop i=items[i]::items.drop (i+1):=Wv lt;rw[ed] at p3;simp only[zJ] at p3;split at p3
   next gd =>
    obtain⟨w1,_⟩:=wk i μ' h' H' dJ bp gd;obtain⟨go,yl⟩:=w1 lt;refine⟨go,λσ2 H2=>∃ μ2 h2 σ2s,Ext μ1 h1 H1 μ2 h2 H2/\Rel ct μ2 h2 H2/\aW ct μ2 h2 H2 σ2 σ2s/\fA ct E (zJ g (Qm tg ex) (items.drop (i+1)) σ2s h2) μ2 h2 H2 D,λσ2 H2 ⟨μ2,h2,σ2s,e2,r2,q2,p4⟩=>⟨items.length-(i+1),by lia,μ2,h2,σ2s,rfl,lt,e2,r2,q2,p4⟩,λx H2 y=>?_⟩;obtain⟨mx,em,gF,aU,rx⟩:=yl x H2 y;have Iz:mx=items[i]:=by simpa[lt] using em.symm
    subst Iz;have p4:=fA.start gF p3;unfold Qm at p4;cases eb:yr tg items[i] σs' with
    |none=>rw[eb] at p4;exact p4.elim
    |some σ2s =>
     rw[eb] at p4;simp only[qt] at p4;refine⟨μ',h',σs',items[i],σ2s,aU,iU.ext gF,rx,eb,λσ2 dD=>?_⟩;refine⟨μ',h',σ2s,aU,dD,trivial,?_⟩;cases er:ex σ2s h' with
     |next σ3 h3 =>
      rw[er] at p4;intro μ3 H3 σv e3 r3 q3;exact⟨μ3,h3,σ3,(dJ.trans gF).trans e3,r3,q3,fA.start e3 p4⟩
     |cnt σ3 h3 =>
      rw[er] at p4;intro μ3 H3 σv e3 r3 q3;exact⟨μ3,h3,σ3,(dJ.trans gF).trans e3,r3,q3,fA.start e3 p4⟩
     |brk σ3 h3=>rw[er] at p4;exact p4
     |ret m h3=>rw[er] at p4;exact p4
     |exc c h3=>rw[er] at p4;exact p4
     |stuck=>rw[er] at p4;exact p4
   next=>exact p3.elim
  ·left
   have Bt:i=items.length:=by lia
   subst Bt;rw[xI] at p3;simp only[zJ] at p3;split at p3
   next gd =>
    obtain⟨_,w2⟩:=wk items.length μ' h' H' dJ bp gd;exact⟨w2 rfl,p3 μ' H' σ' (Ext.refl _ _ _) bp iU⟩
   next=>exact p3.elim
theorem zcr   (c':Cs X Pm ct n E N sc)(tc:PT X c (lT ct yes E (fM ec)))(hb:iu X body (lS ct yes E ex))(k) :
  PS X (.While c body [] pos) (lS ct yes E λσ h=>yE ec ex k σ h):=by
 refine PS.imp (qcn c'.own tc hb) λD σ H q=>?_;obtain⟨μ,h,σs,rel,aG,ra,p⟩:=q;refine⟨λm σ' H'=>∃ μ' h' σs',Rel ct μ' h' H'/\aW ct μ' h' H' σ' σs'/\fA ct E (yE ec ex m σs' h') μ' h' H' D,⟨k,μ,h,σs,rel,aG,p⟩,?_⟩;rintro m σ' H' ⟨μ',h',σs',bp,iU,p1⟩;cases m with
 |zero=>exact p1.elim
 |succ m =>
  simp only[yE] at p1;have p2:fA ct E ((fM ec σs' h').st λb h1=>if b=true then(ex σs' h1).turn λσ2 h2=>yE ec ex m σ2 h2 else .next σs' h1) μ' h' H' D:=by
   dsimp only[fM];cases er:ec σs' h' with
   |stuck=>rw[er] at p1;exact p1
   |exc c h'=>rw[er] at p1;exact p1
   |ok x h' =>
    rw[er] at p1;simp only[R.ay,R.st_ok] at p1 ⊢;cases eb:yG x with
    |none=>rw[eb] at p1;exact p1.elim
    |some k=>rw[eb] at p1;exact p1
  refine⟨μ',h',σs',bp,iU,trivial,(fA.st p2).imp λb μ1 h1 H1 ⟨ig,ar,p3⟩=>?_⟩;cases b with
  |false=>exact p3 μ1 H1 σ' (Ext.refl _ _ _) ar (iU.ext ig)
  |true =>
   simp only[if_true] at p3 ⊢;refine⟨λσ2 H2=>∃ μ2 h2 σ2s,Rel ct μ2 h2 H2/\aW ct μ2 h2 H2 σ2 σ2s/\fA ct E (yE ec ex m σ2s h2) μ2 h2 H2 D,λσ2 H2 q2=>⟨m,by lia,q2⟩,μ1,h1,σs',ar,iU.ext ig,trivial,?_⟩;cases er:ex σs' h1 with
   |next σ3 h3 =>
    rw[er] at p3;intro μ3 H3 σv e3 r3 q3;exact⟨μ3,h3,σ3,r3,q3,fA.start e3 p3⟩
   |cnt σ3 h3 =>
    rw[er] at p3;intro μ3 H3 σv e3 r3 q3;exact⟨μ3,h3,σ3,r3,q3,fA.start e3 p3⟩
   |brk σ3 h3=>rw[er] at p3;exact p3
   |ret m h3=>rw[er] at p3;exact p3
   |exc c h3=>rw[er] at p3;exact p3
   |stuck=>rw[er] at p3;exact p3
theorem w8{i:Nat}{rest:List Stmt}{ey:aF->MH->RS}(h2:iu X rest (lS ct yes E ey)):iu X rest (lS ct yes E λσ h=>(qy ((σ[i]?).join) λv=>(ZJ v h).st λx h1=>.next (σ.set i (some x)) h1).bind λσ1 h1=>ey σ1 h1):=iu.imp h2 λD σ H q=>by
 obtain⟨μ,h,σs,rel,aG,ra,p⟩:=q;dsimp only at p;cases e:(σs[i]?).join with
 |none=>rw[e] at p;exact p.elim
 |some m =>
  rw[e] at p;simp only[qt] at p;have e':σs[i]?=some (some m):=by
   cases q:σs[i]? with
   |none=>rw[q] at e;cases e
   |some z=>rw[q] at e;exact congrArg some e
  obtain⟨v,ev,rv⟩:=aG.at_ i m e';cases ef:ZJ m h with
  |stuck=>rw[ef] at p;exact p.elim
  |exc c h' =>
   unfold ZJ at ef;cases ed:ZT h m with
   |none=>rw[ed] at ef;cases ef
   |some x=>rw[ed] at ef;cases ef
  |ok x h' =>
   rw[ef] at p;simp only[R.st_ok,RS.c6] at p;have po:Po ct E (ZJ m h) μ h H λy μ1 h1 H1=>y=x/\h1=h':=by rw[ef];exactλμ' H' _ _=>⟨rfl,rfl⟩
   obtain⟨y,uJ,ig,ar,pR,rfl,rfl⟩:=K4 rel rv po;refine⟨μ,uJ,σs.set i (some (.f y)),ar,?_,trivial,fA.start ig p⟩;have r2:=(aG.ext ig).set i pR;have:σ.set i (some v)=σ:=by
    apply Vg;intro j;by_cases hj:i=j
    ·subst hj;rw[Xm (xa.mp ev).1,ev]
    ·rw[Wl hj]
   rw[this] at r2;exact r2
end
end
end SD
end
section
namespace SD
open PySem PySem.Spec PyProof.Rows L2 L3 M3 MP
noncomputable def FD(sc cs:az)(t:Str)(tp vp:Pos):Bool:=sc.names.lookup t==some .local&&tp.line==vp.line&&!(cs.names.any λ(n,k)=>n==t&&(k == .local||k == .cell))
theorem LI  (kd:env.scope.kind=.function)(e)(gs:List Comprehension)(cs)(vp)(t)(tp)(l):bh (.ListComp e gs cs vp) (some (.Name t tp)) l env=pure (FD env.scope cs t tp vp):=by
 have hb:(env.blockKind==ScopeKind.function)=true:=by
  unfold Env.blockKind;rw[kd];rfl
 show(pure (env.blockKind == .function&&env.kindOf t==some .local&&tp.line==vp.line&&!(cs.names.any λ(n,k)=>n==t&&(k == .local||k == .cell))):Sem Bool)=_;rw[hb,Bool.true_and];rfl
noncomputable def Fn:List Expr->Option (Str×Pos×Str×Pos)
 |[.Name x px,.Name y py]=>some (x,px,y,py)
 |_=>none
noncomputable def KJ:Expr->Option (List Expr)
 |.Tuple es _ _=>some es
 |_=>none
noncomputable def Dn:Stmt->Option ((Str×Pos×Str×Pos)×Expr×Expr)
 |.Assign ts v _=>(oH ts).bind λt=>(KJ t).bind λes=>(KJ v).bind λvs=>(Fn es).bind λp=>(rA vs).map λq=>(p,q)
 |_=>none
noncomputable def u0:Expr->Option Str
 |.Name x _=>some x
 |_=>none
noncomputable def Ycu:Expr->Option (Str×Str)
 |.Call f [a] [] _=>(u0 f).bind λz=>(u0 a).map λn=>(z,n)
 |_=>none
noncomputable def Cm:Stmt->Option (Str×Str×Str)
 |.Assign [t] v _=>(u0 t).bind λy=>(Ycu v).map λq=>(y,q.1,q.2)
 |_=>none
noncomputable def HQ(bd:List Stmt):ExceptHandler->Option (List Stmt×Str×Str×Str×Str×Str)
 |.ExceptHandler (some t) (some nm) [s] _=>(u0 t).bind λx=>(Cm s).map λq=>(bd,x,nm,q)
 |_=>none
noncomputable def N3:Expr->Option Str
 |.Constant (.str g) _ _=>some g
 |_=>none
noncomputable def EX:ME->Bool
 |.comp ..=>true
 |_=>false
noncomputable def CT:Expr->Expr->Bool
 |.Tuple ..,.Tuple ..=>true
 |_,_=>false
noncomputable def wU(tg:Tg)(t:Expr)(N:List Str)(sc:az):Bool:=match tg with
 |.nm i=>match u0 t with
  |some x=>N[i]? == some x&&sc.names.lookup x==some .local
  |none=>false
 |_=>false
section
variable (Pm:Prog)
mutual
noncomputable def Ca(ms:MS)(N:List Str)(sc:az)(st:Stmt):Bool:=match ms,st with
 |.expr e,.Expr v _=>!(mZ v)&&Zf Pm e N sc v
 |.ite c a b,.If t x y _=>jB c&&Zf Pm c N sc t&&KG a N sc x&&KG b N sc y
 |.set tg e,.Assign [t] v _=>wU tg t N sc&&!(mZ v)&&Zf Pm e N sc v
 |_,_=>false
noncomputable def KG(tU:List MS)(N:List Str)(sc:az)(jv:List Stmt):Bool:=match tU with
 |[]=>jv.isEmpty
 |m::ms=>match jv with
  |[st]=>ms.isEmpty&&Ca m N sc st
  |_=>false
end
mutual
noncomputable def Gv(ms:MS)(N:List Str)(sc:az)(st:Stmt):Bool:=match ms,st with
 |.set tg e,.Assign [t] v _=>QB rR N sc tg t&&Zf Pm e N sc v&&!(CT t v)&&(if mZ v then EX e else true)
 |.dO o i e,.Assign [.Subscript x y _] v _=>Zf Pm e N sc v&&Zf Pm o N sc x&&Zf Pm i N sc y
 |.gQ o n e,.Assign [.Attribute x m _] v _=>m==jj n&&Zf Pm e N sc v&&Zf Pm o N sc x
 |.nv o k,.Assign [.Subscript x y _] (.Constant (.bool b) _ _) _=>b&&Zf Pm o N sc x&&Zf Pm k N sc y
 |.expr e,.Expr v _=>!(mZ v)&&Zf Pm e N sc v
 |.ret e,.Return (some v) _=>Zf Pm e N sc v
 |.ite c a b,.If t x y _=>jB c&&Zf Pm c N sc t&&QE a N sc x&&QE b N sc y
 |.for_ tg it src body,.For t iter bd [] _=>qa iter&&QB rR N sc tg t&&QE body N sc bd &&
   (if it == "seq" then mU Pm src N sc iter else if it == "keys" then false else if it == "items" then false else if it == "enum1" then rE t sc iter&&mU Pm src N sc (pJ iter) else rD t it iter&&gl sc (jj it)&&qm Pm src N sc (YC iter))
 |.while_ c body,.While t bd [] _=>jB c&&Zf Pm c N sc t&&QE body N sc bd
 |.iJ,_=>true
 |.pass,.Pass _=>true
 |_,_=>false
noncomputable def QE(tU:List MS)(N:List Str)(sc:az)(jv:List Stmt):Bool:=match tU with
 |[]=>jv.isEmpty
 |.oZ _::ms=>QE ms N sc jv
 |m::ms=>match jv with
  |st::jv=>Gv m N sc st&&QE ms N sc jv
  |[]=>false
end
end
section
variable {ct:Tx} {Pm:Prog} {n:Nat}
section
variable {X:Cx} {E:XK} {N:List Str} {sc:az}
theorem Qp{st:Stmt}{ex o8:aF->MH->RS}{Ra:L2.St->Prop}(p:PS X st (lS ct Ra E ex))(h:∀ σ hh,o8 σ hh=ex σ hh):PS X st (lS ct Ra E o8):=by
 have:o8=ex:=funext λσ=>funext λhh=>h σ hh;rw[this];exact p
theorem QV{st:List Stmt}{ex o8:aF->MH->RS}{Ra:L2.St->Prop}(p:iu X st (lS ct Ra E ex))(h:∀ σ hh,o8 σ hh=ex σ hh):iu X st (lS ct Ra E o8):=by
 have:o8=ex:=funext λσ=>funext λhh=>h σ hh;rw[this];exact p
theorem ZcX(fz)               (c:Cs X Pm ct n E N sc)(HH:X.N[i]?=some x)(hx:Loc X.env.scope x)
  (aL:QC X.env.scope X.N cs N' bX js=true) (hi:PI X tg iter (lI ct yes E es it)) (hg:∀ C s3 H ex,PG (iH X cs N' C s3 H ex) tg (lG ct t)) (oW:∀ C s3 H ex,m6 (iH X cs N' C s3 H ex) ifs (lT ct (λ_=>True) E0 tc)) (k9:∀ C s3 H ex,PE (iH X cs N' C s3 H ex) elt (lE ct (λ_=>True) E0 te)) (bZ:qa iter=true)
  (Bl:bh (.ListComp elt [⟨tg,iter,ifs,0⟩] cs vp) (some (.Name x tp)) pos.line X.env=pure true) :
  PS X (.Assign [.Name x tp] (.ListComp elt [⟨tg,iter,ifs,0⟩] cs vp) pos) (lS ct yes E λσ h=>((es σ h).bind λxs h1=>opt (gE it xs h1) λp=>(zh p.2 (Qi t tc te) p.1 [] (MP.stM bX js σ) h1).bind λacc h3=>Qr fz acc h3).st λv h1=>qy (yr (.nm i) v σ) λσ1=>.next σ1 h1):=by
 refine PS.imp (ZcG c.cc.nd HH hx N' bX js aL c.cc.calm hi hg oW k9 Bl (zN bZ) (.inl (c.fn x))) λD σ H q=>?_;obtain⟨μ,h,σs,rel,aG,ra,p⟩:=q;refine Rj fz σ H _ (lE.st (ev:=λσ h=>(es σ h).bind λxs h1=>opt (gE it xs h1) λp=>(zh p.2 (Qi t tc te) p.1 [] (MP.stM bX js σ) h1).bind λacc h3=>Qr fz acc h3) rel aG ra p λm v μ1 h1 H1 ex ar aQ rv p1=>?_);obtain⟨σ1,e,p2⟩:=fA.opt p1;simp only[yr,gb.injEq] at e;subst e;exact p2 μ1 H1 _ (Ext.refl _ _ _) ar (aQ.set i rv)
theorem qbc{t v:Expr}{env:Env}{lo:Str->Bool}{tg:Tg}(ht:QB lo N sc tg t=true)(hv:CT t v=false):gB [t] v env=pure none:=by
 cases tg with
 |nm i =>
  cases t with
  |Name x p=>cases v <;> rfl
  |_=>simp[QB] at ht
 |tp ts =>
  cases t with
  |Tuple es k p=>cases v <;> first|rfl|(exact xj hv)
  |_=>simp[QB] at ht
theorem YcQ{tg:Tg}{me:ME}{t v:Expr}{pos:Pos}(c:Cs X Pm ct n E N sc)(h1:QB rR N sc tg t=true)(h2:Zf Pm me N sc v=true)(h3:CT t v=false)(h4:(if mZ v=true then EX me else true)=true) :
  PS X (.Assign [t] v pos) (lS ct yes E λσ h=>(ya Pm (run Pm n) me σ h).st λv h1=>qy (yr tg v σ) λσ1=>.next σ1 h1):=by
 by_cases hs:bh v (some t) pos.line X.env=pure false
 ·exact wZ c h1 (sB me c.cc v h2).1 hs (qbc h1 h3)
 ·cases hl:mZ v with
  |false=>exact absurd (J2 hl) hs
  |true =>
   rw[hl] at h4;cases me with
   |comp fz elt rK it src cond bX js =>
    have NQ:=h2;have h:=Zd h2;cases v with
    |ListComp x gs cs p =>
     rcases gs with _|⟨⟨t',iter,ifs,a⟩,_|⟨g2,gs⟩⟩
     ·exact ff h
     ·have h:((a==0)&&qa iter&&QC sc N cs (mT rK t'++js.filterMap λj=>N[j]?) bX js&&decide (mT rK t'++js.filterMap λj=>N[j]?).Nodup&&QB (rS cs) (mT rK t'++js.filterMap λj=>N[j]?) (zI cs sc) rK t'&&Zf Pm elt (mT rK t'++js.filterMap λj=>N[j]?) (zI cs sc) x&&pq Pm cond (mT rK t'++js.filterMap λj=>N[j]?) (zI cs sc) ifs&&(if it == "seq" then mU Pm src N sc iter else if it == "signs" then false else if it == "enum1" then rE t' sc iter&&mU Pm src N sc (pJ iter) else rD t' it iter&&gl sc (jj it)&&qm Pm src N sc (YC iter)))=true:=h;simp only[Wa,beq_iff_eq,decide_eq_true_eq] at h;obtain⟨⟨⟨⟨⟨⟨⟨ha,k1⟩,k2⟩,k3⟩,k4⟩,k5⟩,k6⟩,k7⟩:=h;subst ha;have hi:PI X t' iter (lI ct yes E (Zg Pm (run Pm n) src) it):=by
       split at k7
       next hs=>subst hs;exact FO src c.cc t' iter k7
       next hs =>
        split at k7
        next G6=>exact ff k7
        next =>
        split at k7
        next k8 =>
         subst k8;simp only[Wa] at k7;exact FN src c.cc t' iter k7.1 k7.2
        next =>
         simp only[Wa] at k7;exact Ju c.cc k7.1.1 k7.1.2 (mO src c.cc (YC iter) k7.2)
      cases t with
      |Name y tp =>
       cases tg with
       |nm i =>
        simp only[QB,rM,Wa,beq_iff_eq,vn] at h1;rw[LI c.kd] at hs;have Bl:FD X.env.scope cs y tp p=true:=by
         cases e:FD X.env.scope cs y tp p with
         |true=>rfl
         |false=>rw[e] at hs;exact absurd rfl hs
        have hx:Loc X.env.scope y:=by
         rw[c.cc.sc]
         rcases h1.2 with z|⟨_,z⟩
         ·exact .inl z
         ·exact .inr z
        refine Qp (ZcX fz (tp:=tp) c (by rw[c.cc.nm];exact h1.1) hx (by rw[c.cc.sc,c.cc.nm];exact k2) hi (λC s3 H ex=>sG rfl (c.cc.comp k3 C s3 H ex).sc k3 c.cc.calm (λ_ z=>z) rK t' k4) (λC s3 H ex=>Mo cond (c.cc.comp k3 C s3 H ex) ifs k6) (λC s3 H ex=>(sB elt (c.cc.comp k3 C s3 H ex) x k5).1) k1 (by rw[LI c.kd,Bl])) λσ hh=>?_;simp only[ya]
       |tp ts=>simp[QB] at h1
      |_=>exact absurd (wO (by intro x p z;cases z)) hs
     ·exact ff h
    |_=>first|exact xj hl|exact ff h
   |_=>exact xj h4
end
mutual
theorem sS:∀(ms:MS){X:Cx}{E:XK}{N:List Str}{sc:az} (c:Cs X Pm ct n E N sc) (st:Stmt),Gv Pm ms N sc st=true->PS X st (lS ct yes E (Yo Pm (run Pm n) ms))
 |.set tg e,X,E,N,sc,c,st,h=>by
  cases st with
  |Assign ts v p =>
   rcases ts with _|⟨t,_|⟨t2,ts⟩⟩
   ·exact ff h
   ·have h:(QB rR N sc tg t&&Zf Pm e N sc v&&!(CT t v)&&(if mZ v then EX e else true))=true:=h;simp only[Wa,Wq] at h;obtain⟨⟨⟨h1,h2⟩,h3⟩,h4⟩:=h;exact Qp (YcQ c h1 h2 h3 h4) λσ hh=>by simp only[Yo]
   ·exact ff h
  |_=>exact ff h
 |.dO o i e,X,E,N,sc,c,st,h=>by
  cases st with
  |Assign ts v p =>
   rcases ts with _|⟨t,_|⟨t2,ts⟩⟩
   ·exact ff h
   ·cases t with
    |Subscript x y p2 =>
     have h:(Zf Pm e N sc v&&Zf Pm o N sc x&&Zf Pm i N sc y)=true:=h;simp only[Wa] at h;obtain⟨⟨h1,h2⟩,h3⟩:=h;exact Qp (Qcj (sB e c.cc v h1).1 (sB o c.cc x h2).1 (sB i c.cc y h3).1 (Zn h3)) λσ hh=>by simp only[Yo] <;> rfl
    |_=>exact ff h
   ·cases t <;> exact ff h
  |_=>exact ff h
 |.nv o k,X,E,N,sc,c,st,h=>by
  cases st with
  |Assign ts v p =>
   rcases ts with _|⟨t,_|⟨t2,ts⟩⟩
   ·exact ff h
   ·cases t with
    |Subscript x y p2 =>
     cases v with
     |Constant kk j p3 =>
      cases kk with
      |bool b =>
       have h:(b&&Zf Pm o N sc x&&Zf Pm k N sc y)=true:=h;simp only[Wa] at h;obtain⟨⟨rfl,h2⟩,h3⟩:=h;exact Qp (YcU c.cc.units (sB o c.cc x h2).1 (sB k c.cc y h3).1) λσ hh=>by simp only[Yo] <;> rfl
      |_=>exact ff h
     |_=>exact ff h
    |_=>exact ff h
   ·cases t <;> exact ff h
  |_=>exact ff h
 |.iJ,X,E,N,sc,c,st,h=>λpins s σ H D I q=>by
  obtain⟨μ,hh,σs,rel,aG,ra,p⟩:=q;simp only[Yo] at p;exact p.elim
 |.par i j a b,X,E,N,sc,c,st,h=>ff h
 |.gQ o f e,X,E,N,sc,c,st,h=>by
  cases st with
  |Assign ts v p =>
   rcases ts with _|⟨t,_|⟨t2,ts⟩⟩
   ·exact ff h
   ·cases t with
    |Attribute x m p2 =>
     have h:(m==jj f&&Zf Pm e N sc v&&Zf Pm o N sc x)=true:=h;simp only[Wa,beq_iff_eq] at h;obtain⟨⟨rfl,h2⟩,h3⟩:=h;exact Qp (Yb8 c.cc.txt (sB e c.cc v h2).1 (sB o c.cc x h3).1) λσ hh=>by simp only[Yo] <;> rfl
    |_=>exact ff h
   ·cases t <;> exact ff h
  |_=>exact ff h
 |.expr e,X,E,N,sc,c,st,h=>by
  cases st with
  |Expr v p =>
   have h:(!(mZ v)&&Zf Pm e N sc v)=true:=h;simp only[Wa,Wq] at h;exact Qp (qc2 (sB e c.cc v h.2).1 h.1) λσ hh=>by simp only[Yo]
  |_=>exact ff h
 |.ret e,X,E,N,sc,c,st,h=>by
  cases st with
  |Return v p =>
   cases v with
   |some v=>exact Qp (w4 (sB e c.cc v (show Zf Pm e N sc v=true from h)).1) λσ hh=>by simp only[Yo]
   |none=>exact ff h
  |_=>exact ff h
 |.ite d a b,X,E,N,sc,c,st,h=>by
  cases st with
  |If t x y p =>
   have h:(jB d&&Zf Pm d N sc t&&QE Pm a N sc x&&QE Pm b N sc y)=true:=h;simp only[Wa] at h;obtain⟨⟨⟨h0,h1⟩,h2⟩,h3⟩:=h;exact Qp (FJ ((sB d c.cc t h1).2 h0) (pQ a c x h2) (pQ b c y h3)) λσ hh=>by simp only[Yo]
  |_=>exact ff h
 |.for_ tg it src body,X,E,N,sc,c,st,h=>by
  cases st with
  |For t iter bd oe p =>
   cases oe with
   |cons _ _=>exact ff h
   |nil =>
    have h:(qa iter&&QB rR N sc tg t&&QE Pm body N sc bd&&(if it == "seq" then mU Pm src N sc iter else if it == "keys" then false else if it == "items" then false else if it == "enum1" then rE t sc iter&&mU Pm src N sc (pJ iter) else rD t it iter&&gl sc (jj it)&&qm Pm src N sc (YC iter)))=true:=h;simp only[Wa] at h;obtain⟨⟨⟨h1,h2⟩,h3⟩,h4⟩:=h;have hi:PI X t iter (lI ct yes E (Zg Pm (run Pm n) src) it):=by
     split at h4
     next hs =>
      have Bm:it="seq":=by simpa using hs
      subst Bm;exact FO src c.cc t iter h4
     next hs =>
      split at h4
      next k8 =>
       have Bm:it="keys":=by simpa using k8
       subst Bm;exact ff h4
      next =>
       split at h4
       next G6 =>
        exact ff h4
       next =>
       split at h4
       next hs3 =>
        have Bm:it="enum1":=by simpa using hs3
        subst Bm;simp only[Wa] at h4;exact FN src c.cc t iter h4.1 h4.2
       next =>
        simp only[Wa] at h4;exact Ju c.cc h4.1.1 h4.1.2 (mO src c.cc (YC iter) h4.2)
    exact Qp (xJ c hi h2 (pQ body c bd h3) h1) λσ hh=>by simp only[Yo]
  |_=>exact ff h
 |.while_ d body,X,E,N,sc,c,st,h=>by
  cases st with
  |While t bd oe p =>
   cases oe with
   |cons _ _=>exact ff h
   |nil =>
    have h:(jB d&&Zf Pm d N sc t&&QE Pm body N sc bd)=true:=h;simp only[Wa] at h;obtain⟨⟨h0,h1⟩,h2⟩:=h;exact Qp (zcr c ((sB d c.cc t h1).2 h0) (pQ body c bd h2) Pm.turns) λσ hh=>by simp only[Yo]
  |_=>exact ff h
 |.pass,X,E,N,sc,c,st,h=>by
  cases st with
  |Pass p=>exact Qp Yc2 λσ hh=>by simp only[Yo]
  |_=>exact ff h
 |.oZ i,X,E,N,sc,c,st,h=>by
  exact ff h
theorem pQ:∀(tU:List MS){X:Cx}{E:XK}{N:List Str}{sc:az} (c:Cs X Pm ct n E N sc) (jv:List Stmt),QE Pm tU N sc jv=true->iu X jv (lS ct yes E (Qa Pm (run Pm n) tU))
 |[],X,E,N,sc,c,jv,h=>by
  cases jv with
  |nil=>exact QV w6 λσ hh=>by simp only[Qa]
  |cons _ _=>exact ff h
 |m::ms,X,E,N,sc,c,jv,h=>by
  cases m with
  |oZ i=>exact QV (w8 (i:=i) (pQ ms c jv h)) λσ hh=>by simp only[Qa,Yo]
  |iJ =>
   cases jv with
   |nil=>exact ff h
   |cons st jv =>
    have h2:QE Pm ms N sc jv=true:=h;exact QV (Lp (sS .iJ c st rfl) (pQ ms c jv h2)) λσ hh=>by simp only[Qa]
  |_ =>
   cases jv with
   |nil=>exact ff h
   |cons st jv =>
    first
    |(have h:(Gv Pm _ N sc st&&QE Pm ms N sc jv)=true:=h;simp only[Wa] at h;exact QV (Lp (sS _ c st h.1) (pQ ms c jv h.2)) λσ hh=>by simp only[Qa])
    |exact ff h
end
end
end SD
end
section
namespace SD
open PySem PySem.Spec PyProof.Rows L2 L3 M3 MP
noncomputable def Qg(Pm:Prog)(d:aT)(N ps:List Str)(st:Stmt):Bool :=
 (Yc st).kind == .function&&!(Yc st).isCoroutine&&!(Yc st).isGenerator&&decide N.Nodup&&decide (N.take ps.length=ps)&&ps.all (λx=>(Yc st).names.lookup x==some .local||(Yc st).names.lookup x==some .cell) &&
  (Yc st).names.all (λy=>y.2 != .free)&&d.np==ps.length&&d.ns==N.length&&QE Pm d.body N (Yc st) (qh st)
section
variable {P:ak} {w:World} {K:Jc} {mg:Str->Option Value} {base:Heap} {Pm:Prog} {ct:Tx} {n:Nat} {d:aT} {N ps:List Str} {st:Stmt} {f:String}
theorem ZM(h:Qg Pm d N ps st=true):iz N ps (Yc st)/\d.np=ps.length/\d.ns=N.length/\QE Pm d.body N (Yc st) (qh st)=true:=by
 unfold Qg at h;simp only[Wa,beq_iff_eq,Wq,decide_eq_true_eq,uo,vn,bne_iff_ne,ne_eq] at h;obtain⟨⟨⟨⟨⟨⟨⟨⟨⟨h1,h2⟩,h3⟩,h4⟩,h5⟩,h6⟩,h7⟩,h8⟩,h9⟩,h10⟩:=h;exact⟨⟨h1,h2,h3,h4,h5,h6,h7⟩,h8,h9,h10⟩
theorem O5    (hd:Pm.defs f=some d)(e:MP.run Pm (n+1) f ms h=r)(hr:r≠.stuck):ms.length=d.np/\r=yb h (Qa Pm (MP.run Pm n) d.body (ms.map some++xc (d.ns-d.np) none) h):=by
 simp only[MP.run,hd,zc] at e;split at e
 next c=>exact⟨c,e.symm⟩
 next=>exact absurd e.symm hr
theorem Er(hd:Pm.defs f=some d)(hn:d.np=ps.length):∀ vs H Q E,mr ct (MP.run Pm (n+1) f) vs H Q E->vs.length=ps.length:=by
 intro vs H Q E ⟨μ,h,ms,rel,dP,p⟩;cases er:MP.run Pm (n+1) f ms h with
 |stuck=>rw[er] at p;exact p.elim
 |ok x h'=>rw[dP.length,(O5 hd er (λz=>nomatch z)).1,hn]
 |exc c h'=>rw[dP.length,(O5 hd er (λz=>nomatch z)).1,hn]
theorem GF(T:Txt P w K mg base Pm ct n)(hK:K=ct.K)(hd:Pm.defs f=some d)(hb:Qg Pm d N ps st=true)(qual)(fa)(dF)(A)(outer)(s)(H)(vs)(Q)(E)
  (hr:dz (2*n+1) (A.deeper (eO qual (Yc st) s.heap.objs.size fa dF))) (lX:mr ct (MP.run Pm (n+1) f) vs H Q E) :
  ∃ t,iu (mY (lj P w) P w K mg base N qual (Yc st) fa dF A outer s H E) (qh st) t/\t {nx:=λ_ H'=>Q .bG H',rt:=Q} (L2.start N vs) H:=by
 obtain⟨S,hn,hs,hc⟩:=ZM hb;have cs:Cs (mY (lj P w) P w K mg base N qual (Yc st) fa dF A outer s H E) Pm ct n E N (Yc st) :=
  ⟨⟨T,rfl,hr,λσ _ pins H s e s' I h=>zbQ rfl Le pins σ H s e s' I h,rfl,rfl,S.nd,hK⟩,rfl,zcF,Le,λ_=>rfl,S.kind,rfl,rfl⟩
 refine⟨_,pQ d.body cs (qh st) hc,?_⟩;obtain⟨μ,h,ms,rel,dP,p⟩:=lX;have hlen:=Er hd hn vs H Q E ⟨μ,h,ms,rel,dP,p⟩;have pY:ms.length=d.np:=by rw[<- dP.length,hlen,hn]
 refine⟨μ,h,ms.map some++xc (d.ns-d.np) none,rel,?_,trivial,?_⟩
 ·refine⟨by unfold L2.start;simp[dP.length,pY,hs],λi m e=>?_⟩;by_cases hi:i<ms.length
  ·rw[Xb (by simpa using hi),Wb] at e;cases em:ms[i]? with
   |none=>rw[em] at e;cases e
   |some m' =>
    rw[em] at e;simp only[vf,gb.injEq] at e;subst e;obtain⟨v,ev,rv⟩:=dP.get em;refine⟨v,?_,rv⟩;unfold L2.start;rw[Xb (by rw[Wc,dP.length];exact hi),Wb,ev];rfl
  ·rw[We (by simpa using hi),xo] at e;split at e <;> cases e
 ·have er:MP.run Pm (n+1) f ms h=yb h (Qa Pm (MP.run Pm n) d.body (ms.map some++xc (d.ns-d.np) none) h):=by
   simp only[MP.run,hd,zc,if_pos pY]
  rw[er] at p;cases ex:Qa Pm (MP.run Pm n) d.body (ms.map some++xc (d.ns-d.np) none) h with
  |next σ' h' =>
   rw[ex] at p;intro μ' H' σ e1 r1 q1;obtain⟨ν,rfl⟩:=e1.pre;exact Oe rel e1 r1 CU p
  |ret m h' =>
   rw[ex] at p;intro μ' H' v e1 r1 rv;obtain⟨ν,rfl⟩:=e1.pre;exact Oe rel e1 r1 rv p
  |exc c h' =>
   rw[ex] at p;intro μ' H' e1 r1;obtain⟨ν,rfl⟩:=e1.pre;exact QbK rel e1 r1 p
  |brk σ' h'=>rw[ex] at p;exact p.elim
  |cnt σ' h'=>rw[ex] at p;exact p.elim
  |stuck=>rw[ex] at p;exact p.elim
theorem ZbZ(T:Txt P w K mg base Pm ct n)(hK:K=ct.K)(S:Src K mg (jj f) st ps)(hd:Pm.defs f=some d)(hb:Qg Pm d N ps st=true):Cu P w K mg base (jj f) (2*(n+1)) ps (mr ct (MP.run Pm (n+1) f)) :=
 QcV (k:=2*n+1) S (ZM hb).1 (Er hd (ZM hb).2.1) λfa dF A outer s H vs Q E hr lX=>GF T hK hd hb _ fa dF A outer s H vs Q E hr lX
theorem JH    (T:Txt P w K mg base Pm ct n)(hK:K=ct.K)(F:om K x qual st fa fd)(hd:Pm.defs f=some d)(hb:Qg Pm d N ps st=true):fL P w K mg base (lj P w) (2*(n+1)) fa fd ps (mr ct (MP.run Pm (n+1) f)):=by
 obtain⟨oc,od,kV,doc,pm,an,dF,kQ,j9,rfl,lk,ky⟩:=F.ex;exact EG (k:=2*n+1) lk ky (ZM hb).1 (Er hd (ZM hb).2.1) λA outer s H vs Q E hr lX=>GF T hK hd hb _ fa dF A outer s H vs Q E hr lX
theorem YbQ    (T:Txt P w K mg base Pm ct n)(hK:K=ct.K)(F:pH K x qual st fa fd)(hd:Pm.defs f=some d)(hb:Qg Pm d N ps st=true):fL P w K mg base (lj P w) (2*(n+1)) fa fd ps (mr ct (MP.run Pm (n+1) f)):=by
 obtain⟨oc,od,dV,kV,doc,pm,an,dF,kQ,j9,rfl,lk,ky⟩:=F.ex;exact EG (k:=2*n+1) lk ky (ZM hb).1 (Er hd (ZM hb).2.1) λA outer s H vs Q E hr lX=>GF T hK hd hb _ fa dF A outer s H vs Q E hr lX
end
theorem ln0{α:Type}{us:List α}(h:us.length=0):us=[]:=Wo h
theorem AR{α:Type}{n:Nat}{us:List α}(h:us.length=n+1):∃ a vs,us=a::vs/\vs.length=n:=by
 cases us with
 |nil=>cases h
 |cons a vs=>exact⟨a,vs,rfl,Nat.succ.inj h⟩
theorem Nl{α:Type}{us:List α}(h:us.length=1):∃ a,us=[a]:=by obtain⟨a,vs,rfl,h2⟩:=AR h;rw[ln0 h2];exact⟨a,rfl⟩
theorem ln2{α:Type}{us:List α}(h:us.length=2):∃ a b,us=[a,b]:=by obtain⟨a,vs,rfl,h2⟩:=AR h;obtain⟨b,rfl⟩:=Nl h2;exact⟨a,b,rfl⟩
theorem oP{α:Type}{us:List α}(h:us.length=3):∃ a b c,us=[a,b,c]:=by obtain⟨a,vs,rfl,h2⟩:=AR h;obtain⟨b,c,rfl⟩:=ln2 h2;exact⟨a,b,c,rfl⟩
theorem Nk{α:Type}{us:List α}(h:us.length=4):∃ a b c d,us=[a,b,c,d]:=by obtain⟨a,vs,rfl,h2⟩:=AR h;obtain⟨b,c,d,rfl⟩:=oP h2;exact⟨a,b,c,d,rfl⟩
theorem ln5{α:Type}{us:List α}(h:us.length=5):∃ a b c d e,us=[a,b,c,d,e]:=by obtain⟨a,vs,rfl,h2⟩:=AR h;obtain⟨b,c,d,e,rfl⟩:=Nk h2;exact⟨a,b,c,d,e,rfl⟩
noncomputable def CL(P:String->aT->Prop):List (String×aT)->Prop
 |[]=>True
 |p::r=>P p.1 p.2/\CL P r
theorem Lb   :∀{L:List (String×aT)},CL P L->L.lookup f=some d->P f d
 |[],_,h=>by cases h
 |(g,e)::r,⟨a,b⟩,h=>by
  rw[vb] at h;cases hb:f==g with
  |true =>
   rw[hb] at h;cases h;rw[show f=g by simpa using hb];exact a
  |false =>
   rw[hb] at h;exact Lb b h
noncomputable def Dk(K:Jc)(mg:Str->Option Value)(Pm:Prog)(ct:Tx)(f:String)(ps:List Str):Prop :=
 ∀(P:ak)(w:World)(base:Heap)(n:Nat),K.In base->(ct.cd≠0->lh mg base ct.cd ct.tb)->Cu P w K mg base (jj f) (2*(n+1)) ps (mr ct (MP.run Pm (n+1) f))
structure Text (K:Jc) (mg:Str->Option Value) (Pm:Prog) (ct:Tx):Prop where
 hK:K=ct.K
 defs:∀ f d,Pm.defs f=some d->f.toList.contains '.'=false->∃ st N ps,Src K mg (jj f) st ps/\(Qg Pm d N ps st=true\/Dk K mg Pm ct f ps)
 mB:∀ c f,Pm.meths c "__init__"=some f->∃ d st N ps fa fd x qual,Pm.defs f=some d/\Mk K (ct c) fa/\om K x qual st fa fd/\Binds K fd ps []/\mg (jj c)=some (.ref (ct c))/\Qg Pm d N ps st=true
 iq:∀ x∈eD++dH++a9++["range","zip","enumerate","isinstance","sorted","reversed","set"],mg (jj x)=none
 iZ:∀ c f,Pm.iZ c f=true->lV K (ct c)/\fU K (ct c) (jj f)
 cls:∀ c t b,Pm.subs c t=some b->nR K (ct c)
 nj:∀ c t b,Pm.subs c t=some b->a9.contains t=false->mg (jj t)=some (.ref (ct t))/\uf K (.ref (ct c)) (.ref (ct t))=some b
 oy:∀ c t b,Pm.subs c t=some b->a9.contains t=true->uf K (.ref (ct c)) (.type t)=some b
 C3:∀ t c b,Pm.subs c t=some b->a9.contains t=false->∀ T∈["NoneType","bool","int","str","list","tuple"],uf K (.type T) (.ref (ct t))=some false
 l7:∀ c,Pm.l7 c=true->nN K (ct c)/\mg (jj c)=some (.ref (ct c))
 words:∀ wd,Pm.words wd=true->nN K (ct "DotError")/\mg "DotError"=some (.ref (ct "DotError"))/\(∀(P:ak)(w:World)(base:Heap),∃ ps,O8 P w K mg base (jj wd) 1 ps (Mh ct Pm wd)) /\
  ∀ c s,Pm.word wd c=some s->nN K (ct c)/\(EF K (ct c)).contains (.ref (ct "DotError"))=true
 mN:∀ t,Pm.mN t=true->(if t="ValueError" then mg "ValueError"=none else mg (jj t)=some (.ref (ct t)))
 xs:∀ c t b,Pm.mn c t=some b->CG K (ct c)/\uf K (.ref (ct c)) (if t="ValueError" then .type "ValueError" else .ref (ct t))=some b
 uL:∀ f ds,Pm.uL f ds=true->∃ d st N ps fa fd ij,Pm.defs f=some d/\pH K (jj f) (jj f) st fa fd/\Binds K fd ps ij/\Vals (ds.map V.int) ij/\mg (jj f)=some (.ref fa)/\Qg Pm d N ps st=true
 meths:∀ c m f,Pm.meths c m=some f->m≠"__init__"->lV K (ct c)/\∃ d st N ps fa fd x qual,Pm.defs f=some d/\Meth K (ct c) (jj m) fa/\om K x qual st fa fd/\Binds K fd ps []/\Qg Pm d N ps st=true
 nA:∀ c,Pm.nA c=true->pF K (ct c)/\mg (jj c)=some (.ref (ct c))
 b9:∀ x v,Pm.b9 x=some v->Oz mg x v
 rH:Pm.xt=true->nN K (ct "DotError")/\mg "DotError"=some (.ref (ct "DotError"))/\∀ c b,Pm.mn c c=some b->nN K (ct c)/\(EF K (ct c)).contains (.ref (ct "DotError"))=true
theorem pP        (h:mr ct (MP.run Pm 0 f) vs H Q E):False:=by
 obtain⟨μ,h,ms,rel,dP,p⟩:=h;exact p
theorem u9{P:ak}{w:World}{K:Jc}{mg:Str->Option Value}{base:Heap}{Pm:Prog}{ct:Tx}(T:Text K mg Pm ct)(kb:K.In base)(lb:ct.cd≠0->lh mg base ct.cd ct.tb):∀ n,Txt P w K mg base Pm ct n
 |0=>⟨λf d hd eL=>by
   obtain⟨st,N,ps,⟨fa,fd,F,b,m⟩,hb⟩:=T.defs f d hd eL;exact⟨ps,fa,fd,⟨λvs H Q E h=>(pP h).elim,λA outer s H args us vs Q E _ _ _ _ h=>(pP h).elim⟩,b,F.kp,m⟩,
  λc f hi=>by
   obtain⟨d,st,N,ps,fa,fd,x,qual,hd,M,F,b,m,hb⟩:=T.mB c f hi;exact⟨ps,fa,fd,M,⟨λvs H Q E h=>(pP h).elim,λA outer s H args us vs Q E _ _ _ _ h=>(pP h).elim⟩,b,m⟩,
  T.iq,T.iZ,T.cls,T.nj,T.oy,T.C3,T.l7,λwd hw=>let ⟨a,b,c,d⟩:=T.words wd hw;⟨a,b,c P w base,d⟩,T.mN,T.xs,λf ds hf=>let ⟨d,st,N,ps,fa,fd,ij,hd,F,b,vd,m,hb⟩:=T.uL f ds hf;⟨ps,fa,fd,ij,⟨λvs H Q E h=>(pP h).elim,λA outer s H args us vs Q E _ _ _ _ h=>(pP h).elim⟩,b,vd,F.kp,m⟩,T.rH,λc m f hm hi=>by
   obtain⟨cl,d,st,N,ps,fa,fd,x,qual,hd,M,F,b,hb⟩:=T.meths c m f hm hi;exact⟨cl,fa,fd,ps,M,⟨λvs H Q E h=>(pP h).elim,λA outer s H args us vs Q E _ _ _ _ h=>(pP h).elim⟩,b⟩,T.nA,T.b9⟩
 |n+1=>⟨λf d hd eL=>by
   obtain⟨st,N,ps,S,hb⟩:=T.defs f d hd eL;exact⟨ps,hb.elim (λhb=>ZbZ (u9 T kb lb n) T.hK S hd hb) λhp=>hp P w base n kb lb⟩,
  λc f hi=>by
   obtain⟨d,st,N,ps,fa,fd,x,qual,hd,M,F,b,m,hb⟩:=T.mB c f hi;exact⟨ps,fa,fd,M,JH (u9 T kb lb n) T.hK F hd hb,b,m⟩,
  T.iq,T.iZ,T.cls,T.nj,T.oy,T.C3,T.l7,λwd hw=>let ⟨a,b,c,d⟩:=T.words wd hw;⟨a,b,c P w base,d⟩,T.mN,T.xs,λf ds hf=>let ⟨d,st,N,ps,fa,fd,ij,hd,F,b,vd,m,hb⟩:=T.uL f ds hf;⟨ps,fa,fd,ij,YbQ (u9 T kb lb n) T.hK F hd hb,b,vd,F.kp,m⟩,T.rH,λc m f hm hi=>by
   obtain⟨cl,d,st,N,ps,fa,fd,x,qual,hd,M,F,b,hb⟩:=T.meths c m f hm hi;exact⟨cl,fa,fd,ps,M,JH (u9 T kb lb n) T.hK F hd hb,b⟩,T.nA,T.b9⟩
end SD
end
section
namespace SD
open PySem PySem.Spec PyProof.Rows L2 L3 M3 MP
section
variable {K:Jc} {t C:ae} {cd:cC}
theorem QcD  (s0:Vf K (.ref t) (.ref t)=some true)(ci:vt K C=some cd)(ty:wt K (.ref C)=some (.type "type"))(s:Vf K (.ref t) (.ref C)=some b):uf K (.ref t) (.ref C)=some b:=by
 unfold uf jd;by_cases ne:(ka t==ka C)=true
 ·have e':ka t=ka C:=eq_of_beq ne;rw[if_pos ne];rw[e'] at s0 s;rw[s0] at s;exact s
 rw[if_neg ne];show(if((vt K C).isSome&&wt K (.ref C)==some (.type "type"))=true then Vf K (.ref t) (.ref C) else none)=some b;rw[ci,ty,if_pos (by rfl),s]
theorem ZcR  (m:Vf K (.type T) (.ref C)=some false)(ci:vt K C=some cd)(ty:wt K (.ref C)=some (.type "type")):uf K (.type T) (.ref C)=some false:=by
 unfold uf jd;rw[if_neg (λe=>by have e':Ja T=ka C:=eq_of_beq e;cases e')];show(if((vt K C).isSome&&wt K (.ref C)==some (.type "type"))=true then Vf K (.type T) (.ref C) else none)=some false;rw[ci,ty,if_pos (by rfl),m]
theorem YcC(C):∀ T∈["NoneType","bool","int","str","list","tuple"],Vf K (.type T) (.ref C)=some false:=by
 intro T hT;simp only[Xa,Vc,or_false] at hT
 rcases hT with rfl|rfl|rfl|rfl|rfl|rfl <;> rfl
end
theorem jx{K:Jc}{h:Heap}{mg:Str->Option Value}{x:Str}{st:Stmt}{ps:List Str}{f:ae}{oc:Value}{od an:Option ae}{j9:Array (Option Value)}{kV doc pm dF ct:Value}(X:K.In h)(G:h.Ns au mg)
  (hb:∀(kV doc pm:Value)(an:Option ae)(dF ct:Value)(us:List Value),us.length=ps.length->bindArgs (ug x x (Zl st) (qh st) (Yc st) .none kV doc pm an dF ct) ⟨us,[]⟩=pure (ps.zip us))
  (a:Vq K au x=some (some (.ref f))) (l:K.lookup f=some ⟨oc,od,.func (ug x x (Zl st) (qh st) (Yc st) .none kV doc pm an dF ct),j9⟩)
  (c:Xl K dF x=true) (k:Wg K (.ref f)=true):Src K mg x st ps :=
 ⟨f,_,Zcz (st:=st) l c k,(Cw (st:=st) l c k).binds hb,wl X G a⟩
structure CK (K:Jc) (x:Str) (C:ae) (cd:cC):Prop where
 a:Vq K au x=some (some (.ref C))
 ci:vt K C=some cd
 ty:wt K (.ref C)=some (.type "type")
 pg:Xt K C Str.empty=true
 hd:Vv K C=true
 po:VA K C=true
 sa:Ud K (.ref C) "__setattr__"=some (some (.builtin "object.__setattr__"))
 cl:Ud K (.ref C) "__class__"=some (some (.builtin "object.__class__"))
 mo:uA K C (.type "object")=some true
 s0:Vf K (.ref C) (.ref C)=some true
 k0:Vf K (.ref C) (.type "dict")=some false
 k1:Vf K (.ref C) (.type "list")=some false
 k2:Vf K (.ref C) (.type "tuple")=some false
 k3:Vf K (.ref C) (.type "str")=some false
 k4:Vf K (.ref C) (.type "int")=some false
 k5:Vf K (.ref C) (.type "bool")=some false
structure FK (K:Jc) (x q:Str) (st:Stmt) (f:ae) (oc:Value) (od:Option ae) (kV dc pm:Value) (an:Option ae) (cv ct:Value) (sl:Array (Option Value)):Prop where
 im:XB K (.ref f)=true
 lm:K.lookup f=some ⟨oc,od,.func (ug x q (Zl st) (qh st) (Yc st) .none kV dc pm an cv ct),sl⟩
 km:Xl K cv q=true
 DA:Wg K (.ref f)=true
noncomputable def FE(K:Jc)(x q:Str)(st:Stmt)(f:ae):Prop:=∃ oc od kV dc pm an cv ct sl,FK K x q st f oc od kV dc pm an cv ct sl
structure IK (K:Jc) (C f:ae):Prop where
 ai:Ud K (.ref C) "__init__"=some (some (.ref f))
 mi:Uu K C=true
 kc:Wg K (.ref C)=true
noncomputable def sX{β:Type}(P:String->String->β->Prop):List ((String×String)×β)->Prop
 |[]=>True
 |((c,t),b)::r=>P c t b/\sX P r
theorem Qw{β:Type}{P:String->String->β->Prop}{c t:String}{b:β}:∀{L:List ((String×String)×β)},sX P L->L.lookup (c,t)=some b->P c t b
 |[],_,h=>by cases h
 |((x,y),e)::r,a,h=>by
  rw[vb] at h;cases hb:(c,t)==(x,y) with
  |true =>
   rw[hb] at h;cases h;have z:(c,t)=(x,y):=eq_of_beq hb;cases z;exact a.1
  |false =>
   rw[hb] at h;exact Qw a.2 h
section
variable {K:Jc} {h:Heap} {mg:Str->Option Value} {Pm:Prog} {ct:Tx} {c t m g:String} {cd IM:cC} {b:Bool} {f:ae} {st:Stmt} {N ps:List Str} {d:aT} {q:Str}
theorem CK.cls{x:Str}{C:ae}(k:CK K x C cd):lV K C:=⟨k.pg,k.hd,k.po,k.sa⟩
noncomputable def sV(K:Jc)(mg:Str->Option Value)(ct:Tx)(c t:String)(b:Bool):Prop:=lV K (ct c)/\(∃ x cd,CK K x (ct c) cd) /\
 (a9.contains t=false->(∃ x cd,CK K x (ct t) cd)/\mg (jj t)=some (.ref (ct t))/\uf K (.ref (ct c)) (.ref (ct t))=some b)/\(a9.contains t=true->uf K (.ref (ct c)) (.type t)=some b)
theorem tF(X:K.In h)(G:h.Ns au mg)(kC:CK K (jj c) (ct c) cd)(kD:CK K (jj t) (ct t) IM)(s:Vf K (.ref (ct c)) (.ref (ct t))=some b)(nt:a9.contains t=false):sV K mg ct c t b :=
 ⟨kC.cls,⟨_,_,kC⟩,λ_=>⟨⟨_,_,kD⟩,wl X G kD.a,QcD kC.s0 kD.ci kD.ty s⟩,λe=>absurd (nt.symm.trans e) Uh⟩
noncomputable def Cv(K:Jc)(mg:Str->Option Value)(Pm:Prog)(ct:Tx)(c m g:String):Prop:=lV K (ct c)/\∃ d st N ps fa fd x qual,Pm.defs g=some d/\Meth K (ct c) (jj m) fa/\om K x qual st fa fd/\Binds K fd ps []/\Qg Pm d N ps st=true /\
 (m="__init__"->Mk K (ct c) fa/\mg (jj c)=some (.ref (ct c)))
noncomputable abbrev KI(x q:Str)(st:Stmt)(ps:List Str):Prop:=∀(kV doc pm:Value)(an:Option ae)(dF ct:Value)(us:List Value),us.length=ps.length->bindArgs (ug x q (Zl st) (qh st) (Yc st) .none kV doc pm an dF ct) ⟨us,[]⟩=pure (ps.zip us)
theorem Ab(kC:CK K (jj c) (ct c) cd)(fe:FE K (jj m) q st f)(a:Ud K (.ref (ct c)) (jj m)=some (some (.ref f)))(hb:KI (jj m) q st ps)(db:Qg Pm d N ps st=true)(hd:Pm.defs g=some d)(ni:decide (m="__init__")=false):Cv K mg Pm ct c m g:=by
 obtain⟨oc,od,kV,dc,pm,an,cv,ct',sl,k⟩:=fe;have F:=Cw (st:=st) k.lm k.km k.DA;exact⟨kC.cls,d,st,N,ps,f,_,_,q,hd,⟨a,k.im,k.DA⟩,F,F.binds hb,db,λe=>by rw[e] at ni;cases ni⟩
theorem Lm(X:K.In h)(G:h.Ns au mg)(kC:CK K (jj c) (ct c) cd)(fe:FE K "__init__" q st f)(i:IK K (ct c) f)(hb:KI "__init__" q st ps)(db:Qg Pm d N ps st=true)(hd:Pm.defs g=some d):Cv K mg Pm ct c "__init__" g:=by
 obtain⟨oc,od,kV,dc,pm,an,cv,ct',sl,k⟩:=fe;have F:=Cw (st:=st) k.lm k.km k.DA;exact⟨kC.cls,d,st,N,ps,f,_,_,q,hd,⟨i.ai,k.im,k.DA⟩,F,F.binds hb,db,λ_=>⟨⟨i.mi,i.ai,k.im,i.kc⟩,wl X G kC.a⟩⟩
end
section
variable {K:Jc} {mg:Str->Option Value} {Pm:Prog} {ct:Tx} {c t m g:String} {b:Bool}
theorem YcX{L:List ((String×String)×String)}(T:sX (Cv K mg Pm ct) L)(h:L.lookup (c,"__init__")=some g):∃ d st N ps fa fd x qual,Pm.defs g=some d/\Mk K (ct c) fa/\om K x qual st fa fd/\Binds K fd ps []/\mg (jj c)=some (.ref (ct c))/\Qg Pm d N ps st=true:=by
 obtain⟨_,d,st,N,ps,fa,fd,x,q,a,_,F,b,e,z⟩:=Qw T h;exact⟨d,st,N,ps,fa,fd,x,q,a,(z rfl).1,F,b,(z rfl).2,e⟩
theorem ycV{L:List ((String×String)×String)}(T:sX (Cv K mg Pm ct) L)(h:L.lookup (c,m)=some g):lV K (ct c)/\∃ d st N ps fa fd x qual,Pm.defs g=some d/\Meth K (ct c) (jj m) fa/\om K x qual st fa fd/\Binds K fd ps []/\Qg Pm d N ps st=true:=by
 obtain⟨k,d,st,N,ps,fa,fd,x,q,a,M,F,b,e,z⟩:=Qw T h;exact⟨k,d,st,N,ps,fa,fd,x,q,a,M,F,b,e⟩
variable {L:List ((String×String)×Bool)} (T:sX (sV K mg ct) L) (h:L.lookup (c,t)=some b)
include T h
theorem IJ(gn:Us K (.builtin "object.__class__") "__get__"=some (some (.builtin "getset_descriptor.__get__")))(tk:Vu K (.builtin "object.__class__")=some true):nR K (ct c):=by
 obtain⟨_,⟨x,cd,k⟩,_⟩:=Qw T h;exact⟨k.cls,k.cl,gn,tk,k.mo⟩
theorem tyT(ht:a9.contains t=false){TT:String}(z:TT∈["NoneType","bool","int","str","list","tuple"]):uf K (.type TT) (.ref (ct t))=some false:=by
 obtain⟨x,cd,k⟩:=((Qw T h).2.2.1 ht).1;exact ZcR (YcC _ TT z) k.ci k.ty
end
end SD
end
section
namespace SD
open PySem PySem.Spec PyProof.Rows L2 L3 M3 MP
noncomputable def Dd(H:Hp)(tb:ae)(lp:Pos):Prop:=H tb=some (.ext (ZI tb lp none))/\∀ b,b≠tb->H b=none\/∃ o xs,H b=some (.eQ o (.lst xs))
noncomputable def QT(tb:ae)(lp:Pos):VK:=λv H'=>v=.bl true/\∃ oc,H' tb=some (.ext (ZI tb lp oc))
theorem zbU{P:ak}{w:World}{K:Jc}{mg mb:Str->Option Value}{CX:mJ}{k:Nat}{fa a:ae}{fd:bF}{x:Str}{sp:Sp}{s₁:Shared}{vs:List Value}{ns:List Int}{cd tb:ae}{lp:Pos}
  (KX:K.In s₁.heap) (pX:s₁.heap.Ns au mg) (hb:s₁.heap.Ns builtinsNs mb) (hbb:∀ x:Str,x≠"__name__"->mb x=bB x) (sr:s₁.heap.NoLimit) (hg:s₁.gens=#[])
  (ha:s₁.heap.get? a=some {cls:=.type "list",data:=.seq vs.toArray}) (hi:gr vs ns) (hl:ns.length<=sizeLine) (hr:dz k fZ)
  (L:lh mg s₁.heap cd tb) (ht:s₁.heap.get? tb=some (UD #[])) (hK:K.lookup tb=none)
  (F:∀ base:Heap,K.In base->base.Ns au mg->lh mg base cd tb->fL P w K mg base CX k fa fd [x] sp) (BC:∀(s:Shared)(u:Value),iA s fd ⟨[u],[]⟩ [(x,u)])
  (lX:∀ H:Hp,Dd H tb lp->fK K H a (ns.map V.int)->sp [.ref a] H (QT tb lp) λ_ _ _=>False)
  (hCX:∀ H e s',CX [] H s₁ (λ_ _ _=>False) e s'->False) :
  bI (ah P w) fZ (.call (.ref fa) ⟨[.ref a],[]⟩) (λr s'=>r=.ok (.ret (.bool true))/\OldK s₁.heap s'.heap/\s'.os=s₁.os/\dI s'.gens) s₁:=by
 have rv:=Pp hi;have GQ:=hi.length;have NM:a≠tb:=λz=>by rw[z,ht] at ha;cases ha
 have core:∀ H:Hp,Dd H tb lp->fK K H a (ns.map V.int)->fB P w H s₁.heap->(∀ b,H b≠none->b=a\/b=tb)->(H a≠none->K.lookup a=none) ->
   bI (ah P w) fZ (.call (.ref fa) ⟨[.ref a],[]⟩) (λr s'=>r=.ok (.ret (.bool true))/\OldK s₁.heap s'.heap/\s'.os=s₁.os/\dI s'.gens) s₁:=by
  intro H hO hS aL hA hKa;have base_of:∀{b:ae}{o:Obj},s₁.heap.get? b=some o->H b=none->(oi s₁.heap H).get? b=some o:=λe n=>zce e n;have Nf:∀{b:ae}{o:Obj},s₁.heap.get? b=some o->o.cls≠.type "list"->o.cls≠.none->H b=none:=λ{b o} e c1 c2=>by
   cases q:H b with
   |none=>rfl
   |some u =>
    rcases hA b (by rw[q];simp) with e'|e'
    ·subst e';rw[ha] at e;cases e;exact absurd rfl c1
    ·subst e';rw[ht] at e;cases e;exact absurd rfl c2
  have AH:∀{b:ae}{o:Obj}{es:Array gu}{ep:Nat},s₁.heap.get? b=some o->o.data=.dict es ep->H b=none:=λ{b o es ep} e d=>by
   cases q:H b with
   |none=>rfl
   |some u =>
    rcases hA b (by rw[q];simp) with e'|e'
    ·subst e';rw[ha] at e;cases e;have d':Data.seq vs.toArray _=Data.dict es ep:=d;cases d'
    ·subst e';rw[ht] at e;cases e;cases d
  have Dq:∀{b:ae}{m:Str->Option Value},s₁.heap.Ns b m->(oi s₁.heap H).Ns b m:=λ{b m} ⟨o,es,ep,e,d,r⟩=>⟨o,es,ep,base_of e (AH e d),d,r⟩;have NO:K.In (oi s₁.heap H):=λb o e=>base_of (KX b o e) (by
   cases q:H b with
   |none=>rfl
   |some u =>
    rcases hA b (by rw[q];simp) with e'|e'
    ·subst e';rw[hKa (by rw[q];simp)] at e;cases e
    ·subst e';rw[hK] at e;cases e)
  have hM:Mod K mg (oi s₁.heap H):=⟨NO,Dq pX,⟨mb,Dq hb,hbb⟩,let ⟨mc,h1,h2⟩:=sr;⟨mc,Dq h1,h2⟩⟩;have hL:lh mg (oi s₁.heap H) cd tb:=by
   obtain⟨⟨o,vs',file,tf,flags,tg,r8,text,tt,e1,e2,r⟩,bm,ob,b1,b2,b3,b4,r2⟩:=L;refine⟨⟨o,vs',file,tf,flags,tg,r8,text,tt,base_of e1 (Nf e1 (by rw[e2];simp) (by rw[e2];simp)),e2,r⟩,bm,ob,b1,b2,base_of b3 (Nf b3 (by rw[b4];simp) (by rw[b4];simp)),b4,r2⟩
  have e0:lU P w K mg (oi s₁.heap H) fZ [] s₁ H:=⟨rfl,hM,λb o e=>qcw e,vo (ZbM _ _),trivial,λb hb=>absurd (show b∈([]:List ae) from hb) (by simp),aL,.of_eq hg⟩;refine cO ((F _ NO (Dq pX) hL).run fZ [] s₁ H ⟨[.ref a],[]⟩ [.ref a] [.ref a] _ _ hr e0 (BC s₁ (.ref a)) (.cons rfl .nil) (lX H hO hS)) λr s' h=>?_;cases r with
  |error e=>exact(hCX H e s' h).elim
  |ok fl =>
   cases fl with
   |next=>exact Hg h
   |brk=>exact Hg h
   |cont=>exact Hg h
   |ret u =>
    obtain⟨v,H',os,bare,un,Bq,r',q',oc,G4⟩:=h;subst q';obtain rfl:u=Ga true:=r';obtain⟨⟨ps,ep,_⟩,_⟩:=Bq tb _ G4;have keep:∀ b o,b≠tb->s₁.heap.get? b=some o->s'.heap.get? b=some o:=λb o n e=>by
     cases q:H b with
     |none=>exact un.keep b o e q (by intro z;exact absurd (show b∈([]:List ae) from z) (by simp)) (by simp)
     |some u =>
      rcases hO.2 b n with z|⟨ob,xs,z⟩
      ·rw[q] at z;cases z
      ·have z2:=un.jG b ob _ z;obtain⟨e1,_⟩:=aL b _ z;obtain⟨e2,_⟩:=Bq b _ z2;rw[e] at e1;cases e1;exact e2
    refine⟨rfl,⟨λb o e=>?_,λb o e=>?_⟩,os,bare⟩
    ·by_cases hb:b=tb
     ·subst hb;rw[ht] at e;cases e;exact .inr (.inl ⟨(L.code.tab ht).isCodeTable,rfl,#[],ps,rfl,by rw[ep];simp⟩)
     ·exact .inl (keep b o hb e)
    ·by_cases hb:b=tb
     ·subst hb;exact⟨_,ep⟩
     ·exact⟨o,keep b o hb e⟩
 have tok:ZI tb lp none s₁.heap:=⟨#[],ht,trivial,rfl⟩;cases hk:K.lookup a with
 |some o =>
  have e:=KX a o hk;rw[ha] at e;cases e;refine core (λb=>if b=tb then some (.ext (ZI tb lp none)) else none) ⟨if_pos rfl,λb n=>.inl (if_neg n)⟩ (.inr ⟨_,vs.toArray,_,hk,rfl,rfl,rfl,by rw[wc,GQ];exact hl,by simpa using rv⟩) (λb u z=>?_) (λb z=>?_) λz=>absurd (if_neg NM) z
  ·by_cases hb:b=tb
   ·have z':=(if_pos hb).symm.trans z;cases z';subst hb;exact J6 tok
   ·have z':=(if_neg hb).symm.trans z;cases z'
  ·by_cases hb:b=tb
   ·exact .inr hb
   ·exact absurd (if_neg hb) z
 |none =>
  refine core (λb=>if b=tb then some (.ext (ZI tb lp none)) else if b=a then some (.eQ {cls:=.type "list",data:=.seq vs.toArray} (.lst (ns.map V.int))) else none) ⟨if_pos rfl,λb n=>?_⟩ (.inl (.inr ⟨{cls:=.type "list",data:=.seq vs.toArray},(if_neg NM).trans (if_pos rfl)⟩)) (λb u z=>?_) (λb z=>?_) λ_=>hk
  ·by_cases hb:b=a
   ·exact .inr ⟨_,_,(if_neg n).trans (if_pos hb)⟩
   ·exact .inl ((if_neg n).trans (if_neg hb))
  ·by_cases hb:b=tb
   ·have z':=(if_pos hb).symm.trans z;cases z';subst hb;exact J6 tok
   ·have z:=(if_neg hb).symm.trans z;by_cases hb:b=a
    ·have z':=(if_pos hb).symm.trans z;cases z';subst hb;exact⟨ha,by rw[Wc];exact hl,vs,_,rv,ha⟩
    ·have z':=(if_neg hb).symm.trans z;cases z'
  ·by_cases hb:b=tb
   ·exact .inr hb
   ·by_cases kN:b=a
    ·exact .inl kN
    ·exact absurd ((if_neg hb).trans (if_neg kN)) z
noncomputable def Gu(K:Jc)(tb:ae)(lp:Pos):Sp:=λvs H Q E=>∃(a:ae)(ns:List Int),vs=[.ref a]/\ns.length<=63/\Dd H tb lp/\fK K H a (ns.map V.int)/\Q=QT tb lp/\E=λ_ _ _=>False
theorem vK{l:Kd}{q:ak}{loose:List Str}{XP:(Str->Option Value)->Heap->Prop}{YP:World->Heap->Prop}{d:DefRec}{K:Params->Jc}{k:Nat}{cd tb:ae}{lp:Pos}(hn:l.most=some 63)(HP:d.params.defaults=[])(hr:dz k fZ)
  (hY:∀(w:World)(h:Heap),YP w h->(K w.params).In h) (hT:∀(w:World)(h:Heap),YP w h->h.get? tb=some (UD #[])) (hC:∀(w:World)(h:Heap),(K w.params).In h->Hc h cd tb) (hK:∀ w:World,(K w.params).lookup tb=none)
  (F:∀(w:World)(mg:Str->Option Value)(fa:ae)(h:Heap),(K w.params).In h->h.Ns au mg->mg d.name=some (.ref fa) ->
   ∃ fd:bF,(∀(s:Shared)(u:Value),iA s fd ⟨[u],[]⟩ [("_law_script",u)])/\∀ base:Heap,(K w.params).In base->base.Ns au mg->lh mg base cd tb->fL l.prog w (K w.params) mg base (lj l.prog w) k fa fd ["_law_script"] (Gu (K w.params) tb lp)) :
  PySem.W.WalkO q loose XP YP l.row.toRowW d [] (λf vs=>PySem.call f vs):=by
 refine Rv.lP hn HP λw s₀ s₁ mg mb fa o pm dF doc a vs ns G Y ho hd ky oV sg hints hlen hg=>?_;have KX:=hY w _ Y;obtain⟨fd,hb,hF⟩:=F w mg fa _ KX G.T.g oV;exact zbU (lp:=lp) KX G.T.g G.T.b G.T.builtins G.T.nolimit hg sg hints (Wf hlen (by decide)) hr ⟨hC w _ KX,G.T.bmain⟩ (hT w _ Y) (hK w) hF hb (λH hO hS=>⟨a,ns,rfl,hlen,hO,hS,rfl,rfl⟩) λH e s' ⟨_,_,_,_,_,_,_,_,_,_,_,_,_,_,_,z⟩=>z
end SD
end
section
namespace SD
open PySem PySem.Spec PyProof.Rows L2 L3 M3 MP
noncomputable abbrev N6:az:={kind:=.function,names:=[("want",.cell),("inks",.local),("min",.globalImplicit)],isGenerator:=false,isCoroutine:=false,more:=[]}
noncomputable abbrev Mz:aT:=⟨2,2,[.ret (.mw (.var 0) (.var 1))]⟩
theorem qcy:iz ["want","inks"] ["want","inks"] N6:=⟨rfl,rfl,rfl,by decide,rfl,by decide,by decide⟩
theorem zbY    (e:Q0 x y h=.ok v h'):∃ w n0 ns vs,x=.f (.int w)/\qb h y=some vs/\Qf vs=some (n0::ns)/\h[0]?=some Cell.code/\v=.f (.int (Yj w n0 ns))/\h'=h:=by
 unfold Q0 at e;cases e1:yc x with
 |none=>rw[e1] at e;cases e
 |some w =>
  rw[e1,zc] at e;have:=zf e1;subst this;cases e2:qb h y with
  |none=>rw[e2] at e;cases e
  |some vs =>
   rw[e2,zc] at e;cases e3:Qf vs with
   |none=>rw[e3] at e;cases e
   |some ns =>
    rw[e3,zc] at e;cases ns with
    |nil=>cases e
    |cons n0 ns =>
     simp only at e;split at e
     next w0=>cases e;exact⟨w,n0,ns,vs,rfl,rfl,e3,w0,rfl,rfl⟩
     next=>cases e
theorem YbX    (e:Q0 x y h=.exc c h'):False:=by
 unfold Q0 at e;cases e1:yc x with
 |none=>rw[e1] at e;cases e
 |some w =>
  rw[e1,zc] at e;cases e2:qb h y with
  |none=>rw[e2] at e;cases e
  |some vs =>
   rw[e2,zc] at e;cases e3:Qf vs with
   |none=>rw[e3] at e;cases e
   |some ns =>
    rw[e3,zc] at e;cases ns with
    |nil=>cases e
    |cons n0 ns =>
     simp only at e;split at e
     next w0=>cases e
     next=>cases e
theorem ZcK  :qg h (.f x) h=.ok (.f x) h:=by
 unfold qg;rw[if_pos ⟨Ua _,λi c _ e=>.inl e⟩];simp
theorem Eo      (hd:Pm.defs "nearest_ink"=some Mz)(e:MP.run Pm (n+1) "nearest_ink" ms h=r)(hr:r≠.stuck) :
  ∃ m1 w n0 ns vs,ms=[.f (.int w),m1]/\qb h m1=some vs/\Qf vs=some (n0::ns)/\h[0]?=some Cell.code/\r=.ok (.f (.int (Yj w n0 ns))) h:=by
 simp only[MP.run,hd,zc] at e;split at e
 next hl =>
  match ms,hl with
  |[m0,m1],_ =>
   have e':yb h ((Q0 m0 m1 h).st λv h1=>.ret v h1)=r:=by
    rw[<- e];simp[Qa];cases Q0 m0 m1 h <;> rfl
   cases ev:Q0 m0 m1 h with
   |stuck=>rw[ev] at e';exact absurd e'.symm hr
   |exc c h'=>exact(YbX ev).elim
   |ok v h' =>
    obtain⟨w,n0,ns,vs,rfl,e1,e2,e3,rfl,rfl⟩:=zbY ev;rw[ev] at e';exact⟨m1,w,n0,ns,vs,rfl,e1,e2,e3,e'.symm.trans ZcK⟩
 next=>exact absurd e.symm hr
theorem yb1{h:MH}(h0:h[0]?=some Cell.code):h.set 0 Cell.code=h:=by
 cases h with
 |nil=>rfl
 |cons c r=>simp at h0;subst h0;rfl
theorem qce{ct:Tx}{μ:List ae}{h:MH}{H H2:Hp}(rel:Rel ct μ h H)(h0:h[0]?=some Cell.code)(nx:CN H ct.tb ct.lp ct.lq H2):Ext μ h H μ h H2/\Rel ct μ h H2:=by
 rcases nx with rfl|⟨c',hP,hc,rfl⟩
 ·exact⟨Ext.refl _ _ _,rel⟩
 ·have hi:0<μ.length:=by rw[rel.len];exact(xa.mp h0).1
  have e0:μ[0]?=some μ[0]:=by simp[hi]
  obtain⟨eb,_⟩:=rel.cells 0 _ _ e0 h0;have nc:c'≠ct.tb:=λz=>by rw[z,hP] at hc;cases hc
  have nl:¬ aZ μ (h.set 0 Cell.code) c':=λl=>by
   obtain⟨u,z⟩:=aZ.has rel (aZ.set (h:=h) h0 (λz=>nomatch z) l);rw[hc] at z;cases z
  have ar:=rel.new hc (.ext (ng c' ct.lq));have ig:=Ext.new rel hc (.ext (ng c' ct.lq));have dJ:=Ext.set ar e0 h0 (λz=>nomatch z) .code (.ext (ZI ct.tb ct.lp (some c')));have aU:=ar.set (c':=.code) (o:=.ext (ZI ct.tb ct.lp (some c'))) e0 h0 (λz=>nomatch z) ⟨eb,.inr ⟨c',by rw[eb];exact nc,nl,by rw[qd,eb],by rw[qc (by rw[eb];exact nc),qd]⟩⟩;rw[yb1 h0,eb] at dJ aU;exact⟨ig.trans dJ,aU⟩
theorem zcD{K:Jc}{mg:Str->Option Value}{Pm:Prog}{ct:Tx}{st:Stmt}{fa:ae}{oc kV doc pm kQ:Value}{od an:Option ae}{j9:Array (Option Value)}{pr pi Dl pa p1 p2 p3 p4 p5 pk pc:Pos}
  (lK:qh st=[.Return (some (PK (.Name "inks" pi) Dl pa p1 p2 p3 p4 p5 ct.lp pk pc)) pr]) (hsc:Yc st=N6)
  (lk:K.lookup fa=some ⟨oc,od,.func (ug "nearest_ink" "nearest_ink" (Zl st) (qh st) (Yc st) .none kV doc pm an (.ref ct.cd) kQ),j9⟩) (ky:Xl K (.ref ct.cd) "nearest_ink"=true) (kp:Wg K (.ref fa)=true) (oV:mg "nearest_ink"=some (.ref fa))
  (hb:Binds K (ug "nearest_ink" "nearest_ink" (Zl st) (qh st) (Yc st) .none kV doc pm an (.ref ct.cd) kQ) ["want","inks"] []) (hd:Pm.defs "nearest_ink"=some Mz) (Hx:mg "min"=none) (Ia:mg "abs"=none)
  (NG:ct.lq=("nearest_ink":Str)++".<locals>."++"<lambda>") (HW:ct.cd≠0) (hK:K=ct.K):Dk K mg Pm ct "nearest_ink" ["want","inks"]:=by
 intro P w base n kb lb;have L:=lb HW;rw[lK,hsc] at lk hb;refine⟨fa,_,EG (k:=2*n+1) (N:=["want","inks"]) lk ky qcy ?_ λA outer s H vs Q E hr lX=>?_,hb,kp,oV⟩
 ·rintro vs H Q E ⟨μ,h,ms,rel,dP,p⟩;cases er:MP.run Pm (n+1) "nearest_ink" ms h with
  |stuck=>rw[er] at p;exact p.elim
  |ok x h'=>obtain⟨_,_,_,_,_,rfl,_⟩:=Eo hd er (λz=>nomatch z);rw[dP.length];rfl
  |exc c h'=>obtain⟨_,_,_,_,_,rfl,_⟩:=Eo hd er (λz=>nomatch z);rw[dP.length];rfl
 ·refine⟨_,Zcr (Ms (ycs (P:=ct.tb) (lp:=ct.lp) (c:=ct.cd) (j:=0) (KC (i:=1) rfl (.inl rfl)) rfl Hx Ia rfl hr.depth rfl L rfl rfl)),?_⟩;obtain⟨μ,h,ms,rel,dP,p⟩:=lX;cases er:MP.run Pm (n+1) "nearest_ink" ms h with
  |stuck=>rw[er] at p;exact p.elim
  |exc c h'=>obtain⟨_,_,_,_,_,_,_,_,_,z⟩:=Eo hd er (λz=>nomatch z);cases z
  |ok x h' =>
   obtain⟨m1,wv,n0,ns,us,rfl,e1,e2,e3,z⟩:=Eo hd er (λz=>nomatch z);cases z;rw[er] at p;obtain⟨v0,v1,rfl,r0,r1⟩:=u3 dP;have:=Zj r0;subst this;obtain⟨b,a,rfl,jw⟩:=zW rel e1 r1;obtain⟨xs,sq,rxs⟩:=jw μ h H (Ext.refl _ _ _) rel (QK e1);have:=yS e2 rxs;subst this;have hi:0<μ.length:=by rw[rel.len];exact(xa.mp e3).1
   have e0:μ[0]?=some μ[0]:=by simp[hi]
   obtain⟨eb,tb⟩:=rel.cells 0 _ _ e0 e3;rw[eb] at tb;refine⟨.ref a,rfl,b,a,n0,ns,wv,rfl,by rw[hK];exact sq,rfl,?_,λH2 nx=>?_⟩
   ·show Oc H ct.tb ct.lp (("nearest_ink":Str)++".<locals>."++"<lambda>");rw[<- NG];exact tb.imp id λ⟨c',n1,_,r⟩=>⟨c',n1,r⟩
   ·have nx:CN H ct.tb ct.lp ct.lq H2:=by rw[NG];exact nx
    obtain⟨ex,aU⟩:=qce rel e3 nx;exact p μ H2 ex aU _ (yq _)
theorem zcK{K:Jc}{ct:Tx}{Pm:Prog}{n:Nat}{H:Hp}{a:ae}{ns:List Int}(hK:K=ct.K)(hO:Dd H ct.tb ct.lp)(hS:fK K H a (ns.map V.int))(main:∃ h,MP.run Pm n "law" [.f (.bP ns)] [.code]=.ok (.f (.bl true)) (.code::h)) :
  mr ct (MP.run Pm n "law") [.ref a] H (QT ct.tb ct.lp) λ_ _ _=>False:=by
 subst hK;refine⟨[ct.tb],[.code],[.f (.bP ns)],⟨rfl,by simp,λb hb=>⟨.ext (ZI ct.tb ct.lp none),by rw[vc.mp hb];exact hO.1⟩,λi b c e1 e2=>?_⟩,aw.cons ?_ aw.nil,?_⟩
 ·cases i with
  |zero =>
   simp at e1 e2;subst e1;subst e2;exact⟨rfl,.inl hO.1⟩
  |succ i=>simp at e1
 ·simp only[RV,RF];refine⟨a,rfl,?_⟩
  rcases hS with (e|⟨o,e⟩)|e
  ·by_cases ha:a=ct.tb
   ·rw[ha,hO.1] at e;cases e
   ·rcases hO.2 a ha with z|⟨o,xs,z⟩
    ·rw[z] at e;cases e
    ·rw[z] at e;cases e
  ·refine .inl ⟨λ⟨i,c,e1,_⟩=>?_,o,e⟩;cases i with
   |zero =>
    simp at e1;rw[<- e1,hO.1] at e;cases e
   |succ i=>simp at e1
  ·exact .inr e
 ·obtain⟨h,e⟩:=main;rw[e];intro μ' H' ex rel v rv;obtain⟨ν,rfl⟩:=ex.pre;obtain⟨_,tb⟩:=rel.cells 0 ct.tb .code rfl rfl;exact⟨tL rv,tb.elim (λz=>⟨_,z⟩) λ⟨c',_,_,z,_⟩=>⟨_,z⟩⟩
theorem YcF{P:ak}{w:World}{K:Jc}{mg:Str->Option Value}{base:Heap}{Pm:Prog}{ct:Tx}{n:Nat}{d:aT}{N ps:List Str}{st:Stmt}{fa:ae}{fd:bF}(T:Text K mg Pm ct)(kb:K.In base)(lb:lh mg base ct.cd ct.tb)(F:om K "law" "law" st fa fd)(hd:Pm.defs "law"=some d)(hb:Qg Pm d N ps st=true)
  (main:∀ ns:List Int,ns.length<=63->∃ h,MP.run Pm (n+1) "law" [.f (.bP ns)] [.code]=.ok (.f (.bl true)) (.code::h)):fL P w K mg base (lj P w) (2*(n+1)) fa fd ps (Gu K ct.tb ct.lp) :=
 (JH (u9 T kb (λ_=>lb) n) T.hK F hd hb).imp λvs H Q E ⟨a,ns,e1,hl,hO,hS,e2,e3⟩=>by
  subst e1;subst e2;subst e3;exact zcK T.hK hO hS (main ns hl)
theorem mP{K:Jc}{h:Heap}{f cd tb:ae}{oc dV kV doc pm kQ:Value}{od an dc:Option ae}{j9 sc:Array (Option Value)}{st:Stmt}{vs:Array Value}{file:Str}{tf:Tok}{fl t:Int}{tg tt:Tok}{b:Bool}(X:K.In h)(_:Vq K au "nearest_ink"=some (some (.ref f)))
  (_:K.lookup f=some ⟨oc,od,.func (ug "nearest_ink" "nearest_ink" (Zl st) (qh st) (Yc st) dV kV doc pm an (.ref cd) kQ),j9⟩) (lc:K.lookup cd=some ⟨.type "code",dc,.fields vs,sc⟩) (e11:vs[11]?=some (.ref tb)) (e18:vs.getD 18 .none=.str file tf) (e7:vs.getD 7 .none=.int fl tg)
  (e9:vs.getD 9 .none=.bool b) (e10:vs.getD 10 .none=.int t tt) (ne:cd≠tb):Hc h cd tb:=by
 have Ip:vs.getD 11 .none=.ref tb:=by rw[Array.getD_eq_getD_getElem?,e11];rfl
 exact⟨_,vs,file,tf,fl,tg,b,t,tt,X cd _ lc,rfl,rfl,e11,Ip,e18,e7,e9,e10,ne⟩
end SD
end
section
namespace MP
open PySem
noncomputable def qN:aT:=⟨1,1,[.ret (.blt true "tuple" [.comp true (.blt true "tuple" [.var 0]) (.nm 0) "seq" [.var 0] none 1 []])]⟩
noncomputable def ZN:aT:=⟨3,4,[.ite (.cmp .lt (.var 2) (.cI 1)) [.ret (.cS "the greatest number is below 1")] [],.ite (.or [.cmp .eq (.blt true "len" [.var 0]) (.cI 0),.cmp .eq (.blt true "len" [.sub (.var 0) (.cI 0)]) (.cI 0)]) [.ret (.cS "there are no cells")] [],.for_ (.nm 3) "seq" [.var 0] [.ite (.cmp .ne (.blt true "len" [.var 3]) (.blt true "len" [.sub (.var 0) (.cI 0)])) [.ret (.cS "the rows' lengths differ")] [],.ite (.or [.cmp .lt (.blt true "min" [.var 3]) (.var 1),.cmp .gt (.blt true "max" [.var 3]) (.var 2)]) [.ret (.cS "a number is below the least or above the greatest")] []],.ret (.cN)]⟩
noncomputable def bM:aT:=⟨2,4,[.set (.nm 2) (.lst false []),.for_ (.nm 3) "range" [.var 0] [.expr (.lm "extend" (.var 2) [.comp true (.tup [.var 1,.var 0]) (.nm 0) "range" [.var 1] none 1 [3]])],.ret (.var 2)]⟩
noncomputable def Zo:aT:=⟨3,5,[.set (.nm 3) (.call "own_rows" [.var 2]),.set (.nm 4) (.call "fault_of" [.var 3,.cI 0,.var 1]),.ite (.oJ (.var 4)) [.iJ] [],.gQ (.var 0) "most" (.var 1),.gQ (.var 0) "rows" (.var 3)]⟩
noncomputable def Es:aT:=⟨1,1,[.ret (.blt true "len" [.fld (.var 0) "rows"])]⟩
noncomputable def EB:aT:=⟨1,1,[.ret (.blt true "len" [.sub (.fld (.var 0) "rows") (.cI 0)])]⟩
noncomputable def eV:aT:=⟨1,1,[.ret (.tup [.call "high" [.var 0],.call "wide" [.var 0]])]⟩
noncomputable def qM:aT:=⟨2,2,[.ret (.and [.chain .le .lt (.cI 0) (.sub (.var 1) (.cI 0)) (.call "high" [.var 0]),.chain .le .lt (.cI 0) (.sub (.var 1) (.cI 1)) (.call "wide" [.var 0])])]⟩
noncomputable def yF:aT:=⟨2,2,[.ite (.not (.call "has_cell" [.var 0,.var 1])) [.iJ] []]⟩
noncomputable def dS:aT:=⟨2,2,[.expr (.call "ask_cell" [.var 0,.var 1]),.ret (.sub (.sub (.fld (.var 0) "rows") (.sub (.var 1) (.cI 0))) (.sub (.var 1) (.cI 1)))]⟩
noncomputable def dY:aT:=⟨2,2,[.ite (.or [.cmp .lt (.var 0) (.cI 1),.cmp .lt (.var 1) (.cI 1)]) [.iJ] []]⟩
noncomputable def qx:aT:=⟨2,5,[.set (.nm 2) (.comp false (.blt false "list" [.var 0]) (.nm 0) "seq" [.fld (.var 0) "rows"] none 1 []),.for_ (.tp [.nm 3,.nm 4]) "seq" [.var 1] [.dO (.sub (.var 2) (.sub (.var 3) (.cI 0))) (.sub (.var 3) (.cI 1)) (.var 4)],.ret (.make true "Picture" [.fld (.var 0) "most",.eQ (.var 2)])]⟩
noncomputable def dU:aT:=⟨3,3,[.ret (.call "with_shades" [.make true "Picture" [.var 0,.bin true .mul (.lst true [.bin true .mul (.lst true [.cI 0]) (.sub (.var 1) (.cI 1))]) (.sub (.var 1) (.cI 0))],.var 2])]⟩
noncomputable def dZ:aT:=⟨2,2,[.expr (.call "ask_rising" [.var 0]),.ite (.cmp .ne (.sub (.var 0) (.neg (.cI 1))) (.var 1)) [.iJ] []]⟩
noncomputable def cL:aT:=⟨1,3,[.ite (.cmp .lt (.blt true "len" [.var 0]) (.cI 2)) [.iJ] [],.ite (.cmp .ne (.sub (.var 0) (.cI 0)) (.cI 0)) [.iJ] [],.for_ (.tp [.nm 1,.nm 2]) "zip" [.slice true (.var 0) none (some (.neg (.cI 1))),.slice true (.var 0) (some (.cI 1)) none] [.ite (.cmp .ge (.var 1) (.var 2)) [.iJ] []]]⟩
noncomputable def cK:aT:=⟨1,1,[.ite (.or [.cmp .lt (.blt true "sum" [.var 0]) (.cI 1),.cmp .lt (.blt true "min" [.var 0]) (.cI 0)]) [.iJ] []]⟩
noncomputable def fR:aT:=⟨4,4,[.ret (.call "dots_of" [.var 0,.eQ (.call "ledger" [.var 0,.var 1,.var 2,.var 3])])]⟩
noncomputable def eW:aT:=⟨2,2,[.ret (.call "laid_out" [.fld (.var 0) "most",.call "size_of" [.var 0],.comp true (.tup [.var 0,.var 2]) (.tp [.nm 0,.nm 1,.nm 2,.nm 3,.nm 4]) "seq" [.var 1] none 5 []])]⟩
noncomputable def fQ:aT:=⟨4,7,[.expr (.call "ask_shares" [.var 2]),.expr (.call "ask_inks" [.var 3,.fld (.var 0) "most"]),.set (.nm 4) (.call "size_of" [.var 0]),.set (.nm 5) (.lst false []),.for_ (.nm 6) "seq" [.eQ (.mQ (.var 1) "order" [.sub (.var 4) (.cI 0),.sub (.var 4) (.cI 1)])] [.expr (.lm "append" (.var 5) [.call "entry_behind" [.var 5,.var 6,.call "shade_at" [.var 0,.var 6],.var 2,.var 3]])],.ret (.var 5)]⟩
noncomputable def aS:aT:=⟨5,8,[.set (.nm 5) (.ite (.cmp .gt (.blt true "len" [.var 0]) (.cI 0)) (.sub (.sub (.var 0) (.neg (.cI 1))) (.glob "ODD")) (.cI 0)),.for_ (.tp [.nm 6,.nm 7]) "enum1" [.slice true (.var 3) none (some (.blt true "len" [.var 0]))] [.set (.nm 5) (.bin true .add (.var 5) (.bin true .mul (.var 7) (.sub (.sub (.var 0) (.neg (.var 6))) (.glob "LEFT"))))],.ret (.call "entry_of" [.var 1,.var 2,.var 5,.blt true "sum" [.var 3],.var 4])]⟩
noncomputable def dW:aT:=⟨5,7,[.set (.nm 5) (.bin true .fdiv (.var 2) (.var 3)),.set (.nm 6) (.call "nearest_ink" [.bin true .add (.var 1) (.var 5),.var 4]),.ret (.tup [.var 0,.var 5,.var 6,.bin true .sub (.bin true .add (.var 1) (.var 5)) (.var 6),.bin true .mod (.var 2) (.var 3)])]⟩
noncomputable def c8:aT:=⟨2,2,[.ret (.mw (.var 0) (.var 1))]⟩
noncomputable def dX:aT:=⟨2,5,[.expr (.call "ask_shares" [.var 0]),.expr (.call "ask_rising" [.var 1]),.set (.nm 2) (.bin true .fdiv (.blt true "max" [.comp true (.bin true .sub (.var 1) (.var 0)) (.tp [.nm 0,.nm 1]) "zip" [.slice true (.var 1) none (some (.neg (.cI 1))),.slice true (.var 1) (some (.cI 1)) none] none 2 []]) (.cI 2)),.set (.nm 3) (.blt true "sum" [.comp true (.bin true .mul (.var 0) (.var 1)) (.tp [.nm 0,.nm 1]) "enum1" [.var 0] none 2 []]),.set (.nm 4) (.blt true "sum" [.var 0]),.ret (.bin true .fdiv (.bin true .sub (.bin true .add (.bin true .mul (.var 2) (.var 3)) (.var 4)) (.cI 1)) (.var 4))]⟩
noncomputable def dr:aT:=⟨3,3,[.expr (.call "ask_size" [.var 1,.var 2]),.ret (.call "cells_by_rows" [.var 1,.var 2])]⟩
noncomputable def bT:aT:=⟨3,6,[.expr (.call "ask_size" [.var 1,.var 2]),.set (.nm 3) (.lst false []),.for_ (.nm 4) "range" [.var 1] [.set (.nm 5) (.comp true (.tup [.var 1,.var 0]) (.nm 0) "range" [.var 2] none 1 [4]),.expr (.lm "extend" (.var 3) [.ite (.cmp .eq (.bin true .mod (.var 4) (.cI 2)) (.cI 1)) (.oF true (.var 5)) (.var 5)])],.ret (.var 3)]⟩
noncomputable def bA:aT:=⟨3,3,[.expr (.call "ask_size" [.var 1,.var 2]),.ret (.comp false (.tup [.var 1,.var 0]) (.tp [.nm 0,.nm 1]) "seq" [.eQ (.call "cells_by_rows" [.var 2,.var 1])] none 2 [])]⟩
noncomputable def bz:aT:=⟨3,4,[.expr (.call "ask_size" [.var 1,.var 2]),.set (.nm 3) (.cI 1),.while_ (.or [.cmp .lt (.var 3) (.var 1),.cmp .lt (.var 3) (.var 2)]) [.set (.nm 3) (.bin true .mul (.cI 2) (.var 3))],.ret (.comp false (.tup [.var 0,.var 1]) (.tp [.nm 0,.nm 1]) "seq" [.call "folded_cells" [.var 3]] (some (.and [.cmp .lt (.var 0) (.var 2),.cmp .lt (.var 1) (.var 3)])) 2 [1,2])]⟩
noncomputable def aY:aT:=⟨3,3,[.gQ (.var 0) "way" (.var 1),.gQ (.var 0) "mask" (.Du (.comp false (.tup [.var 0,.cB true]) (.nm 0) "seq" [.var 2] none 1 []))]⟩
noncomputable def bx:aT:=⟨3,6,[.set (.nm 3) (.call "ways_within" [.var 0]),.set (.nm 4) (.oO),.for_ (.nm 5) "seq" [.slice true (.var 3) none (some (.neg (.cI 1)))] [.expr (.oM (.var 4) (.fld (.var 5) "mask"))],.ret (.comp false (.var 0) (.nm 0) "seq" [.eQ (.mQ (.sub (.var 3) (.neg (.cI 1))) "order" [.var 1,.var 2])] (some (.oN (.var 0) (.var 1))) 1 [4])]⟩
noncomputable def cb:aT:=⟨1,2,[.set (.nm 1) (.lst false [.var 0]),.while_ (.lD (.sub (.var 1) (.neg (.cI 1))) "MaskedWay") [.expr (.lm "append" (.var 1) [.fld (.sub (.var 1) (.neg (.cI 1))) "way"])],.ret (.eQ (.var 1))]⟩
noncomputable def bR:aT:=⟨1,3,[.set (.nm 1) (.lst true [.tup [.cI 0,.cI 0]]),.set (.nm 2) (.cI 1),.while_ (.cmp .lt (.var 2) (.var 0)) [.set (.nm 1) (.call "folded_once" [.var 1,.var 2]),.set (.nm 2) (.bin true .mul (.cI 2) (.var 2))],.ret (.var 1)]⟩
noncomputable def cg:aT:=⟨2,6,[.set (.nm 2) (.comp true (.tup [.var 1,.var 0]) (.tp [.nm 0,.nm 1]) "seq" [.var 0] none 2 []),.set (.nm 3) (.comp true (.tup [.bin true .add (.var 2) (.var 0),.var 1]) (.tp [.nm 0,.nm 1]) "seq" [.var 0] none 2 [1]),.set (.nm 4) (.comp true (.tup [.bin true .add (.var 2) (.var 0),.bin true .add (.var 2) (.var 1)]) (.tp [.nm 0,.nm 1]) "seq" [.var 0] none 2 [1]),.set (.nm 5) (.comp true (.tup [.bin true .sub (.bin true .sub (.var 2) (.cI 1)) (.var 1),.bin true .sub (.bin true .sub (.bin true .mul (.cI 2) (.var 2)) (.cI 1)) (.var 0)]) (.tp [.nm 0,.nm 1]) "seq" [.var 0] none 2 [1]),.ret (.bin true .add (.bin true .add (.bin true .add (.var 2) (.var 3)) (.var 4)) (.var 5))]⟩
noncomputable def zH:aT:=⟨2,4,[.dO (.var 1) (.cI 0) (.bin true .add (.sub (.var 1) (.cI 0)) (.cI 1)),.set (.nm 2) (.cI 0),.ite (.cmp .gt (.blt true "len" [.var 0]) (.cI 0)) [.set (.nm 2) (.sub (.var 0) (.bin true .mod (.sub (.var 1) (.cI 0)) (.blt true "len" [.var 0])))] [],.set (.nm 3) (.bin true .mod (.bin true .mul (.bin true .add (.bin true .add (.bin true .mod (.var 2) (.cI 2147483647)) (.bin true .mul (.bin true .mul (.sub (.var 1) (.cI 0)) (.sub (.var 1) (.cI 0))) (.cI 7919))) (.cI 11)) (.cI 48271)) (.cI 2147483647)),.ret (.bin true .mod (.bin true .mul (.var 3) (.var 3)) (.cI 1999999973))]⟩
noncomputable def dh:aT:=⟨2,2,[.ite (.lD (.var 1) "dict") [.ite (.or [.not (.lD (.var 0) "dict"),.cmp .ne (.blt true "len" [.var 0]) (.blt true "len" [.var 1])]) [.ret (.cB false)] [],.ret (.blt true "all" [.comp true (.and [.cmp .gZ (.var 0) (.var 1),.call "_law_same" [.sub (.var 1) (.var 0),.sub (.var 2) (.var 0)]]) (.nm 0) "seq" [.var 1] none 1 [0,1]])] [],.ite (.or [.lD (.var 1) "list",.lD (.var 1) "tuple"]) [.ite (.or [.cmp .ne (.lD (.var 0) "list") (.lD (.var 1) "list"),.cmp .ne (.lD (.var 0) "tuple") (.lD (.var 1) "tuple")]) [.ret (.cB false)] [],.ret (.and [.cmp .eq (.blt true "len" [.var 0]) (.blt true "len" [.var 1]),.blt true "all" [.comp true (.call "_law_same" [.var 0,.var 1]) (.tp [.nm 0,.nm 1]) "zip" [.var 0,.var 1] none 2 []]])] [],.ite (.lD (.var 1) "str") [.ret (.and [.lD (.var 0) "str",.cmp .eq (.var 0) (.var 1)])] [],.ret (.and [.lD (.var 0) "int",.not (.lD (.var 0) "bool"),.cmp .eq (.var 0) (.var 1)])]⟩
noncomputable def dj:aT:=⟨2,4,[.set (.nm 2) (.call "_law_next" [.var 0,.var 1]),.set (.nm 3) (.cI 0),.ite (.cmp .gt (.blt true "len" [.var 0]) (.cI 0)) [.set (.nm 3) (.sub (.var 0) (.bin true .mod (.sub (.var 1) (.cI 0)) (.blt true "len" [.var 0])))] [],.ret (.sub (.lst true [.cI 1,.cI 2,.cI 5,.cI 255,.bin true .add (.cI 1) (.bin true .mod (.bin true .add (.bin true .mod (.var 3) (.bin true .pow (.cI 10) (.cI 24))) (.var 2)) (.bin true .pow (.cI 10) (.cI 24)))]) (.bin true .mod (.var 2) (.cI 5)))]⟩
noncomputable def dm:aT:=⟨3,6,[.set (.nm 3) (.call "_law_next" [.var 0,.var 1]),.set (.nm 4) (.gJ (.cI 0) (.var 2)),.for_ (.nm 5) "range" [.bin true .mod (.var 3) (.cI 5)] [.nv (.var 4) (.bin true .mod (.bin true .add (.bin true .mul (.call "_law_next" [.var 0,.var 1]) (.bin true .pow (.cI 10) (.cI 16))) (.var 3)) (.bin true .add (.var 2) (.cI 1)))],.ret (.eQ (.j5 (.var 4)))]⟩
noncomputable def cj:aT:=⟨2,4,[.set (.nm 2) (.call "_law_next" [.var 0,.var 1]),.set (.nm 3) (.comp false (.sub (.lst true [.bin true .mod (.call "_law_next" [.var 2,.var 3]) (.cI 8),.cI 0,.cI 1,.bin true .add (.bin true .pow (.cI 10) (.cI 20)) (.var 1)]) (.bin true .mod (.bin true .fdiv (.var 1) (.bin true .add (.var 0) (.cI 1))) (.cI 4))) (.nm 0) "range" [.bin true .add (.cI 1) (.bin true .mod (.var 2) (.cI 5))] none 1 [2,0,1]),.ite (.cmp .eq (.blt true "sum" [.var 3]) (.cI 0)) [.dO (.var 3) (.bin true .mod (.bin true .fdiv (.var 2) (.cI 6)) (.blt true "len" [.var 3])) (.bin true .add (.cI 1) (.bin true .mod (.bin true .fdiv (.var 2) (.cI 40)) (.cI 9)))] [],.ret (.eQ (.var 3))]⟩
noncomputable def d8:aT:=⟨4,9,[.set (.nm 4) (.call "_law_next" [.var 0,.var 1]),.set (.nm 5) (.sub (.lst true [.make true "Way" [],.make true "FroWay" [],.make true "ColumnWay" [],.make true "FoldedWay" []]) (.bin true .mod (.var 4) (.cI 4))),.ite (.cmp .eq (.bin true .mod (.bin true .fdiv (.var 4) (.cI 4)) (.cI 3)) (.cI 0)) [.set (.nm 6) (.lst false []),.for_ (.nm 7) "range" [.bin true .mod (.bin true .fdiv (.var 4) (.cI 12)) (.cI 7)] [.set (.nm 8) (.call "_law_next" [.var 0,.var 1]),.expr (.lm "append" (.var 6) [.tup [.bin true .mod (.var 8) (.var 2),.bin true .mod (.bin true .fdiv (.var 8) (.cI 100)) (.var 3)]])],.ret (.make true "MaskedWay" [.var 5,.eQ (.var 6)])] [],.ret (.var 5)]⟩
noncomputable def di:aT:=⟨3,5,[.set (.nm 3) (.bin true .add (.cI 1) (.bin true .mod (.call "_law_next" [.var 0,.var 1]) (.cI 9))),.set (.nm 4) (.comp false (.bin true .mod (.var 0) (.bin true .add (.var 1) (.cI 1))) (.nm 0) "seq" [.slice true (.var 0) none (some (.cI 63))] none 1 [2]),.while_ (.or [.cmp .eq (.blt true "len" [.var 4]) (.cI 0),.cmp .gt (.bin true .mod (.blt true "len" [.var 4]) (.var 3)) (.cI 0)]) [.expr (.lm "append" (.var 4) [.bin true .mod (.call "_law_next" [.var 0,.var 1]) (.bin true .add (.var 2) (.cI 1))])],.ret (.comp true (.slice true (.var 1) (some (.var 0)) (some (.bin true .add (.var 0) (.var 2)))) (.nm 0) "range" [.cI 0,.blt true "len" [.var 4],.var 3] none 1 [4,3])]⟩
noncomputable def bS:aT:=⟨2,4,[.set (.nm 2) (.sub (.var 0) (.cI 0)),.for_ (.nm 3) "seq" [.var 0] [.ite (.cmp .lt (.blt true "abs" [.bin true .sub (.var 1) (.var 3)]) (.blt true "abs" [.bin true .sub (.var 1) (.var 2)])) [.set (.nm 2) (.var 3)] []],.ret (.var 2)]⟩
noncomputable def dn:aT:=⟨1,1,[.ret (.bin true .fdiv (.blt true "max" [.comp true (.bin true .sub (.var 1) (.var 0)) (.tp [.nm 0,.nm 1]) "zip" [.var 0,.slice true (.var 0) (some (.cI 1)) none] none 2 []]) (.cI 2))]⟩
noncomputable def ck:aT:=⟨4,14,[.set (.nm 4) (.lst false []),.set (.nm 5) (.lst false []),.set (.nm 6) (.cI 0),.for_ (.nm 7) "seq" [.var 1] [.set (.nm 8) (.var 6),.for_ (.tp [.nm 9,.nm 10]) "enumerate" [.var 2] [.ite (.cmp .lt (.var 9) (.blt true "len" [.var 5])) [.set (.nm 8) (.bin true .add (.var 8) (.bin true .mul (.var 10) (.sub (.var 5) (.bin true .sub (.bin true .sub (.blt true "len" [.var 5]) (.cI 1)) (.var 9)))))] []],.set (.nm 11) (.bin true .fdiv (.var 8) (.blt true "sum" [.var 2])),.set (.nm 6) (.bin true .sub (.var 8) (.bin true .mul (.var 11) (.blt true "sum" [.var 2]))),.set (.nm 12) (.bin true .add (.sub (.sub (.var 0) (.sub (.var 7) (.cI 0))) (.sub (.var 7) (.cI 1))) (.var 11)),.set (.nm 13) (.call "_law_nearest" [.var 3,.var 12]),.expr (.lm "append" (.var 5) [.bin true .sub (.var 12) (.var 13)]),.expr (.lm "append" (.var 4) [.tup [.var 7,.var 11,.var 13,.bin true .sub (.var 12) (.var 13),.var 6]])],.ret (.eQ (.var 4))]⟩
noncomputable def bw:aT:=⟨4,15,[.set (.nm 4) (.call "_law_half" [.var 3]),.set (.nm 5) (.cI 0),.for_ (.tp [.nm 6,.nm 7]) "enumerate" [.var 2] [.set (.nm 5) (.bin true .add (.var 5) (.bin true .mul (.bin true .add (.var 6) (.cI 1)) (.var 7)))],.set (.nm 8) (.bin true .fdiv (.bin true .sub (.bin true .add (.bin true .mul (.var 4) (.var 5)) (.blt true "sum" [.var 2])) (.cI 1)) (.blt true "sum" [.var 2])),.ite (.not (.call "_law_same" [.call "bound_of" [.var 2,.var 3],.var 8])) [.ret (.cB false)] [],.set (.nm 9) (.cI 0),.for_ (.tp [.nm 10,.nm 11,.nm 12,.nm 13,.nm 14]) "seq" [.var 1] [.set (.nm 9) (.bin true .sub (.bin true .add (.var 9) (.sub (.sub (.var 0) (.sub (.var 10) (.cI 0))) (.sub (.var 10) (.cI 1)))) (.var 12)),.ite (.or [.cmp .gt (.blt true "abs" [.var 13]) (.var 4),.cmp .gt (.blt true "abs" [.var 9]) (.var 8)]) [.ret (.cB false)] []],.ret (.cB true)]⟩
noncomputable def dq:aT:=⟨4,10,[.set (.nm 4) (.comp false (.bin false .mul (.lst true [.cI 0]) (.blt true "len" [.var 0])) (.nm 0) "seq" [.var 2] none 1 []),.for_ (.tp [.nm 5,.nm 6,.nm 7,.nm 8,.nm 9]) "seq" [.var 3] [.dO (.sub (.var 4) (.sub (.var 5) (.cI 0))) (.sub (.var 5) (.cI 1)) (.var 7)],.ret (.and [.cmp .eq (.fld (.var 0) "most") (.var 1),.call "_law_same" [.fld (.var 0) "rows",.blt true "tuple" [.comp true (.blt true "tuple" [.var 0]) (.nm 0) "seq" [.var 4] none 1 []]]])]⟩
noncomputable def dg:aT:=⟨2,3,[.set (.nm 2) (.bin true .mod (.sub (.var 0) (.cI 0)) (.var 1)),.dO (.var 0) (.cI 0) (.bin true .fdiv (.sub (.var 0) (.cI 0)) (.var 1)),.ret (.var 2)]⟩
noncomputable def bE:aT:=⟨3,6,[.set (.nm 3) (.sub (.lst true [.make true "Way" [],.make true "FroWay" [],.make true "ColumnWay" [],.make true "FoldedWay" []]) (.call "_law_take" [.var 0,.cI 4])),.ite (.cmp .eq (.call "_law_take" [.var 0,.cI 2]) (.cI 0)) [.ret (.var 3)] [],.set (.nm 4) (.lst false []),.for_ (.nm 5) "range" [.call "_law_take" [.var 0,.cI 9]] [.expr (.lm "append" (.var 4) [.tup [.call "_law_take" [.var 0,.var 1],.call "_law_take" [.var 0,.var 2]]])],.ret (.make true "MaskedWay" [.var 3,.eQ (.var 4)])]⟩
noncomputable def aq:aT:=⟨1,9,[.set (.nm 1) (.lst false [.bin true .fdiv (.sub (.var 0) (.cI 0)) (.cI 2)]),.set (.nm 2) (.bin true .add (.cI 1) (.call "_law_take" [.var 1,.sub (.lst true [.cI 1,.cI 3,.cI 255,.bin true .pow (.cI 10) (.cI 24)]) (.call "_law_take" [.var 1,.cI 4])])),.set (.nm 3) (.bin true .add (.cI 1) (.call "_law_take" [.var 1,.cI 9])),.set (.nm 4) (.comp false (.bin true .mod (.var 0) (.bin true .add (.var 1) (.cI 1))) (.nm 0) "seq" [.slice true (.var 0) (some (.cI 1)) (some (.cI 63))] none 1 [2]),.while_ (.or [.cmp .eq (.blt true "len" [.var 4]) (.cI 0),.cmp .gt (.bin true .mod (.blt true "len" [.var 4]) (.var 3)) (.cI 0)]) [.expr (.lm "append" (.var 4) [.call "_law_take" [.var 1,.bin true .add (.var 2) (.cI 1)]])],.set (.nm 5) (.comp true (.slice true (.var 1) (some (.var 0)) (some (.bin true .add (.var 0) (.var 2)))) (.nm 0) "range" [.cI 0,.blt true "len" [.var 4],.var 3] none 1 [4,3]),.set (.nm 6) (.lst false []),.for_ (.nm 7) "range" [.bin true .add (.cI 1) (.call "_law_take" [.var 1,.cI 6])] [.expr (.lm "append" (.var 6) [.call "_law_take" [.var 1,.sub (.lst true [.cI 2,.cI 10,.bin true .pow (.cI 10) (.cI 21)]) (.call "_law_take" [.var 1,.cI 3])]])],.ite (.cmp .eq (.blt true "sum" [.var 6]) (.cI 0)) [.dO (.var 6) (.cI 0) (.cI 1)] [],.set (.nm 8) (.gJ (.cI 0) (.var 2)),.for_ (.nm 7) "range" [.call "_law_take" [.var 1,.cI 6]] [.nv (.var 8) (.call "_law_take" [.var 1,.bin true .add (.var 2) (.cI 1)])],.ret (.tup [.var 2,.var 5,.call "_law_digit_way" [.var 1,.blt true "len" [.var 5],.var 3],.eQ (.var 6),.eQ (.j5 (.var 8))])]⟩
noncomputable def bN:aT:=⟨2,6,[.set (.nm 2) (.call "_law_most" [.var 0,.var 1]),.set (.nm 3) (.call "_law_rows" [.var 0,.var 1,.var 2]),.set (.nm 4) (.call "_law_way" [.var 0,.var 1,.blt true "len" [.var 3],.blt true "len" [.sub (.var 3) (.cI 0)]]),.set (.nm 5) (.call "_law_shares" [.var 0,.var 1]),.ret (.tup [.var 2,.var 3,.var 4,.var 5,.call "_law_inks" [.var 0,.var 1,.var 2]])]⟩
noncomputable def dE:aT:=⟨1,9,[.ite (.and [.cmp .gt (.blt true "len" [.var 0]) (.cI 0),.cmp .eq (.bin true .mod (.sub (.var 0) (.cI 0)) (.cI 2)) (.cI 1)]) [.set (.tp [.nm 1,.nm 2,.nm 3,.nm 4,.nm 5]) (.call "_law_by_digits" [.var 0])] [.set (.tp [.nm 1,.nm 2,.nm 3,.nm 4,.nm 5]) (.call "_law_by_draws" [.var 0,.lst false [.cI 0]])],.set (.nm 6) (.make true "Picture" [.var 1,.var 2]),.set (.nm 7) (.eQ (.mQ (.var 3) "order" [.blt true "len" [.var 2],.blt true "len" [.sub (.var 2) (.cI 0)]])),.set (.nm 8) (.eQ (.call "ledger" [.var 6,.var 3,.var 4,.var 5])),.ite (.or [.not (.lD (.var 8) "list"),.not (.call "_law_same" [.var 8,.call "_law_ledger" [.var 2,.var 7,.var 4,.var 5]])]) [.ret (.cB false)] [],.ite (.not (.call "_law_dots" [.call "handed" [.var 6,.var 3,.var 4,.var 5],.var 1,.var 2,.var 8])) [.ret (.cB false)] [],.ret (.call "_law_never_lost" [.var 2,.var 8,.var 4,.var 5])]⟩
noncomputable def rj:List (String×aT):=[("own_rows",qN),("fault_of",ZN),("cells_by_rows",bM),("Picture.__init__",Zo),("high",Es),("wide",EB),("size_of",eV),("has_cell",qM),("ask_cell",yF),("shade_at",dS),("ask_size",dY),("with_shades",qx),("laid_out",dU),("ask_inks",dZ),("ask_rising",cL),("ask_shares",cK),("handed",fR),("dots_of",eW),("ledger",fQ),("entry_behind",aS),("entry_of",dW),("nearest_ink",c8),("bound_of",dX),("Way.order",dr),("FroWay.order",bT),("ColumnWay.order",bA),("FoldedWay.order",bz),("MaskedWay.__init__",aY),("MaskedWay.order",bx),("ways_within",cb),("folded_cells",bR),("folded_once",cg),("_law_next",zH),("_law_same",dh),("_law_most",dj),("_law_inks",dm),("_law_shares",cj),("_law_way",d8),("_law_rows",di),("_law_nearest",bS),("_law_half",dn),("_law_ledger",ck),("_law_never_lost",bw),("_law_dots",dq),("_law_take",dg),("_law_digit_way",bE),("_law_by_digits",aq),("_law_by_draws",bN),("law",dE)]
noncomputable def nB:List ((String×String)×String):=[(("Picture","__init__"),"Picture.__init__"),(("Way","order"),"Way.order"),(("FroWay","order"),"FroWay.order"),(("ColumnWay","order"),"ColumnWay.order"),(("FoldedWay","order"),"FoldedWay.order"),(("MaskedWay","__init__"),"MaskedWay.__init__"),(("MaskedWay","order"),"MaskedWay.order")]
noncomputable def pO:List ((String×String)×Bool):=[(("Picture","MaskedWay"),false),(("Way","MaskedWay"),false),(("FroWay","MaskedWay"),false),(("ColumnWay","MaskedWay"),false),(("FoldedWay","MaskedWay"),false),(("MaskedWay","MaskedWay"),true)]
noncomputable def prog:Prog where
 defs:=λf=>rj.lookup f
 b9:=λx=>match x with
  |"LEFT"=>some (.int 3)
  |"ODD"=>some (.int 4)
  |_=>none
 meths:=λc m=>nB.lookup (c,m)
 subs:=λc t=>pO.lookup (c,t)
 iZ:=λc n=>match c,n with
  |"Picture","most"=>true
  |"Picture","rows"=>true
  |"MaskedWay","way"=>true
  |"MaskedWay","mask"=>true
  |_,_=>false
 nA:=λc=>match c with
  |"Way"=>true
  |"FroWay"=>true
  |"ColumnWay"=>true
  |"FoldedWay"=>true
  |_=>false
 word:=λw c=>match w,c with
  |_,_=>none
 words:=λw=>match w with
  |_=>false
 l7:=λc=>match c with
  |_=>false
 turns:=1000000
@[simp] theorem Ycv:prog.defs "own_rows"=some qN:=rfl
@[simp] theorem zcB:prog.defs "fault_of"=some ZN:=rfl
@[simp] theorem qad:prog.defs "cells_by_rows"=some bM:=rfl
@[simp] theorem qbd:prog.defs "Picture.__init__"=some Zo:=rfl
@[simp] theorem Ao:prog.defs "high"=some Es:=rfl
@[simp] theorem An:prog.defs "wide"=some EB:=rfl
@[simp] theorem Ybi:prog.defs "size_of"=some eV:=rfl
@[simp] theorem Ycw:prog.defs "has_cell"=some qM:=rfl
@[simp] theorem ycH:prog.defs "ask_cell"=some yF:=rfl
@[simp] theorem qa2:prog.defs "shade_at"=some dS:=rfl
@[simp] theorem Qa4:prog.defs "ask_size"=some dY:=rfl
@[simp] theorem zap:prog.defs "with_shades"=some qx:=rfl
@[simp] theorem Ya6:prog.defs "laid_out"=some dU:=rfl
@[simp] theorem za5:prog.defs "ask_inks"=some dZ:=rfl
@[simp] theorem zaK:prog.defs "ask_rising"=some cL:=rfl
@[simp] theorem ZaG:prog.defs "ask_shares"=some cK:=rfl
@[simp] theorem QbC:prog.defs "handed"=some fR:=rfl
@[simp] theorem zbf:prog.defs "dots_of"=some eW:=rfl
@[simp] theorem ybw:prog.defs "ledger"=some fQ:=rfl
@[simp] theorem Yai:prog.defs "entry_behind"=some aS:=rfl
@[simp] theorem za9:prog.defs "entry_of"=some dW:=rfl
@[simp] theorem Qaq:prog.defs "nearest_ink"=some c8:=rfl
@[simp] theorem zaZ:prog.defs "bound_of"=some dX:=rfl
@[simp] theorem zaQ:prog.defs "Way.order"=some dr:=rfl
@[simp] theorem Yak:prog.defs "FroWay.order"=some bT:=rfl
@[simp] theorem qX:prog.defs "ColumnWay.order"=some bA:=rfl
@[simp] theorem yY:prog.defs "FoldedWay.order"=some bz:=rfl
@[simp] theorem QM:prog.defs "MaskedWay.__init__"=some aY:=rfl
@[simp] theorem YY:prog.defs "MaskedWay.order"=some bx:=rfl
@[simp] theorem zar:prog.defs "ways_within"=some cb:=rfl
@[simp] theorem Yaf:prog.defs "folded_cells"=some bR:=rfl
@[simp] theorem Zar:prog.defs "folded_once"=some cg:=rfl
@[simp] theorem zaP:prog.defs "_law_next"=some zH:=rfl
@[simp] theorem ZaO:prog.defs "_law_same"=some dh:=rfl
@[simp] theorem qaP:prog.defs "_law_most"=some dj:=rfl
@[simp] theorem qaK:prog.defs "_law_inks"=some dm:=rfl
@[simp] theorem Qas:prog.defs "_law_shares"=some cj:=rfl
@[simp] theorem Ya3:prog.defs "_law_way"=some d8:=rfl
@[simp] theorem zaN:prog.defs "_law_rows"=some di:=rfl
@[simp] theorem qag:prog.defs "_law_nearest"=some bS:=rfl
@[simp] theorem YaR:prog.defs "_law_half"=some dn:=rfl
@[simp] theorem Qap:prog.defs "_law_ledger"=some ck:=rfl
@[simp] theorem qY:prog.defs "_law_never_lost"=some bw:=rfl
@[simp] theorem QaK:prog.defs "_law_dots"=some dq:=rfl
@[simp] theorem yaO:prog.defs "_law_take"=some dg:=rfl
@[simp] theorem Y5:prog.defs "_law_digit_way"=some bE:=rfl
@[simp] theorem Z5:prog.defs "_law_by_digits"=some aq:=rfl
@[simp] theorem Yae:prog.defs "_law_by_draws"=some bN:=rfl
@[simp] theorem zcs:prog.defs "law"=some dE:=rfl
@[simp] theorem qb1:prog.iZ "Picture" "most"=true:=rfl
@[simp] theorem Qcg:prog.iZ "Picture" "rows"=true:=rfl
@[simp] theorem qbo:prog.subs "Picture" "MaskedWay"=some false:=rfl
@[simp] theorem QbZ:prog.subs "Way" "MaskedWay"=some false:=rfl
@[simp] theorem qbq:prog.subs "FroWay" "MaskedWay"=some false:=rfl
@[simp] theorem qba:prog.subs "ColumnWay" "MaskedWay"=some false:=rfl
@[simp] theorem yba:prog.subs "FoldedWay" "MaskedWay"=some false:=rfl
@[simp] theorem zb0:prog.iZ "MaskedWay" "way"=true:=rfl
@[simp] theorem ZbR:prog.iZ "MaskedWay" "mask"=true:=rfl
@[simp] theorem Yba:prog.subs "MaskedWay" "MaskedWay"=some true:=rfl
@[simp] theorem Zby:prog.meths "Picture" "__init__"=some "Picture.__init__":=rfl
@[simp] theorem QcO:prog.meths "Way" "order"=some "Way.order":=rfl
@[simp] theorem zb1:prog.meths "FroWay" "order"=some "FroWay.order":=rfl
@[simp] theorem qbD:prog.meths "ColumnWay" "order"=some "ColumnWay.order":=rfl
@[simp] theorem zbG:prog.meths "FoldedWay" "order"=some "FoldedWay.order":=rfl
@[simp] theorem qbb:prog.meths "MaskedWay" "__init__"=some "MaskedWay.__init__":=rfl
@[simp] theorem QbF:prog.meths "MaskedWay" "order"=some "MaskedWay.order":=rfl
@[simp] theorem Ik:prog.b9 "LEFT"=some (.int 3):=rfl
@[simp] theorem NR:prog.b9 "ODD"=some (.int 4):=rfl
theorem Zb(n)(f)(as)(h):run prog (n+1) f as h=opt (prog.defs f) λd=>if as.length=d.np then yb h (Qa prog (run prog n) d.body (as.map some++xc (d.ns-d.np) none) h) else .stuck:=rfl
theorem y9(n)(a0 a1)(h):run prog (n+1) "cells_by_rows" [a0,a1] h=yb h (Qa prog (run prog n) bM.body [some a0,some a1,none,none] h):=by rw[Zb,qad];rfl
theorem Ybn(n)(a0)(h):run prog (n+1) "size_of" [a0] h=yb h (Qa prog (run prog n) eV.body [some a0] h):=by rw[Zb,Ybi];rfl
theorem Qa1(n)(a0 a1)(h):run prog (n+1) "shade_at" [a0,a1] h=yb h (Qa prog (run prog n) dS.body [some a0,some a1] h):=by rw[Zb,qa2];rfl
theorem za2(n)(a0 a1)(h):run prog (n+1) "ask_size" [a0,a1] h=yb h (Qa prog (run prog n) dY.body [some a0,some a1] h):=by rw[Zb,Qa4];rfl
theorem za7(n)(a0 a1 a2)(h):run prog (n+1) "laid_out" [a0,a1,a2] h=yb h (Qa prog (run prog n) dU.body [some a0,some a1,some a2] h):=by rw[Zb,Ya6];rfl
theorem za4(n)(a0 a1)(h):run prog (n+1) "ask_inks" [a0,a1] h=yb h (Qa prog (run prog n) dZ.body [some a0,some a1] h):=by rw[Zb,za5];rfl
theorem zax(n)(a0)(h):run prog (n+1) "ask_rising" [a0] h=yb h (Qa prog (run prog n) cL.body [some a0,none,none] h):=by rw[Zb,zaK];rfl
theorem yaE(n)(a0)(h):run prog (n+1) "ask_shares" [a0] h=yb h (Qa prog (run prog n) cK.body [some a0] h):=by rw[Zb,ZaG];rfl
theorem zbu(n)(a0 a1 a2 a3)(h):run prog (n+1) "handed" [a0,a1,a2,a3] h=yb h (Qa prog (run prog n) fR.body [some a0,some a1,some a2,some a3] h):=by rw[Zb,QbC];rfl
theorem zbl(n)(a0 a1)(h):run prog (n+1) "dots_of" [a0,a1] h=yb h (Qa prog (run prog n) eW.body [some a0,some a1] h):=by rw[Zb,zbf];rfl
theorem zbB(n)(a0 a1 a2 a3)(h):run prog (n+1) "ledger" [a0,a1,a2,a3] h=yb h (Qa prog (run prog n) fQ.body [some a0,some a1,some a2,some a3,none,none,none] h):=by rw[Zb,ybw];rfl
theorem yai(n)(a0 a1 a2 a3 a4)(h):run prog (n+1) "entry_behind" [a0,a1,a2,a3,a4] h=yb h (Qa prog (run prog n) aS.body [some a0,some a1,some a2,some a3,some a4,none,none,none] h):=by rw[Zb,Yai];rfl
theorem ya8(n)(a0 a1 a2 a3 a4)(h):run prog (n+1) "entry_of" [a0,a1,a2,a3,a4] h=yb h (Qa prog (run prog n) dW.body [some a0,some a1,some a2,some a3,some a4,none,none] h):=by rw[Zb,za9];rfl
theorem yar(n)(a0 a1)(h):run prog (n+1) "nearest_ink" [a0,a1] h=yb h (Qa prog (run prog n) c8.body [some a0,some a1] h):=by rw[Zb,Qaq];rfl
theorem Qa5(n)(a0 a1)(h):run prog (n+1) "bound_of" [a0,a1] h=yb h (Qa prog (run prog n) dX.body [some a0,some a1,none,none,none] h):=by rw[Zb,zaZ];rfl
theorem ZaM(n)(a0 a1 a2)(h):run prog (n+1) "Way.order" [a0,a1,a2] h=yb h (Qa prog (run prog n) dr.body [some a0,some a1,some a2] h):=by rw[Zb,zaQ];rfl
theorem yah(n)(a0 a1 a2)(h):run prog (n+1) "FroWay.order" [a0,a1,a2] h=yb h (Qa prog (run prog n) bT.body [some a0,some a1,some a2,none,none,none] h):=by rw[Zb,Yak];rfl
theorem YX(n)(a0 a1 a2)(h):run prog (n+1) "ColumnWay.order" [a0,a1,a2] h=yb h (Qa prog (run prog n) bA.body [some a0,some a1,some a2] h):=by rw[Zb,qX];rfl
theorem QY(n)(a0 a1 a2)(h):run prog (n+1) "FoldedWay.order" [a0,a1,a2] h=yb h (Qa prog (run prog n) bz.body [some a0,some a1,some a2,none] h):=by rw[Zb,yY];rfl
theorem zM(n)(a0 a1 a2)(h):run prog (n+1) "MaskedWay.__init__" [a0,a1,a2] h=yb h (Qa prog (run prog n) aY.body [some a0,some a1,some a2] h):=by rw[Zb,QM];rfl
theorem zZ(n)(a0 a1 a2)(h):run prog (n+1) "MaskedWay.order" [a0,a1,a2] h=yb h (Qa prog (run prog n) bx.body [some a0,some a1,some a2,none,none,none] h):=by rw[Zb,YY];rfl
theorem Qar(n)(a0)(h):run prog (n+1) "ways_within" [a0] h=yb h (Qa prog (run prog n) cb.body [some a0,none] h):=by rw[Zb,zar];rfl
theorem qah(n)(a0)(h):run prog (n+1) "folded_cells" [a0] h=yb h (Qa prog (run prog n) bR.body [some a0,none,none] h):=by rw[Zb,Yaf];rfl
theorem Zas(n)(a0 a1)(h):run prog (n+1) "folded_once" [a0,a1] h=yb h (Qa prog (run prog n) cg.body [some a0,some a1,none,none,none,none] h):=by rw[Zb,Zar];rfl
theorem yaL(n)(a0 a1)(h):run prog (n+1) "_law_same" [a0,a1] h=yb h (Qa prog (run prog n) dh.body [some a0,some a1] h):=by rw[Zb,ZaO];rfl
theorem QaQ(n)(a0 a1)(h):run prog (n+1) "_law_most" [a0,a1] h=yb h (Qa prog (run prog n) dj.body [some a0,some a1,none,none] h):=by rw[Zb,qaP];rfl
theorem ZaN(n)(a0 a1 a2)(h):run prog (n+1) "_law_inks" [a0,a1,a2] h=yb h (Qa prog (run prog n) dm.body [some a0,some a1,some a2,none,none,none] h):=by rw[Zb,qaK];rfl
theorem zaq(n)(a0 a1)(h):run prog (n+1) "_law_shares" [a0,a1] h=yb h (Qa prog (run prog n) cj.body [some a0,some a1,none,none] h):=by rw[Zb,Qas];rfl
theorem Za2(n)(a0 a1 a2 a3)(h):run prog (n+1) "_law_way" [a0,a1,a2,a3] h=yb h (Qa prog (run prog n) d8.body [some a0,some a1,some a2,some a3,none,none,none,none,none] h):=by rw[Zb,Ya3];rfl
theorem QaP(n)(a0 a1 a2)(h):run prog (n+1) "_law_rows" [a0,a1,a2] h=yb h (Qa prog (run prog n) di.body [some a0,some a1,some a2,none,none] h):=by rw[Zb,zaN];rfl
theorem zag(n)(a0 a1)(h):run prog (n+1) "_law_nearest" [a0,a1] h=yb h (Qa prog (run prog n) bS.body [some a0,some a1,none,none] h):=by rw[Zb,qag];rfl
theorem YaN(n)(a0)(h):run prog (n+1) "_law_half" [a0] h=yb h (Qa prog (run prog n) dn.body [some a0] h):=by rw[Zb,YaR];rfl
theorem Qao(n)(a0 a1 a2 a3)(h):run prog (n+1) "_law_ledger" [a0,a1,a2,a3] h=yb h (Qa prog (run prog n) ck.body [some a0,some a1,some a2,some a3,none,none,none,none,none,none,none,none,none,none] h):=by rw[Zb,Qap];rfl
theorem ZY(n)(a0 a1 a2 a3)(h):run prog (n+1) "_law_never_lost" [a0,a1,a2,a3] h=yb h (Qa prog (run prog n) bw.body [some a0,some a1,some a2,some a3,none,none,none,none,none,none,none,none,none,none,none] h):=by rw[Zb,qY];rfl
theorem qaM(n)(a0 a1 a2 a3)(h):run prog (n+1) "_law_dots" [a0,a1,a2,a3] h=yb h (Qa prog (run prog n) dq.body [some a0,some a1,some a2,some a3,none,none,none,none,none,none] h):=by rw[Zb,QaK];rfl
theorem zaR(n)(a0 a1)(h):run prog (n+1) "_law_take" [a0,a1] h=yb h (Qa prog (run prog n) dg.body [some a0,some a1,none] h):=by rw[Zb,yaO];rfl
theorem Z6(n)(a0 a1 a2)(h):run prog (n+1) "_law_digit_way" [a0,a1,a2] h=yb h (Qa prog (run prog n) bE.body [some a0,some a1,some a2,none,none,none] h):=by rw[Zb,Y5];rfl
theorem Q3(n)(a0)(h):run prog (n+1) "_law_by_digits" [a0] h=yb h (Qa prog (run prog n) aq.body [some a0,none,none,none,none,none,none,none,none] h):=by rw[Zb,Z5];rfl
theorem Yaa(n)(a0 a1)(h):run prog (n+1) "_law_by_draws" [a0,a1] h=yb h (Qa prog (run prog n) bN.body [some a0,some a1,none,none,none,none] h):=by rw[Zb,Yae];rfl
theorem ZcD(n)(a0)(h):run prog (n+1) "law" [a0] h=yb h (Qa prog (run prog n) dE.body [some a0,none,none,none,none,none,none,none,none] h):=by rw[Zb,zcs];rfl
noncomputable def Ya(b:Bool)(r:List Int):FV:=sq b (r.map .int)
noncomputable def Yd(b1 b2:Bool)(rows:List (List Int)):FV:=sq b1 (rows.map (Ya b2))
noncomputable def Qn(most:Int)(rows:List (List Int)):FV:=.obj "Picture" ["most","rows"] [.int most,Yd true true rows]
structure Good (most:Int) (rows:List (List Int)):Prop where
 m1:1<=most
 ne:rows≠[]
 len:∃ n:Nat,0<n/\∀ r∈rows,r.length=n
 sh:∀ r∈rows,∀ v∈r,0<=v/\v<=most
 sz:rows.length<=1000
theorem Zc:aC=4194304:=rfl
section
variable (h:MH)
theorem bK.obj(c:String)(fs:List (String×FV))(ds:MH):bK (h++[.obj c []]) (h++.obj c (fs.map λp=>(p.1,MV.f p.2))::ds):=by
 refine⟨by simp,λi d hi e=>?_⟩;by_cases hl:i<h.length
 ·rw[Xb hl] at e ⊢;exact .inl e
 ·have:i=h.length:=by simp at hi;lia
  subst this;simp at e;subst e;exact .inr ⟨fs,rfl⟩
end
noncomputable def QA(rows:List (List Int))(i j:Nat)(v:Int):List (List Int):=rows.modify i (·.set j v)
noncomputable def ZB(r:List Int):Cell:=.lst (r.map λi=>.f (.int i))
section
variable (h:MH)
theorem OJ(bd:MV->aF->MH->R (Option MV×aF))(e:List Int->MV)(hb:∀ r z h,∃ z',bd (e r) [z] h=.ok (some (.ref h.length),[z']) (h++[ZB r])):∀(rows:List (List Int)) (acc:List MV) (z:Option MV) (h:MH),acc.length+rows.length<=aC ->
  zh [] bd (rows.map e) acc [z] h=.ok (acc++(uc rows.length).map λi=>MV.ref (h.length+i)) (h++rows.map ZB)
 |[],acc,z,h,_=>by simp[zh]
 |r::rows,acc,z,h,hl=>by
  obtain⟨z',e1⟩:=hb r z h;simp only[Uc] at hl;have ih:=OJ bd e hb rows (acc++[.ref h.length]) z' (h++[ZB r]) (by simp;lia);simp only[xb,zh,Yt,true_and,e1,R.ay,ih,Xg,Uc,vh];rw[if_pos (by lia)]
  congr 1
  ·simp[wD,Xc];intro a _
   lia
  ·simp
noncomputable def own(h:MH)(rows:List (List Int)):MH:=h++(rows.map ZB++[.lst ((uc rows.length).map λi=>MV.ref (h.length+i))])
theorem u4(rows):Qc (own h rows) (h.length+rows.length)=some ((uc rows.length).map λi=>MV.ref (h.length+i)):=by
 unfold own Qc;rw[We (by lia),We (by simp)];simp
theorem Cn(rows)(i)(r)(e:rows[i]?=some r):Qc (own h rows) (h.length+i)=some (r.map λi=>.f (.int i)):=by
 have hi:=(xa.mp e).1;unfold own Qc;rw[We (by lia),Xb (by simp;lia)];simp[e,ZB]
theorem LF(rows)(i j)(r)(v)(e:rows[i]?=some r):Ye (own h rows) (h.length+i) ((r.map λi=>MV.f (.int i)).set j (I v))=own h (QA rows i j v):=by
 have hi:=(xa.mp e).1;unfold own Ye QA;rw[List.set_append_right _ _ (by lia),List.set_append_left _ _ (by simp;lia)]
 congr 2
 ·rw[show h.length+i-h.length=i by lia];apply Vg;intro k;rw[List.getElem?_set,Wb,Wb,XE];by_cases hk:i=k
  ·subst hk;simp[hi,e,ZB,xG];rw[va hi] at e;simp at e;rw[e]
  ·simp[hk]
 ·simp
theorem Ycc(rows):ZT (own h rows) (.ref (h.length+rows.length))=some (Yd false false rows):=by
 have hr:∀ m (xs:List Nat),(∀ i∈xs,i<rows.length)->(xs.map λi=>MV.ref (h.length+i)).mapM (qp (own h rows) (m+2))=some (xs.map λi=>Ya false (rows.getD i [])):=by
  intro m xs
  induction xs with
  |nil=>intro _;rfl
  |cons x xs ih =>
   intro hx;have G1:=hx x (by simp);have e:rows[x]?=some (rows.getD x []):=by simp[Xi,G1]
   have e1:qp (own h rows) (m+2) (.ref (h.length+x))=some (Ya false (rows.getD x [])):=by
    simp only[qp,Cn h rows x _ e,xh];have:(uE (λi=>MV.f (FV.int i)) (rows.getD x []))=((rows.getD x []).map FV.int).map MV.f:=by simp
    rw[this,Jr];rfl
   simp only[xb,Xq,e1,ih λi hi=>hx i (by simp[hi])];rfl
 unfold ZT;simp only[qp,u4,xh];rw[hr 2 _ (by simp)];simp only[vf,Yd,sq,gb.injEq]
 congr 1
 apply Vg;intro k;by_cases hk:k<rows.length
 ·simp[hk,Xi]
 ·simp[hk]
theorem ybR(rows):∀ a∈Zr (own h rows) 5 (.ref (h.length+rows.length)),h.length<=a:=by
 intro a ha;simp only[Zr,u4,Uq,Xa,vq,ud,Xj] at ha
 rcases ha with rfl|⟨m,⟨i,hi,rfl⟩,ha⟩
 ·lia
 ·have e:rows[i]?=some (rows[i]):=by simp[hi]
  simp only[Zr,Cn h rows i _ e,Uq,Xa,vq,ud] at ha
  rcases ha with rfl|⟨m,⟨i,_,rfl⟩,ha⟩
  ·lia
  ·simp[Zr] at ha
theorem Zct(rows):∃ t',ZJ (.ref (h.length+rows.length)) (own h rows)=.ok (.f (Yd false false rows)) (h++t'):=by
 obtain⟨t',e⟩:=KQ h (rows.map ZB++[.lst ((uc rows.length).map λi=>MV.ref (h.length+i))]) (Zr (own h rows) 5 (.ref (h.length+rows.length))) (ybR h rows);refine⟨t',?_⟩;unfold ZJ;rw[Ycc,zc];unfold own at e ⊢;rw[e]
noncomputable abbrev Yq(p:Int×Int):FV:=.tup [.int p.1,.int p.2]
noncomputable abbrev pK(p:(Int×Int)×Int):FV:=.tup [Yq p.1,.int p.2]
noncomputable def ym(rows:List (List Int))(ps:List ((Int×Int)×Int)):List (List Int):=ps.foldl (λrows p=>QA rows p.1.1.toNat p.1.2.toNat p.2) rows
noncomputable def CD(rows:List (List Int))(p:Int×Int):Prop:=0<=p.1/\p.1<rows.length/\0<=p.2/\∀ r∈rows,p.2<r.length
theorem yD(rows)(i j)(v):(QA rows i j v).length=rows.length:=by simp[QA]
theorem qL     (hr:r∈QA rows i j v):r∈rows\/∃ r0∈rows,r=r0.set j v:=by
 unfold QA at hr;obtain⟨k,hk⟩:=vD.mp hr;rw[XE] at hk;cases e:rows[k]? with
 |none=>rw[e] at hk;simp at hk
 |some r0 =>
  rw[e] at hk;have jW:(if i=k then r0.set j v else r0)=r:=by simpa using hk
  have hm:=ue e;split at jW
  ·exact .inr ⟨r0,hm,jW.symm⟩
  ·exact .inl (jW ▸ hm)
theorem Ybx     (g:Good most rows)(h0:0<=v)(h1:v<=most):Good most (QA rows i j v):=by
 obtain⟨m1,ne,⟨w,w0,hw⟩,sh,sz⟩:=g;refine⟨m1,λe=>ne (Wo (by rw[<- yD rows i j v,e];rfl)),⟨w,w0,λr hr=>?_⟩,λr hr x hx=>?_,by rw[yD];exact sz⟩
 ·rcases qL hr with hr|⟨r0,mR,rfl⟩
  ·exact hw r hr
  ·simp[hw r0 mR]
 ·rcases qL hr with hr|⟨r0,mR,rfl⟩
  ·exact sh r hr x hx
  ·rcases xB hx with hx|hx
   ·exact sh r0 mR x hx
   ·subst hx;exact⟨h0,h1⟩
theorem QbM     (h:CD rows p):CD (QA rows i j v) p:=by
 refine⟨h.1,by rw[yD];exact h.2.1,h.2.2.1,λr hr=>?_⟩
 rcases qL hr with hr|⟨r0,mR,rfl⟩
 ·exact h.2.2.2 r hr
 ·simp;exact h.2.2.2 r0 mR
theorem Rh{α β γ:Type}(F:β×γ->α->β×γ)(G:β->α->β)(NP:∀ b a,(F b a).1=G b.1 a):∀(xs:List α)(z:β×γ),(xs.foldl F z).1=xs.foldl G z.1
 |[],z=>rfl
 |x::xs,z=>by rw[Wh,Wh,Rh F G NP xs,NP]
end
@[simp] theorem Cd(xs:List MV)(t:MH):Qc (.lst xs::t) 0=some xs:=rfl
@[simp] theorem yc9(xs ys:List MV)(t:MH):Ye (.lst xs::t) 0 ys=.lst ys::t:=rfl
noncomputable def QR(ns:List Int)(k:Int):Int:=if ns=[] then 0 else ns.getD (k%ns.length).toNat 0
noncomputable def Z7(ns:List Int)(k:Int):Int:=((QR ns k%2147483647+k*k*7919+11)*48271%2147483647)*((QR ns k%2147483647+k*k*7919+11)*48271%2147483647)%1999999973
theorem CY(ns)(k):0<=Z7 ns k/\Z7 ns k<1999999973:=⟨Ws _ (by decide),Vo _ (by decide)⟩
noncomputable abbrev atC(k:Int):Cell:=.lst [I k]
theorem Qt  (h:j.natAbs<2^64):zB i j:=.inr (.inl h)
section
variable {h:MH}
@[simp] theorem zc8(a:Nat)(y:MV):mz "append" (.ref a) [y] h=opt (Qc h a) λxs=>if xs.length<aC then .ok (.f .bG) (Ye h a (xs++[y])) else .stuck:=rfl
@[simp] theorem qcQ(a:Nat)(i:Int)(y:MV):mz "insert" (.ref a) [.f (.int i),y] h=opt (Qc h a) λxs=>if xs.length<aC/\-(2^63)<=i/\i<2^63 then .ok (.f .bG) (Ye h a (OW xs i y)) else .stuck:=rfl
end
theorem zbz  (N)(Pv:Nat->aF->MH->Prop)(σ)(h)(h0:Pv 0 σ h)
  (step:∀ i σ h,i<N->Pv i σ h->∃ σ' h',bd (I i) σ h=.next σ' h'/\Pv (i+1) σ' h'):∃ σ' h',zJ [] bd ((uc N).map λ(k:Nat)=>I k) σ h=.next σ' h'/\Pv N σ' h':=by
 have:=E4 (bd:=bd) (e:=λk:Nat=>I k) Pv (uc N) 0 σ h h0 (λj y σ h hj pj=>by
  have hl:j<N:=by have:=(xa.mp hj).1;simpa using this
  have hy:y=j:=by rw[Xo hl] at hj;exact(gb.inj hj).symm
  subst hy;simp only[uq] at pj ⊢;exact step y σ h hl pj)
 simpa using this
noncomputable def Own(h g:MH)(xs:List MV):Prop:=∃ t,g=h++.lst xs::t
namespace Own
variable {h g:MH} {xs:List MV}
theorem new(h):Own h (h++[.lst xs]) xs:=⟨[],rfl⟩
theorem cell(o:Own h g xs)(c):Qc (c::g) (h.length+1)=some xs:=by
 obtain⟨t,rfl⟩:=o;have:=zi (c::h) t xs;simpa using this
end Own
theorem mod_lt(i j:Int)(hj:0<j):0<=i%j/\i%j<j:=⟨Ws _ (by lia),Vo _ hj⟩
theorem M7(ns)(hn:ns≠[])(k):dy (ns.map λi=>MV.f (.int i)) (k%ns.length)=some (I (QR ns k)):=by
 have hl:0<ns.length:=Xr.mpr hn;have h0:0<=k%(ns.length:Int):=Ws _ (by lia);have h1:k%(ns.length:Int)<ns.length:=Vo _ (by lia);rw[zV _ _ h0,Wb,va (by lia)];simp[QR,hn,Xi,va (show(k%(ns.length:Int)).toNat<ns.length by lia)]
noncomputable def Nx(r:RS)(P:aF->MH->Prop):Prop:=∃ σ h,r=.next σ h/\P σ h
noncomputable def dA(r:R MV)(P:MV->MH->Prop):Prop:=∃ v h,r=.ok v h/\P v h
@[simp] theorem EO(σ:aF)(h:MH)(P:aF->MH->Prop):Nx (.next σ h) P↔P σ h:=⟨λ⟨_,_,e,p⟩=>by cases e;exact p,λp=>⟨_,_,rfl,p⟩⟩
@[simp] theorem zc9(v:MV)(h:MH)(P:MV->MH->Prop):dA (.ok v h) P↔P v h:=⟨λ⟨_,_,e,p⟩=>by cases e;exact p,λp=>⟨_,_,rfl,p⟩⟩
section
variable {bd:MV->aF->MH->RS} {σ:aF} {h:MH} {k:aF->MH->RS}
theorem Yv{Q:RS->Prop}(N:Nat)(Pv:Nat->aF->MH->Prop)(h0:Pv 0 σ h)(step:∀ i σ h,i<N->Pv i σ h->∀ Q:aF->MH->Prop,(∀ σ h,Pv (i+1) σ h->Q σ h)->Nx (bd (I i) σ h) Q)
  (fin:∀ σ' h',Pv N σ' h'->Q (k σ' h')):Q ((zJ [] bd ((uc N).map λ(k:Nat)=>I k) σ h).bind k):=by
 obtain⟨σ',h',e,p⟩:=zbz N Pv σ h h0 λi σ h hi p=>step i σ h hi p _ λ_ _ x=>x;rw[e];exact fin σ' h' p
theorem Dj{α:Type}{e:α->MV}{Q:RS->Prop}(ys:List α)(Pv:Nat->aF->MH->Prop)(h0:Pv 0 σ h)(step:∀ i y σ h,ys[i]?=some y->Pv i σ h->∀ Q:aF->MH->Prop,(∀ σ h,Pv (i+1) σ h->Q σ h)->Nx (bd (e y) σ h) Q)
  (fin:∀ σ' h',Pv ys.length σ' h'->Q (k σ' h')):Q ((zJ [] bd (ys.map e) σ h).bind k):=by
 obtain⟨σ',h',e,p⟩:=E4 (bd:=bd) (e:=e) Pv ys 0 σ h h0 (λj y σ h hj pj=>by simp only[uq] at pj ⊢;exact step j y σ h hj pj _ λ_ _ x=>x);rw[e];exact fin σ' h' (by simpa using p)
end
theorem dA.of   (k:∀ Q:MV->MH->Prop,(∀ v h,P v h->Q v h)->dA r Q):dA r P:=k P λ_ _ x=>x
theorem dA.eq    (k:∀ Q:MV->MH->Prop,(∀ v h,v=a/\h=b->Q v h)->dA r Q):r=.ok a b:=by
 obtain⟨v,h,e,rfl,rfl⟩:=k (λv h=>v=a/\h=b) λ_ _ x=>x;exact e
theorem zbV(c)(g)(d):kill [g.length+1] (c::(g++[d]))=c::(g++[.dead]):=by
 unfold kill;refine Vg λi=>?_;rw[Wj];cases i with
 |zero=>simp
 |succ i =>
  simp only[vv,vc]
  rcases XH i g.length with hi|hi|hi
  ·rw[Xb hi,Xb hi];have:¬ i+1=g.length+1:=by lia
   simp only[this,if_false];cases g[i]? <;> rfl
  ·subst hi;simp
  ·rw[Xh (by simp;lia),Xh (by simp;lia)];rfl
theorem PU(c)(g)(ys):ZJ (.ref (g.length+1)) (c::(g++[.lst (ys.map .f)]))=.ok (.f (.lst ys)) (c::(g++[.dead])):=by
 rw[JL _ _ ys ((Own.new (xs:=ys.map .f) g).cell c),zbV]
section
variable {h:MH} (sub:String->String->Option Bool) (t:String)
@[simp] theorem A':yT sub h (.f .bG) t=some false:=rfl
@[simp] theorem DF(b:Bool):yT sub h (.f (.bl b)) t=some (decide (t="bool")||decide (t="int")):=rfl
@[simp] theorem Bb(i:Int):yT sub h (.f (.int i)) t=some (decide (t="int")):=rfl
@[simp] theorem A8(s:Str):yT sub h (.f (.str s)) t=some (decide (t="str")):=rfl
@[simp] theorem A7(xs:List FV):yT sub h (.f (.tup xs)) t=some (decide (t="tuple")):=rfl
@[simp] theorem Ba(xs:List FV):yT sub h (.f (.lst xs)) t=some (decide (t="list")):=rfl
@[simp] theorem A9(c:String)(ns:List String)(xs:List FV):yT sub h (.f (.obj c ns xs)) t=sub c t:=rfl
end
noncomputable def Nr:Nat->FV->Bool
 |_+1,.bG=>true
 |_+1,.int _=>true
 |_+1,.str s=>tO s
 |n+1,.tup xs=>decide (xs.length<=aC)&&xs.all (Nr n)
 |n+1,.lst xs=>decide (xs.length<=aC)&&xs.all (Nr n)
 |_,_=>false
noncomputable def isQ:Nat->FV->Bool
 |_+1,.int _=>true
 |_+1,.str s=>tO s
 |n+1,.tup xs=>decide (xs.length<=aC)&&xs.all (isQ n)
 |n+1,.lst xs=>decide (xs.length<=aC)&&xs.all (isQ n)
 |_,_=>false
theorem yb2(b1 b2)(rows)(h1:rows.length<=1000)(h2:∀ r∈rows,r.length<=1000):isQ 3 (Yd b1 b2 rows)=true:=by
 have hz:(1000:Nat)<=aC:=by decide
 have hr:∀ r∈rows,isQ 2 (Ya b2 r)=true:=λr hr=>by
  have:=Wf (h2 r hr) hz;cases b2 <;> simp[Ya,sq,isQ,this]
 have:=Wf h1 hz;cases b1 <;> simp[Yd,sq,isQ,this] <;> exact hr
@[simp] theorem Iw(a b:Bool):mX (.bl a) (.bl b)=some (a==b):=by simp[mX,gH]
theorem JI{α:Type}:∀ xs:List α,xs.zip xs=xs.map λx=>(x,x)
 |[]=>rfl
 |x::r=>by simp[JI r]
theorem IF(xs)(i)(h0:0<=i)(h1:i<=xs.length):zO xs none (some i)=xs.take i.toNat:=by
 have e:zY xs.length xs.length (some i)=i.toNat:=by simp only[zY];rw[if_neg (by lia)];lia
 simp only[zO,e];simp[zY]
theorem Yc1(xs)(i)(h0:0<=i)(h1:i<=xs.length):zO xs (some i) none=xs.drop i.toNat:=by
 have e:zY xs.length 0 (some i)=i.toNat:=by simp only[zY];rw[if_neg (by lia)];lia
 simp only[zO,e];exact xi (by simp[zY])
structure Drawn (most:Int) (rows:List (List Int)) (i j:Nat):Prop where
 len:rows.length=i
 pM:∀ r∈rows,r.length=j
 sh:∀ r∈rows,∀ v∈r,0<=v/\v<=most
theorem CS(xs)(i)(h0:0<=i)(h1:i<xs.length):∃ v∈xs,dy xs i=some v:=by
 rw[zV xs i h0,va (by lia)];exact⟨_,vk (by lia),rfl⟩
theorem Drawn.good    (d:Drawn most rows i j)(hm:1<=most)(hi:1<=i)(Bt:i<=1000)(hj:1<=j):Good most rows :=
 ⟨hm,λe=>by have:=d.len;rw[e] at this;simp at this;lia,⟨j,hj,d.pM⟩,d.sh,by rw[d.len];exact Bt⟩
end MP
end
section
namespace MP
open PySem
section
variable {h:MH}
theorem zbw(h)(a b s)(c:-(2^30)<=a/\a<2^30/\-(2^30)<=b/\b<2^30/\0<s/\s<2^30):gE "range" [.f (.int a),.f (.int b),.f (.int s)] h=some ((uc (gx a b s)).map λ(k:Nat)=>I (a+k*s),[]):=if_pos c
@[simp] theorem YcV(a:Nat)(z:MV):mz "extend" (.ref a) [z] h=opt (Qc h a) λxs=>opt (listOf h z) λys=>if xs.length+ys.length<=aC then .ok (.f .bG) (Ye h a (xs++ys)) else .stuck:=rfl
@[simp] theorem Dx(a:Nat):mz "pop" (.ref a) [] h=opt (Qc h a) λxs=>opt (xs[xs.length-1]?) λy=>.ok y (Ye h a (xs.take (xs.length-1))):=rfl
@[simp] theorem Ydd(a:Nat)(i:Int):mz "pop" (.ref a) [.f (.int i)] h=opt (Qc h a) λxs=>opt (lu xs.length i) λk=>opt (xs[k]?) λy=>if -(2^63)<=i/\i<2^63 then .ok y (Ye h a (xs.take k++xs.drop (k+1))) else .stuck:=rfl
theorem Oo(xs)(i j)(h0:0<=i)(h1:i<=j):zO xs (some i) (some j)=(xs.drop i.toNat).take (j.toNat-i.toNat):=by
 have e1:zY xs.length 0 (some i)=min i.toNat xs.length:=by simp only[zY];rw[if_neg (by lia)]
 have e2:zY xs.length xs.length (some j)=min j.toNat xs.length:=by simp only[zY];rw[if_neg (by lia)]
 simp only[zO,e1,e2];apply Vg;intro k;simp only[List.getElem?_take,Ur];by_cases c:i.toNat<=xs.length
 ·rw[xy c];by_cases c2:j.toNat<=xs.length
  ·rw[xy c2]
  ·rw[Wx (by lia)];by_cases c3:i.toNat+k<xs.length
   ·rw[if_pos (by lia),if_pos (by lia)]
   ·rw[if_neg (by lia)];split
    ·rw[Xh (by lia)]
    ·rfl
 ·rw[Wx (by lia),Wx (by lia)];rw[if_neg (by lia)];split
  ·rw[Xh (by lia)]
  ·rfl
end
theorem yb4{α β:Type}{bd:MV->aF->MH->RS}{σ:aF}{h:MH}{k:aF->MH->RS}{Q:RS->Prop}{e:α->MV}(ys:List α)(b:β)(st:β->aF)(hp:β->MH)(f:β->α->β)(h1:σ=st b)(h2:h=hp b)
  (step:∀ y∈ys,∀ b,bd (e y) (st b) (hp b)=.next (st (f b y)) (hp (f b y))) (fin:Q (k (st (ys.foldl f b)) (hp (ys.foldl f b)))):Q ((zJ [] bd (ys.map e) σ h).bind k):=by
 subst h1;subst h2;rw[ZD ys b step];exact fin
theorem KR{α:Type}(f:α->FV)(xs:List α):(xs.map (MV.f∘f)).mapIdx (λk x=>yg [.f (.int k),x])=xs.zipIdx.map λp=>MV.f (.tup [.int p.2,f p.1]):=by
 rw[List.mapIdx_eq_zipIdx_map,List.zipIdx_map,Ue];rfl
theorem L6   (N)(Pv:Nat->aF->MH->Prop)(step:∀ i σ h,i<N->Pv i σ h->∃ h1 σ' h',c σ h=.ok (B true) h1/\bd σ h1=.next σ' h'/\Pv (i+1) σ' h')
  (fin:∀ σ h,Pv N σ h->c σ h=.ok (B false) h):∀(fuel i:Nat)(σ:aF)(h:MH),i<=N->N<fuel+i->Pv i σ h->∃ σ' h',yE c bd fuel σ h=.next σ' h'/\Pv N σ' h'
 |0,i,σ,h,h1,h2,_=>by lia
 |fuel+1,i,σ,h,h1,h2,p=>by
  by_cases hi:i=N
  ·subst hi;exact⟨σ,h,by simp[yE,fin σ h p],p⟩
  ·obtain⟨h1,σ',h',e1,e2,p'⟩:=step i σ h (by lia) p;obtain⟨σ2,h2,e3,p2⟩:=L6 N Pv step fin fuel (i+1) σ' h' (by lia) (by lia) p';exact⟨σ2,h2,by simp[yE,e1,e2,e3],p2⟩
theorem zR{c:aF->MH->R MV}{bd:aF->MH->RS}{σ:aF}{h:MH}{k:aF->MH->RS}{Q:RS->Prop}{fuel:Nat}(N:Nat)(Pv:Nat->aF->MH->Prop)(hf:N<fuel)(h0:Pv 0 σ h)
  (step:∀ i σ h,i<N->Pv i σ h->c σ h=.ok (B true) h/\∀ Q:aF->MH->Prop,(∀ σ h,Pv (i+1) σ h->Q σ h)->Nx (bd σ h) Q)
  (fin:∀ σ h,Pv N σ h->c σ h=.ok (B false) h) (go:∀ σ h,Pv N σ h->Q (k σ h)):Q ((yE c bd fuel σ h).bind k):=by
 obtain⟨σ',h',e,p⟩:=L6 (c:=c) (bd:=bd) N Pv (λi σ h hi p=>by
  obtain⟨e1,st⟩:=step i σ h hi p;obtain⟨σ',h',e2,p'⟩:=st _ λ_ _ x=>x;exact⟨h,σ',h',e1,e2,p'⟩) fin fuel 0 σ h (Wn _) (by lia) h0
 rw[e];exact go σ' h' p
section
variable {most:Int} {rows r1 r2:List (List Int)} {H W:Nat}
theorem Drawn.cons(d:Drawn most rows H W)(hH:1<=H):∃ r rs,rows=r::rs/\r.length=W/\rs.length+1=H:=by
 cases rows with
 |nil=>have:=d.len;simp at this;lia
 |cons r rs=>exact⟨r,rs,rfl,d.pM r (by simp),by have:=d.len;simpa using this⟩
end
theorem GD{α β:Type}(f:α->FV)(g:β->FV)(xs:List α)(ys:List β):uE (λp:MV×MV=>yg [p.1,p.2]) ((xs.map (MV.f∘f)).zip (ys.map (MV.f∘g)))=(xs.zip ys).map λp=>MV.f (.tup [f p.1,g p.2]):=by
 rw[List.zip_map,Ue];rfl
theorem qbi    (e:Qc h a=some xs):aP [(a,xs)] h:=λp hp=>by simp at hp;subst hp;exact e
theorem L5{α:Type}{bd:MV->aF->MH->R (Option MV×aF)}{h:MH}{G:zG}{e g:α->MV}{caps:aF}(hg:aP G h):∀(ys:List α)(acc:List MV)(z:Option MV),acc.length+ys.length<=aC ->
  (∀ y∈ys,∀ z,∃ z',bd (e y) (z::caps) h=.ok (some (g y),z'::caps) h)->zh G bd (ys.map e) acc (z::caps) h=.ok (acc++ys.map g) h
 |[],acc,z,_,_=>by simp[zh,hg]
 |y::r,acc,z,hl,hb=>by
  obtain⟨z',e1⟩:=hb y (by simp) z;simp only[Uc] at hl;have ih:=L5 (bd:=bd) (e:=e) (g:=g) (caps:=caps) hg r (acc++[g y]) z' (by simp;lia) λy hy=>hb y (by simp[hy]);simp only[xb,zh,hg,true_and,e1,R.ay,ih];rw[if_pos (by lia)];simp
theorem MJ{α:Type}{bd:MV->aF->MH->R (Option MV×aF)}{e:α->MV}{caps:aF}(Pv:Nat->List MV->MH->Prop):∀(ys:List α)(i:Nat)(acc:List MV)(z:Option MV)(h:MH),Pv i acc h->acc.length+ys.length<=aC ->
  (∀ j y acc z h,ys[j]?=some y->Pv (i+j) acc h->∃ v z' h',bd (e y) (z::caps) h=.ok (some v,z'::caps) h'/\Pv (i+j+1) (acc++[v]) h')->∃ i3 h',zh [] bd (ys.map e) acc (z::caps) h=.ok i3 h'/\Pv (i+ys.length) i3 h'
 |[],i,acc,z,h,p,_,_=>⟨acc,h,by simp[zh],p⟩
 |y::r,i,acc,z,h,p,hl,hb=>by
  obtain⟨v,z',h',e1,p1⟩:=hb 0 y acc z h rfl p;simp only[Uc] at hl;obtain⟨i3,h2,e2,p2⟩:=MJ Pv r (i+1) (acc++[v]) z' h' p1 (by simp;lia) (λj y acc z h hj q=>by
   have:=hb (j+1) y acc z h (by simpa using hj) (by rw[show i+(j+1)=i+1+j by lia];exact q);rw[show i+(j+1)+1=i+1+j+1 by lia] at this;exact this)
  refine⟨i3,h2,?_,by rw[Uc,show i+(r.length+1)=i+1+r.length by lia];exact p2⟩;simp only[xb,zh,Yt,true_and,e1,R.ay];rw[if_pos (by lia)];exact e2
theorem YcI{α:Type}{bd:MV->aF->MH->R (Option MV×aF)}{e:α->MV}{caps:aF}{ys:List α}{z:Option MV}{h:MH}{c:R (List MV)}(hc:zh [] bd (ys.map e) [] (z::caps) h=c)(Pv:Nat->List MV->MH->Prop)(h0:Pv 0 [] h)(hl:ys.length<=aC)
  (step:∀ j y acc z h,ys[j]?=some y->Pv j acc h->∃ v z' h',bd (e y) (z::caps) h=.ok (some v,z'::caps) h'/\Pv (j+1) (acc++[v]) h'):∃ i3 h',c=.ok i3 h'/\Pv ys.length i3 h':=by
 obtain⟨i3,h',e1,p⟩:=MJ (bd:=bd) (e:=e) (caps:=caps) Pv ys 0 [] z h h0 (by simpa using hl) (λj y acc z h hj q=>by rw[uq] at q ⊢;exact step j y acc z h hj q);rw[hc,uq] at *;exact⟨i3,h',e1,p⟩
noncomputable abbrev Za(p:Nat×Nat):FV:=.tup [.int p.1,.int p.2]
structure iy (most:Int) (aj:List Int):Prop where
 up:aj.Pairwise (· < ·)
 gZ:∀ v∈aj,0<=v/\v<=most
 z:0∈aj
 m:most∈aj
 sz:aj.length<=50
theorem IY{aj:List Int}(up:aj.Pairwise (· < ·)){i j:Nat}(h:i<j)(hj:j<aj.length):aj.getD i 0<aj.getD j 0:=by
 have:=(List.pairwise_iff_getElem.mp up) i j (by lia) hj h;simpa[Xi,hj,show i<aj.length by lia] using this
theorem My{aj:List Int}(up:aj.Pairwise (· < ·)){i j:Nat}(h:i<=j)(hj:j<aj.length):aj.getD i 0<=aj.getD j 0:=by
 by_cases e:i=j
 ·subst e;exact Vz _
 ·exact Int.le_of_lt (IY up (by lia) hj)
theorem Kx{aj:List Int}{v:Int}(h:v∈aj):∃ i,i<aj.length/\aj.getD i 0=v:=by
 obtain⟨i,hi,e⟩:=xu h;exact⟨i,hi,by simp[Xi,hi,e]⟩
theorem PF{aj:List Int}{i:Nat}(h:i<aj.length):aj.getD i 0∈aj:=by simp[Xi,h]
namespace iy
variable {most:Int} {aj:List Int} (K:iy most aj)
include K
theorem pos:0<aj.length:=WD K.z
theorem head:aj.getD 0 0=0:=by
 obtain⟨i,hi,e⟩:=Kx K.z;have h1:=My K.up (Wn i) hi;have h2:=K.gZ _ (PF K.pos)
 lia
theorem last:aj.getD (aj.length-1) 0=most:=by
 have hp:=K.pos;obtain⟨i,hi,e⟩:=Kx K.m;have h1:=My K.up (show i<=aj.length-1 by lia) (by lia);have h2:=K.gZ _ (PF (show aj.length-1<aj.length by lia))
 lia
theorem two(h:1<=most):2<=aj.length:=by
 have hp:=K.pos;by_cases c:aj.length=1
 ·have:=K.head;have l:=K.last;rw[c] at l;simp only[Nat.sub_self] at l;lia
 ·lia
end iy
theorem jC  :x∈Qu ks k↔x∈ks\/x=k:=by
 unfold Qu;split
 ·next h=>exact⟨.inl,λe=>e.elim id λz=>z ▸ h⟩
 ·simp
structure jS (most:Int) (ks:List Int) (n:Nat):Prop where
 nd:ks.Nodup
 gZ:∀ v∈ks,0<=v/\v<=most
 z:0∈ks
 m:most∈ks
 sz:ks.length<=n
theorem jS.start  (h:1<=most):jS most (Qu (Qu [] 0) most) 2:=by
 have e:Qu (Qu [] 0) most=[0,most]:=by simp[Qu,show ¬ most=0 by lia]
 rw[e];exact⟨by simp;lia,by simp;lia,by simp,by simp,by simp⟩
theorem jS.add    (d:jS most ks n)  (h:0<=k/\k<=most):jS most (Qu ks k) (n+1):=by
 refine⟨?_,λv hv=>?_,jC.mpr (.inl d.z),jC.mpr (.inl d.m),?_⟩
 ·unfold Qu;split
  ·exact d.nd
  ·next hn=>exact Vl.mpr ⟨d.nd,by simp,λa ha b hb=>by simp at hb;subst hb;exactλe=>hn (e ▸ ha)⟩
 ·rcases jC.mp hv with hv|rfl
  ·exact d.gZ v hv
  ·exact h
 ·unfold Qu;have:=d.sz;split
  ·lia
  ·simp;lia
theorem jS.aj    (d:jS most ks n)(hn:n<=50):iy most (Zv ks):=by
 have p:=ZO ks;have nd:(Zv ks).Nodup:=p.nodup_iff.mpr d.nd;refine⟨?_,λv hv=>d.gZ v (p.mem_iff.mp hv),p.mem_iff.mpr d.z,p.mem_iff.mpr d.m,by rw[p.length_eq];have:=d.sz;lia⟩;have le:=MB ks;exact(List.pairwise_and_iff.mpr ⟨le,nd⟩).imp λh=>by have:=h.1;have:=h.2;lia
theorem M9{α:Type}{bd:MV->aF->MH->R (Option MV×aF)}{h:MH}{G:zG}{e g:α->MV}{t:α->Bool}{caps:aF}(hg:aP G h):∀(ys:List α)(acc:List MV)(z:Option MV),acc.length+ys.length<=aC ->
  (∀ y∈ys,∀ z,∃ z',bd (e y) (z::caps) h=.ok (if t y=true then some (g y) else none,z'::caps) h)->zh G bd (ys.map e) acc (z::caps) h=.ok (acc++(ys.filter t).map g) h
 |[],acc,z,_,_=>by simp[zh,hg]
 |y::r,acc,z,hl,hb=>by
  obtain⟨z',e'⟩:=hb y (by simp) z;simp only[Uc] at hl;have ih:=λi3 (DU:i3.length+r.length<=aC)=>M9 (bd:=bd) (e:=e) (g:=g) (t:=t) (caps:=caps) hg r i3 z' DU (λy hy z=>hb y (by simp[hy]) z);cases ht:t y with
  |true =>
   simp[ht] at e';simp[zh,hg,e',ih (acc++[g y]) (by simp;lia),ht]
   lia
  |false =>
   simp[ht] at e';simp[zh,hg,e',ih acc (by lia),ht]
   lia
structure bY (h:MH) (iv:MV) (aj:List Int):Prop where
 q:qb h iv=some (aj.map (MV.f∘FV.int))
 g:aP (Qb h iv) h
theorem bY.row(h)(b)(aj):bY h (.f (Ya b aj)) aj:=⟨by simp[Ya],by intro p hp;exact absurd hp (by simp[Ya])⟩
theorem bY.ref    (e:Qc h a=some (aj.map (MV.f∘FV.int))):bY h (.ref a) aj:=⟨e,by
 have:Qb h (.ref a)=[(a,aj.map (MV.f∘FV.int))]:=by simp[Qb,e]
 rw[this];exact qbi e⟩
theorem bY.app    (v:bY h iv aj)(t):bY (h++t) iv aj:=by
 cases iv with
 |f x =>
  refine⟨?_,λp hp=>?_⟩
  ·have:=v.q;cases x <;> first|exact this|(simp[qb] at this)
  ·cases x <;> simp[Qb] at hp
 |ref a=>exact bY.ref (ybr v.q)
 |tup xs=>exact⟨v.q,λp hp=>by simp[Qb] at hp⟩
 |exc c=>exact absurd v.q (by simp[qb])
theorem ZcA   (h)(e:zk iv=some xs):qb h iv=some xs:=by
 cases iv with
 |f x=>cases x <;> first|exact e|(simp[zk] at e)
 |ref a=>simp[zk] at e
 |tup ys=>exact e
 |exc c=>simp[zk] at e
theorem bY.slice    (v:bY h iv aj)   (e:zO (aj.map (MV.f∘FV.int)) lo hi=l.map (MV.f∘FV.int)):∃ b,yA true iv lo hi h=.ok (.f (Ya b l)) h:=by
 unfold yA;cases et:zk iv with
 |some xs =>
  have:=ZcA h et;rw[v.q] at this;cases this;exact⟨true,by simp only[e,L4];rfl⟩
 |none =>
  exact⟨false,by simp only[v.q,zc,e,ZG];rfl⟩
theorem OG(aj:List Int)(h2:1<=aj.length):zO (aj.map (MV.f∘FV.int)) none (some (-1))=(aj.take (aj.length-1)).map (MV.f∘FV.int):=by
 simp only[zO,zY,Wc,Ul,Vx];rw[if_pos (by decide),show((-1:Int)+(aj.length:Int)).toNat=aj.length-1 by lia];simp[UA]
theorem JK(aj:List Int)(h2:1<=aj.length):zO (aj.map (MV.f∘FV.int)) (some 1) none=(aj.drop 1).map (MV.f∘FV.int):=by
 have:=Yc1 (aj.map (MV.f∘FV.int)) 1 (by decide) (by simp;lia);rw[this];simp[VE]
theorem Px{α:Type}{G:zG}{bd:MV->aF->MH->R (Option MV×aF)}{h:MH}{e g:α->MV}(hg:aP G h)(Iv:aF->Prop):∀(ys:List α)(acc:List MV)(σ:aF),Iv σ->acc.length+ys.length<=aC ->
  (∀ y∈ys,∀ σ,Iv σ->∃ σ',bd (e y) σ h=.ok (some (g y),σ') h/\Iv σ')->zh G bd (ys.map e) acc σ h=.ok (acc++ys.map g) h
 |[],acc,σ,_,_,_=>by simp[zh,hg]
 |y::r,acc,σ,i0,hl,hb=>by
  obtain⟨σ',e1,i1⟩:=hb y (by simp) σ i0;simp only[Uc] at hl;have ih:=Px (bd:=bd) (e:=e) (g:=g) hg Iv r (acc++[g y]) σ' i1 (by simp;lia) λy hy=>hb y (by simp[hy]);simp only[xb,zh,hg,true_and,e1,R.ay,ih];rw[if_pos (by lia)];simp
noncomputable def Rt(c:String)(r:RS)(P:aF->MH->Prop)(X:MH->Prop):Prop:=(∃ σ h,r=.next σ h/\P σ h)\/∃ h,r=.exc c h/\X h
noncomputable def Ru(c:String)(r:R MV)(P:MV->MH->Prop)(X:MH->Prop):Prop:=(∃ v h,r=.ok v h/\P v h)\/∃ h,r=.exc c h/\X h
@[simp] theorem CH(c:String)(σ:aF)(h:MH)(P:aF->MH->Prop)(X:MH->Prop):Rt c (.next σ h) P X↔P σ h:=⟨λz=>by rcases z with ⟨_,_,e,p⟩|⟨_,e,_⟩ <;> cases e;exact p,λp=>.inl ⟨_,_,rfl,p⟩⟩
@[simp] theorem EU(c:String)(h:MH)(P:aF->MH->Prop)(X:MH->Prop):Rt c (.exc c h) P X↔X h:=⟨λz=>by rcases z with ⟨_,_,e,_⟩|⟨_,e,p⟩ <;> cases e;exact p,λp=>.inr ⟨_,rfl,p⟩⟩
@[simp] theorem Ku(c:String)(v:MV)(h:MH)(P:MV->MH->Prop)(X:MH->Prop):Ru c (.ok v h) P X↔P v h:=⟨λz=>by rcases z with ⟨_,_,e,p⟩|⟨_,e,_⟩ <;> cases e;exact p,λp=>.inl ⟨_,_,rfl,p⟩⟩
@[simp] theorem EV(c:String)(h:MH)(P:MV->MH->Prop)(X:MH->Prop):Ru c (.exc c h) P X↔X h:=⟨λz=>by rcases z with ⟨_,_,e,_⟩|⟨_,e,p⟩ <;> cases e;exact p,λp=>.inr ⟨_,rfl,p⟩⟩
noncomputable def yi(H W:Nat):List (Nat×Nat):=(uc H).flatMap λr=>(uc W).map λc=>(r,c)
noncomputable def ZP(H W:Nat):List (Nat×Nat):=(uc H).flatMap λr=>(uc W).map λc=>(r,if r%2=0 then c else W-1-c)
noncomputable def yR(H W:Nat):List (Nat×Nat):=(yi W H).map λp=>(p.2,p.1)
theorem zD(H W):(yi H W).length=H*W:=by
 unfold yi;rw[xz];simp only[Wc,WB]
 induction H with
 |zero=>simp
 |succ H ih=>rw[Xy,Vh,Gm,ih,VC];simp
theorem O2(H W):(ZP H W).length=H*W:=by
 rw[<- zD H W];unfold ZP yi;rw[xz,xz];simp
theorem zcd(H W):(yR H W).length=H*W:=by unfold yR;rw[Wc,zD,uv]
theorem ybz(H W)(hW:1<=W):(uc (H*W)).map (λk=>(k/W,k%W))=yi H W:=by
 unfold yi
 induction H with
 |zero=>simp
 |succ H ih =>
  rw[VC,Nat.one_mul,List.range_add,Vh,ih,Xy,Xz,Ue]
  congr 1
  simp only[List.flatMap_cons,List.flatMap_nil,xk];refine XF λj hj=>?_;have hj:=Xj.mp hj;simp only[uu,kr.injEq];rw[uv H W,Nat.mul_add_div (by lia),uC,Nat.div_eq_of_lt hj,wn hj];exact⟨by lia,rfl⟩
theorem zbX(H W):(yi H W).map (λp=>(p.1,if p.1%2=0 then p.2 else W-1-p.2))=ZP H W:=by
 unfold yi ZP;rw[List.map_flatMap]
 congr 1
 funext r;rw[Ue];rfl
theorem yb8(r W:Nat):((uc W).map λc=>(r,c)).reverse=(uc W).map λc=>(r,W-1-c):=by
 apply List.ext_getElem
 ·simp
 ·intro i h1 h2;simp at h1 h2;rw[List.getElem_reverse];simp
theorem trC(k k')(h t):bK (.code::atC k::h) (.code::atC k'::(h++t)):=⟨by simp,λi c hi e=>by
 rcases i with _|_|i
 ·exact .inl e
 ·simp at e;subst e;exact .inr ⟨[.int k'],rfl⟩
 ·simp only[Uc] at hi;exact .inl (by simpa[Xb (show i<h.length by lia)] using e)⟩
theorem tQ(k k')(h t)(x):qg (.code::atC k::h) (.f x) (.code::atC k'::(h++t))=.ok (.f x) (.code::atC k'::h):=by
 simp[qg,trC]
theorem Cy(k k')(h)(x):qg (.code::atC k::h) (.f x) (.code::atC k'::h)=.ok (.f x) (.code::atC k'::h):=by
 have:=tQ k k' h [] x;simpa using this
theorem qV(a b)(g)(ys):ZJ (.ref (g.length+2)) (a::b::(g++[.lst (ys.map .f)]))=.ok (.f (.lst ys)) (a::b::(g++[.dead])):=by
 have:=PU a (b::g) ys;simpa using this
theorem ZcY(a b)(g t)(ks):YZ (a::b::(g++.fI ks::t)) (.ref (g.length+2))=some ks:=by simp[YZ]
theorem wW(a b:Cell)(g t:MH)(c d:Cell):(a::b::(g++c::t)).set (g.length+2) d=a::b::(g++d::t):=by simp
end MP
end
section
namespace MP
open PySem
section
variable (n:Nat) (h:MH)
theorem qu(ns)(k)(hk:0<=k)(sx:k<1000000):run prog (n+1) "_law_next" [.f (.bP ns),.ref 1] (.code::atC k::h)=.ok (I (Z7 ns (k+1))) (.code::atC (k+1)::h):=by
 have m1:zB (k+1) (k+1):=Qt (by lia);have m2:∀ x,zB x 7919:=λx=>Qt (by decide);have m3:∀ x,zB x 48271:=λx=>Qt (by decide);have m4:∀ x:Int,zB (x%2147483647) (x%2147483647):=λx=>Qt (by have:=Ws x (show(2147483647:Int)≠0 by decide);have:=Vo x (show(0:Int)<2147483647 by decide);lia);have c1:∀ j:Int,Qc (.code::atC j::h) 1=some [I j]:=λj=>rfl;have s1:∀(j:Int)(ys:List MV),Ye (.code::atC j::h) 1 ys=.code::.lst ys::h:=λj ys=>rfl;have tr:bK (.code::atC k::h) (.code::atC (k+1)::h):=⟨by simp,λi c hi e=>by
  rcases i with _|_|i
  ·exact .inl e
  ·simp at e;subst e;exact .inr ⟨[.int (k+1)],rfl⟩
  ·exact .inl (by simpa using e)⟩
 simp only[Zb,zaP,zc,zH];by_cases hn:ns=[]
 ·subst hn;simp[zr,Yg,m1,m2,m3,m4,lu,Z7,QR,c1,s1,qg,tr]
 ·have hl:0<ns.length:=Xr.mpr hn;have e1:dy (ns.map λi=>MV.f (.int i)) ((k+1)%ns.length)=some (I (QR ns (k+1))):=M7 ns hn (k+1);simp[zr,Yg,m1,m2,m3,m4,lu,Z7,hl,e1,c1,s1,qg,tr]
end
end MP
end
section
namespace MP
open PySem
section
variable (n:Nat) (h:MH)
theorem Zba(b1 b2)(rows)(hl:rows.length<=aC):run prog (n+1) "own_rows" [.f (Yd b1 b2 rows)] h=.ok (.f (Yd true true rows)) h:=by
 simp[Zb,qN,Yp,Yd,stM];rw[qw (e:=MV.f∘Ya b2) (g:=MV.f∘Ya true) rows [] none (by simpa using hl) (λy _ z=>⟨_,by simp[Qi,Ya];exact⟨rfl,rfl⟩⟩)];simp[Yd,Ya,sq]
theorem YaA(most)(rows)(g:Good most rows):run prog (n+1) "fault_of" [.f (Yd true true rows),I 0,I most] h=.ok (.f .bG) h:=by
 obtain⟨m1,ne,⟨w,w0,hw⟩,sh,sz⟩:=g;cases rows with
 |nil=>exact absurd rfl ne
 |cons r0 rs =>
  have mR:=hw r0 (by simp);have e1:¬ most<1:=by lia
  have e2:r0≠[]:=by intro e;subst e;simp at mR;lia
  have e7:qb h (.f (Ya true r0))=some (r0.map (MV.f∘FV.int)):=by simp[Ya]
  simp[Zb,ZN,e1,Yd,e7,e2];rw[<- uu (f:=MV.f) (g:=Ya true),<- xb (f:=MV.f∘Ya true),ZD (e:=MV.f∘Ya true) (st:=λz=>[some (.f (sq true (Ya true r0::rs.map (Ya true)))),some (I 0),some (I most),z]) (hp:=λ_=>h) (f:=λ_ r=>some (.f (Ya true r))) _ none]
  ·simp
  ·intro r hr z;have e3:=hw r hr;have e4:r≠[]:=by intro e;subst e;simp at e3;lia
   have e5:¬ tI r<0:=by have:=sh r hr _ (E3 e4);lia
   have e6:¬ most<Qy r:=by have:=sh r hr _ (JX e4);lia
   have q1:=MC true h (.f (Ya true r)) r (by simp[Ya]) e4;have q2:=JJ true h (.f (Ya true r)) r (by simp[Ya]) e4;have q3:qb h (.f (Ya true r))=some (r.map (MV.f∘FV.int)):=by simp[Ya]
   simp[Qm,q1,q2,q3,e5,e6,e7,e3,mR]
theorem Zak(most)(b1 b2)(rows)(g:Good most rows):run prog (n+2) "Picture.__init__" [.ref h.length,I most,.f (Yd b1 b2 rows)] (h++[.obj "Picture" []]) =
  .ok (.f .bG) (h++[.obj "Picture" [("most",I most),("rows",.f (Yd true true rows))]]):=by
 have hz:rows.length<=aC:=Wf g.sz (by decide);have t:=bK.obj h "Picture" [("most",.int most),("rows",Yd true true rows)] [];simp only[xb,Ui] at t;simp[Zb n.succ,Zo,Zba _ _ b1 b2 rows hz,YaA _ _ most rows g,qg,t];exact xi (by simp)
theorem yM(most)(b1 b2)(rows)(g:Good most rows):qJ prog (run prog (n+2)) true "Picture" [I most,.f (Yd b1 b2 rows)] h=.ok (.f (Qn most rows)) h:=by
 simp[qJ,Zak n h most b1 b2 rows g,bK.app,Qn,Zk]
theorem Lw(m)(rows):run prog (n+1) "high" [.f (Qn m rows)] h=.ok (I rows.length) h:=by
 simp[Zb,Es,Qn,Yd]
theorem OZ(m)(r)(rows):run prog (n+1) "wide" [.f (Qn m (r::rows))] h=.ok (I r.length) h:=by
 simp[Zb,EB,Qn,Yd,Ya]
end
theorem zT(h):yb h .stuck=.stuck:=rfl
section
variable (n:Nat) (h:MH)
theorem K9(m i j)(r)(rows):run prog (n+2) "has_cell" [.f (Qn m (r::rows)),.f (.tup [.int i,.int j])] h=.ok (B (decide (0<=i/\i<rows.length+1/\0<=j/\j<r.length))) h:=by
 simp[Zb n.succ,qM,Lw,OZ,Bool.and_assoc]
theorem qa6(m i j)(r)(rows):run prog (n+3) "ask_cell" [.f (Qn m (r::rows)),.f (.tup [.int i,.int j])] h =
  if 0<=i/\i<rows.length+1/\0<=j/\j<r.length then .ok (.f .bG) h else .stuck:=by
 by_cases c:0<=i/\i<rows.length+1/\0<=j/\j<r.length
 ·rw[if_pos c];simp[Zb n.succ.succ,yF,K9,c]
 ·rw[if_neg c];have:=K9 n h m i j r rows;rw[decide_eq_false c] at this;simp[Zb n.succ.succ,yF,this,zT]
end
end MP
end
section
namespace MP
open PySem
theorem qT(h:MH)(a:Nat)(xs:List FV):mz "extend" (.ref a) [.f (.lst xs)] h=opt (Qc h a) λys=>if ys.length+xs.length<=aC then .ok (.f .bG) (Ye h a (ys++xs.map .f)) else .stuck:=by
 have:mz "extend" (.ref a) [.f (.lst xs)] h=opt (Qc h a) λys=>opt (listOf h (.f (.lst xs))) λzs=>if ys.length+zs.length<=aC then .ok (.f .bG) (Ye h a (ys++zs)) else .stuck:=rfl;rw[this];cases Qc h a with
 |none=>rfl
 |some ys=>simp
section
variable (n:Nat) (h:MH)
theorem yU(xs:List FV):qg h (.ref h.length) (h++[.lst (xs.map .f)])=.ok (.ref h.length) (h++[.lst (xs.map .f)]):=by
 have cl:=zi h [] (xs.map MV.f);have tr:=bK.app h [.lst (xs.map MV.f)];have ef:=ZL xs;generalize xs.map MV.f=M at *;simp[qg,cl,tr,ef]
theorem yH(H W:Nat)(l0:H*W<=100000)(hW:W<=10000)(hH:H<=10000):run prog (n+1) "cells_by_rows" [I H,I W] h=.ok (.ref h.length) (h++[.lst (((yi H W).map Za).map .f)]):=by
 refine dA.eq λQ hQ=>?_;rw[y9];simp only[bM];simp[qo _ (H:Int) (by lia)];refine Yv (Q:=λr=>dA (yb _ r) _) H (λi σ hh=>∃(z3:Option MV),hh=h++[.lst (((yi i W).map Za).map .f)]/\σ=[some (I H),some (I W),some (.ref h.length),z3]) ⟨none,by simp[yi],rfl⟩ ?_ ?_
 ·rintro i σ hh sy ⟨z3,rfl,rfl⟩ Q hQ;have nx:((yi (i+1) W).map Za).map MV.f=((yi i W).map Za).map MV.f++(((uc W).map λc=>Za (i,c)).map MV.f):=by
   unfold yi;rw[Xy,Xz,Vh,Vh];simp[Xc]
  simp only[nx] at hQ;have ml:(((yi i W).map Za).map MV.f).length+((uc W).map λc=>Za (i,c)).length<=aC:=by
   have:i*W<=H*W:=uy _ (by lia);simp[zD,Zc];lia
  generalize ((yi i W).map Za).map MV.f=M at *;have cl:=zi h [] M;have st:=λys=>Zq h [] M ys;simp[Qm,cl,qo _ (W:Int) (by lia),MP.stM];rw[qw (e:=λk:Nat=>I k) (g:=λc=>MV.f (Za (i,c))) (uc W) [] none (by simp[Zc];lia) (λc _ z=>⟨some (I c),by simp[Qi]⟩)];have e2:(uc W).map (λc=>MV.f (Za (i,c)))=((uc W).map λc=>Za (i,c)).map MV.f:=by simp[Xc]
  simp only[Xe,R.ay,e2,Qe];generalize (uc W).map (λc=>Za (i,c))=L at *;simp[qT,cl,ml,st];exact hQ _ _ ⟨_,rfl,rfl⟩
 ·rintro σ hh ⟨z3,rfl,rfl⟩;have lv:=yU h ((yi H W).map Za);generalize ((yi H W).map Za).map MV.f=M at *;simp[lv];exact hQ _ _ ⟨rfl,rfl⟩
theorem OE(m)(rows)(hr:rows≠[]):run prog (n+2) "size_of" [.f (Qn m rows)] h=.ok (.f (.tup [.int rows.length,.int (rows.headD []).length])) h:=by
 cases rows with
 |nil=>exact absurd rfl hr
 |cons r rs =>
  have a:=Lw n h m (r::rs);have b:=OZ n h m r rs;rw[Ybn];simp only[eV];simp at a b;simp[a,b]
theorem QaZ(m:Int)(rows:List (List Int))(H W:Nat)(d:Drawn m rows H W)(i j:Nat)(hi:i<H)(hj:j<W)(r:List Int)(v:Int)(er:rows[i]?=some r)(ev:r[j]?=some v):run prog (n+4) "shade_at" [.f (Qn m rows),.f (.tup [.int i,.int j])] h=.ok (I v) h:=by
 obtain⟨r0,rs,e0,mR,hrs⟩:=d.cons (by lia);have A:=qa6 n h m i j r0 rs;rw[if_pos (by lia),<- e0] at A;have p1:mM prog.iZ "rows" (.f (Qn m rows)) h=some (.f (Yd true true rows)):=by simp[Qn]
 have q1:qb h (.f (Yd true true rows))=some (rows.map (MV.f∘Ya true)):=by simp[Yd]
 have a1:dy (rows.map (MV.f∘Ya true)) (i:Int)=some (.f (Ya true r)):=by rw[yu,Wb,er];rfl
 have q2:qb h (.f (Ya true r))=some (r.map (MV.f∘FV.int)):=by simp[Ya]
 have a2:dy (r.map (MV.f∘FV.int)) (j:Int)=some (I v):=by rw[yu,Wb,ev];rfl
 rw[Qa1];simp only[dS];simp[A,p1,q1,a1,q2,a2]
theorem qR(most)(iv)(aj)(V:bY h iv aj)(K:iy most aj)(h1:1<=most):run prog (n+1) "ask_rising" [iv] h=.ok (.f .bG) h:=by
 have h2:=K.two h1;have q:=V.q;have a0:dy (aj.map (MV.f∘FV.int)) 0=some (I 0):=by
  have:=yu (aj.map (MV.f∘FV.int)) 0;change dy _ (0:Int)=_ at this;rw[this,Wb,va (by lia)];have e:=K.head;simp only[Xi,va (show 0<aj.length by lia),Uq] at e;simp[e]
 obtain⟨b1,s1⟩:=V.slice (OG aj (by lia));obtain⟨b2,s2⟩:=V.slice (JK aj (by lia));have qr:∀ b r,qb h (.f (Ya b r))=some (r.map (MV.f∘FV.int)):=λb r=>by simp[Ya]
 have g1:∀ b r,Qb h (.f (Ya b r))=[]:=λb r=>by simp[Ya]
 have hz:∀ p:Int×Int,p∈(aj.take (aj.length-1)).zip (aj.drop 1)->p.1<p.2:=by
  rintro⟨a,b⟩ hp;obtain⟨i,hi⟩:=vD.mp hp;rw[xv] at hi;obtain⟨e1,e2⟩:=hi;simp only at e1 e2;have l1:=(xa.mp e1).1;rw[Vm] at l1;rw[uk (by lia)] at e1;rw[Ur] at e2;have:=IY K.up (show i<1+i by lia) (by lia);simpa[Xi,e1,e2] using this
 generalize aj.take (aj.length-1)=l1 at *;generalize aj.drop 1=l2 at *;rw[zax];simp only[cL];simp[q,show ¬((aj.length:Int)<2) by lia,a0,s1,s2,qr,g1,GD];rw[ZD (e:=λp:Int×Int=>MV.f (.tup [.int p.1,.int p.2])) (st:=λz=>[some iv,z.1,z.2]) (hp:=λ_=>h) (f:=λ_ p=>(some (I p.1),some (I p.2))) _ (none,none)]
 ·simp
 ·rintro⟨a,b⟩ hp z;have Ib:a<b:=hz (a,b) hp;simp[Qm,show ¬ b<=a by lia]
theorem Za1(most)(iv)(aj)(V:bY h iv aj)(K:iy most aj)(h1:1<=most):run prog (n+2) "ask_inks" [iv,I most] h=.ok (.f .bG) h:=by
 have h2:=K.two h1;have R:=qR n h most iv aj V K h1;have q:=V.q;have a1:dy (aj.map (MV.f∘FV.int)) (-1)=some (I most):=by
  have e:=K.last;have hl:aj.length-1<aj.length:=by lia
  simp only[Xi,va hl,Uq] at e;unfold dy lu;rw[if_neg (by decide),if_pos (by simp;lia)];simp only[xh,Wc,Wb];rw[show((-1:Int)+(aj.length:Int)).toNat=aj.length-1 by lia,va hl];simp[e]
 rw[za4];simp only[dZ];simp[R,q,a1]
theorem yas(most)(rows)(b)(ps)(g:Good most rows)(hp:∀ p∈ps,CD rows p.1/\0<=p.2/\p.2<=most) :
  run prog (n+3) "with_shades" [.f (Qn most rows),.f (sq b (ps.map pK))] h=.ok (.f (Qn most (ym rows ps))) h/\Good most (ym rows ps):=by
 have hz:rows.length<=aC:=Wf g.sz (by decide);simp only[Zb n.succ.succ,zap,zc,qx];simp[Qn,Yd,MP.stM];rw[OJ _ (MV.f∘Ya true) (λr z h=>⟨some (.f (Ya true r)),by simp[Qi,Ya,ZB]⟩) rows [] none h (by simpa using hz)];simp only[R.ay,YN,R.st_ok,Xe];have eo:(h++rows.map ZB)++[.lst ((uc rows.length).map λi=>MV.ref (h.length+i))]=own h rows:=by simp[own]
 have el:(h++rows.map ZB).length=h.length+rows.length:=by simp
 rw[eo,el];have L:=Y4 (bd:=Qm (.tp [.nm 3,.nm 4]) (Qa prog (run prog (n+1+1)) [MS.dO ((ME.var 2).sub ((ME.var 3).sub (ME.cI 0))) ((ME.var 3).sub (ME.cI 1)) (ME.var 4)])) (e:=MV.f∘pK)
  (st:=λb':List (List Int)×Option MV×Option MV=>[some (MV.f (FV.obj "Picture" ["most","rows"] [FV.int most,sq true (uE (Ya true) rows)])),some (MV.f (sq b (uE pK ps))),some (MV.ref (wu h+rows.length)),b'.2.1,b'.2.2]) (hp:=λb'=>own h b'.1)
  (f:=λb' p=>(QA b'.1 p.1.1.toNat p.1.2.toNat p.2,some (.f (Yq p.1)),some (I p.2))) (λb'=>b'.1.length=rows.length/\(∀ p,CD rows p->CD b'.1 p)/\Good most b'.1) ps (rows,none,none) ⟨rfl,λ_ h=>h,g⟩ (λp hpm b' kN=>by
   obtain⟨hl,kL,hg⟩:=kN;obtain⟨pW,hp2,DO⟩:=hp p hpm;have hi:=kL p.1 pW;have mD:p.1.1.toNat<b'.1.length:=by have:=hi.1;have:=hi.2.1;lia
   have er:b'.1[p.1.1.toNat]?=some b'.1[p.1.1.toNat]:=by simp[mD]
   have hj:=hi.2.2.2 _ (ue er);have e1:dy ((uc rows.length).map λi=>MV.ref (h.length+i)) p.1.1=some (.ref (h.length+p.1.1.toNat)):=by
    rw[zV _ _ hi.1];rw[Wb,Xo (by lia)];rfl
   have e2:lu b'.1[p.1.1.toNat].length p.1.2=some p.1.2.toNat:=by
    unfold lu;rw[if_pos hi.2.2.1,if_pos hj]
   have ht:=u4 h b'.1;rw[hl] at ht;refine⟨?_,by rw[yD];exact hl,λq hq=>QbM (kL q hq),Ybx hg hp2 DO⟩;simp[Qm,ht,e1,Cn h b'.1 _ _ er,e2];exact LF h b'.1 _ _ _ p.2 er)
 obtain⟨L1,L2⟩:=L;have iP:(ps.foldl (λ(b':List (List Int)×Option MV×Option MV) p=>(QA b'.1 p.1.1.toNat p.1.2.toNat p.2,some (.f (Yq p.1)),some (I p.2))) (rows,none,none)).1=ym rows ps:=by
  unfold ym;exact Rh _ _ (λb p=>rfl) ps _
 refine⟨?_,?_⟩
 ·have hl:=L2.1;rw[iP] at hl;obtain⟨t',ef⟩:=Zct h (ym rows ps);rw[hl] at ef;have g2:Good most (ym rows ps):=by rw[<- iP];exact L2.2.2
  have mk:=yM n (h++t') most false false (ym rows ps) g2;simp only[Yd,Qn] at mk ef;simp;rw[L1];simp[iP,ef,mk]
 ·rw[<- iP];exact L2.2.2
theorem Zcn(want)(iv)(n0)(ns)(V:bY (.code::h) iv (n0::ns)):run prog (n+1) "nearest_ink" [I want,iv] (.code::h)=.ok (I (Yj want n0 ns)) (.code::h):=by
 have q:=V.q;simp only[xb] at q;have e:Qf (MV.f (.int n0)::ns.map (MV.f∘FV.int))=some (n0::ns):=by
  exact ql (n0::ns)
 have e2:Q0 (I want) iv (.code::h)=.ok (I (Yj want n0 ns)) (.code::h):=by
  simp only[Q0,yc,zc,q,uu,e];rfl
 have lv:qg (.code::h) (I (Yj want n0 ns)) (.code::h)=.ok (I (Yj want n0 ns)) (.code::h):=by
  unfold qg;rw[if_pos ⟨Ua _,λi c _ e=>.inl e⟩];simp
 rw[yar];simp only[c8];simp[e2,lv]
theorem ZbN(cv)(ly nG whole)(iv)(n0)(ns)(V:bY (.code::h) iv (n0::ns))(hw:0<whole)(hb:whole.natAbs<big) :
  run prog (n+2) "entry_of" [.f cv,I ly,I nG,I whole,iv] (.code::h)=.ok (.f (.tup [cv,.int (nG/whole),.int (Yj (ly+nG/whole) n0 ns),.int (ly+nG/whole-Yj (ly+nG/whole) n0 ns),.int (nG%whole)])) (.code::h):=by
 have N:=Zcn n h (ly+nG/whole) iv n0 ns V;have d1:∀ hh,ye true .fdiv (I nG) (I whole) hh=.ok (I (nG/whole)) hh:=λhh=>zm _ _ _ ⟨hw,.inr hb⟩;have d2:∀ hh,ye true .mod (I nG) (I whole) hh=.ok (I (nG%whole)) hh:=λhh=>Yg _ _ _ hw;have lv:∀ x,qg (.code::h) (.f x) (.code::h)=.ok (.f x) (.code::h):=λx=>by
  unfold qg;rw[if_pos ⟨Ua _,λi c _ e=>.inl e⟩];simp
 rw[ya8];simp only[dW];simp[N,d1,d2,yg,Zk,lv]
end
end MP
end
section
namespace MP
open PySem
noncomputable def kE(w k:Int):Int:=if w-k<0 then -(w-k) else w-k
theorem LV(w):∀(r:List Int)(n:Int),Yj w n r∈n::r
 |[],n=>by simp[Yj]
 |k::r,n=>by
  have e:Yj w n (k::r)=Yj w (if kE w k<kE w n then k else n) r:=rfl;rw[e];have:=LV w r (if kE w k<kE w n then k else n)
  rcases Xa.mp this with h|h
  ·rw[h];split <;> simp
  ·simp[h]
theorem EK(w):∀(r:List Int)(n:Int),∀ x∈n::r,kE w (Yj w n r)<=kE w x
 |[],n,x,hx=>by simp at hx;subst hx;simp[Yj]
 |k::r,n,x,hx=>by
  have e:Yj w n (k::r)=Yj w (if kE w k<kE w n then k else n) r:=rfl;rw[e];have ih:=EK w r (if kE w k<kE w n then k else n);have h0:=ih _ (xg)
  rcases Xa.mp hx with rfl|hx
  ·refine Int.le_trans h0 ?_;split <;> lia
  ·rcases Xa.mp hx with rfl|hx
   ·refine Int.le_trans h0 ?_;split <;> lia
   ·exact ih x (by simp[hx])
noncomputable def br(rows:List (List Int))(p:Int×Int):Int:=(rows.getD p.1.toNat []).getD p.2.toNat 0
theorem uU{most:Int}{rows:List (List Int)}{H W:Nat}(d:Drawn most rows H W){p:Int×Int}(h:0<=p.1/\p.1<H/\0<=p.2/\p.2<W):∃ r,rows[p.1.toNat]?=some r/\r[p.2.toNat]?=some (br rows p)/\0<=br rows p/\br rows p<=most:=by
 have l1:p.1.toNat<rows.length:=by rw[d.len];lia
 have e1:rows[p.1.toNat]?=some rows[p.1.toNat]:=va l1;have hm:=vk l1;have l2:p.2.toNat<(rows[p.1.toNat]).length:=by rw[d.pM _ hm];lia
 have e2:=va l2;have es:br rows p=(rows[p.1.toNat])[p.2.toNat]:=by simp[br,Xi,e1,e2]
 exact⟨_,e1,by rw[es];exact e2,by rw[es];exact d.sh _ hm _ (vk l2)⟩
theorem yp  (h0:-(2^200)<i)(h1:i<2^200):i.natAbs<big:=by
 have:(2:Nat)^200<=big:=ul (by decide) (by decide)
 lia
theorem yco(c)(g)(d)(t):kill [g.length+1] (c::(g++d::t))=c::(g++.dead::t):=by
 unfold kill;refine Vg λi=>?_;rw[Wj];cases i with
 |zero=>simp
 |succ i =>
  simp only[vv,vc]
  rcases XH i g.length with hi|hi|hi
  ·rw[Xb hi,Xb hi];have:¬ i+1=g.length+1:=by lia
   simp only[this,if_false];cases g[i]? <;> rfl
  ·subst hi;simp
  ·rw[We (by lia),We (by lia)];obtain⟨m,hm⟩:∃ m,i-g.length=m+1:=⟨i-g.length-1,by lia⟩;rw[hm];have:¬ i+1=g.length+1:=by lia
   simp only[vv,this,if_false];cases t[m]? <;> rfl
theorem Y9(c)(g)(ys)(t):ZJ (.ref (g.length+1)) (c::(g++.lst (ys.map .f)::t))=.ok (.f (.lst ys)) (c::(g++.dead::t)):=by
 rw[JL _ _ ys (by have:=zi (c::g) t (ys.map MV.f);simpa using this),yco]
end MP
end
section
namespace MP
open PySem
theorem YD{α:Type}{P:List α->Prop}(h0:P [])(hs:∀ l a,P l->P (l++[a]))(l:List α):P l:=by
 have:∀ l:List α,P l.reverse:=λl=>by
  induction l with
  |nil=>exact h0
  |cons a l ih=>rw[Vs];exact hs _ _ ih
 have:=this l.reverse
 rwa [List.reverse_reverse] at this
structure Ent where
 p:Int×Int
 got:Int
 eg:Int
 left:Int
 odd:Int
noncomputable def Qd(e:Ent):FV:=.tup [Yq e.p,.int e.got,.int e.eg,.int e.left,.int e.odd]
noncomputable def Yk(sh L:List Int):Int:=((sh.zip L).map λp=>p.1*p.2).sum
noncomputable def qv(es:List Ent):Int:=match es.getLast? with|some e=>e.odd|none=>0
noncomputable def Qk(sh:List Int)(es:List Ent):Int:=qv es+Yk sh (es.map (·.left)).reverse
noncomputable def hX(sh:List Int)(n0:Int)(ns:List Int)(x:Int)(es:List Ent)(p:Int×Int):Ent :=
 ⟨p,Qk sh es/sh.sum,Yj (x+Qk sh es/sh.sum) n0 ns,x+Qk sh es/sh.sum-Yj (x+Qk sh es/sh.sum) n0 ns,Qk sh es%sh.sum⟩
noncomputable def Yb(sh:List Int)(n0:Int)(ns:List Int)(f:Int×Int->Int)(ps:List (Int×Int)):List Ent:=ps.foldl (λes p=>es++[hX sh n0 ns (f p) es p]) []
theorem zo(sh:List Int)(n0:Int)(ns:List Int)(f:Int×Int->Int)(ps:List (Int×Int))(p:Int×Int) :
  Yb sh n0 ns f (ps++[p])=Yb sh n0 ns f ps++[hX sh n0 ns (f p) (Yb sh n0 ns f ps) p]:=by simp[Yb]
theorem zx(sh:List Int)(n0:Int)(ns:List Int)(f:Int×Int->Int)(ps:List (Int×Int)):(Yb sh n0 ns f ps).length=ps.length :=
 YD (P:=λps=>(Yb sh n0 ns f ps).length=ps.length) rfl (λl a ih=>by rw[zo];simp[ih]) ps
theorem J7(sh:List Int)(n0:Int)(ns:List Int)(f:Int×Int->Int)(ps:List (Int×Int)):(Yb sh n0 ns f ps).map (·.p)=ps :=
 YD (P:=λps=>(Yb sh n0 ns f ps).map (·.p)=ps) rfl (λl a ih=>by rw[zo,Vh,ih];rfl) ps
theorem QbT(sh:List Int)(n0:Int)(ns:List Int)(f:Int×Int->Int)(ps:List (Int×Int)):∀ e∈Yb sh n0 ns f ps,e.eg∈n0::ns :=
 YD (P:=λps=>∀ e∈Yb sh n0 ns f ps,e.eg∈n0::ns) (by simp[Yb]) (λl a ih e he=>by
  rw[zo] at he
  rcases Xf.mp he with he|he
  ·exact ih e he
  ·rw[vc.mp he];exact LV _ _ _) ps
structure jP (sh:List Int):Prop where
 nn:∀ x∈sh,0<=x/\x<2^100
 one:1<=sh.sum
 len:sh.length<=10
structure i5 (most:Int) (sh:List Int) (es:List Ent):Prop where
 l:∀ e∈es,-most<=e.left/\e.left<=most
 o:0<=qv es/\qv es<sh.sum
theorem Y3:∀(l:List Int),(∀ x∈l,0<=x)->0<=l.sum
 |[],_=>by simp
 |y::r,h=>by
  have h1:=h y (by simp);have h2:=Y3 r λz hz=>h z (by simp[hz]);rw[Um];lia
theorem O4  (hm:0<=most):∀(sh L:List Int),(∀ x∈sh,0<=x)->(∀ l∈L,-most<=l/\l<=most)->-(sh.sum*most)<=Yk sh L/\Yk sh L<=sh.sum*most
 |[],L,_,_=>by simp[Yk]
 |x::sh,[],hs,hl=>by
  have:0<=(x::sh).sum*most:=Int.mul_nonneg (Y3 _ hs) hm;simp[Yk];simp at this;lia
 |x::sh,l::L,hs,hl=>by
  have ih:=O4 hm sh L (λz hz=>hs z (by simp[hz])) (λz hz=>hl z (by simp[hz]));have hx:=hs x (by simp);have h1:=hl l (by simp);have e1:x*l<=x*most:=vy h1.2 hx;have e2:x*(-most)<=x*l:=vy h1.1 hx;have e3:Yk (x::sh) (l::L)=x*l+Yk sh L:=by simp[Yk]
  have e4:(x::sh).sum*most=x*most+sh.sum*most:=by rw[Um,Wu]
  have e5:x*(-most)=-(x*most):=Int.mul_neg ..;rw[e3,e4];lia
theorem Js    (hm:0<=most)(s:jP sh)(w:i5 most sh es):-most<=Qk sh es/sh.sum/\Qk sh es/sh.sum<=most:=by
 have h1:=O4 hm sh (es.map (·.left)).reverse (λx hx=>(s.nn x hx).1) (λl hl=>by
  obtain⟨e,he,rfl⟩:=ud.mp (xx.mp hl);exact w.l e he)
 have h2:=w.o;have h3:=s.one;unfold Qk;constructor
 ·rw[xw (by lia)];have:-most*sh.sum=-(sh.sum*most):=by rw[uH,Wr]
  lia
 ·have:(qv es+Yk sh (es.map (·.left)).reverse)/sh.sum<most+1:=by
   rw[Int.ediv_lt_iff_lt_mul (by lia)];have:(most+1)*sh.sum=sh.sum*most+sh.sum:=by rw[Wu,Wr];lia
   lia
  lia
theorem qK(es)(e):qv (es++[e])=e.odd:=by simp[qv]
theorem i5.next        (hm:0<=most)(s:jP sh)(w:i5 most sh es)(z:(0:Int)∈n0::ns)(m:most∈n0::ns)(hx:0<=x/\x<=most) :
  i5 most sh (es++[hX sh n0 ns x es p]):=by
 have g:=Js hm s w;refine⟨λe he=>?_,?_⟩
 ·rcases Xf.mp he with he|he
  ·exact w.l e he
  ·rw[vc.mp he];show -most<=x+Qk sh es/sh.sum-Yj (x+Qk sh es/sh.sum) n0 ns/\x+Qk sh es/sh.sum-Yj (x+Qk sh es/sh.sum) n0 ns<=most;generalize Qk sh es/sh.sum=q at *;have b0:=EK (x+q) ns n0 0 z;have b1:=EK (x+q) ns n0 most m;generalize Yj (x+q) n0 ns=b at *;unfold kE at b0 b1;split at b0 <;> split at b0 <;> split at b1 <;> split at b1 <;> lia
 ·rw[qK];have h3:=s.one;exact⟨Ws _ (by lia),Vo _ (by lia)⟩
theorem i5.nil   (s:jP sh):i5 most sh []:=⟨by simp,by have:=s.one;simp[qv];lia⟩
theorem i5.all{most:Int}{sh:List Int}{n0:Int}{ns:List Int}{f:Int×Int->Int}(hm:0<=most)(s:jP sh)(z:(0:Int)∈n0::ns)(m:most∈n0::ns)(ps:List (Int×Int))(hx:∀ p∈ps,0<=f p/\f p<=most):i5 most sh (Yb sh n0 ns f ps):=by
 revert hx
 refine YD (P:=λps=>(∀ p∈ps,0<=f p/\f p<=most)->i5 most sh (Yb sh n0 ns f ps)) (λ_=>i5.nil s) (λl a ih hx=>?_) ps;rw[zo];exact i5.next hm s (ih λp hp=>hx p (by simp[hp])) z m (hx a (by simp))
theorem yW  (s:jP sh):sh.sum<2^110:=by
 have key:∀ l:List Int,(∀ x∈l,0<=x/\x<2^100)->l.sum<=l.length*2^100:=by
  intro l
  induction l with
  |nil=>simp
  |cons x l ih =>
   intro h;have h1:=h x (by simp);have h2:=ih λy hy=>h y (by simp[hy]);rw[Um,Uc];push_cast;rw[Wu]
   lia
 have h1:=key sh s.nn;have h2:=s.len
 lia
theorem Ou(xs:List MV)(k:Nat)(hk:k<xs.length):dy xs (-((k:Int)+1))=xs.reverse[k]?:=by
 unfold dy lu;rw[if_neg (by lia),if_pos (by lia)];rw[VD hk];simp only[xh]
 congr 1
 lia
theorem PR(M:List Int):∀(sh L:List Int)(k:Nat)(z:Int),M.drop k=L->((sh.take L.length).zipIdx k).foldl (λd p=>d+p.1*M.getD p.2 0) z=z+Yk sh L
 |[],L,k,z,_=>by simp[Yk]
 |x::sh,[],k,z,_=>by simp[Yk]
 |x::sh,l::L,k,z,h=>by
  have e1:M.drop (k+1)=L:=by rw[<- List.drop_drop,h];rfl
  have e2:M.getD k 0=l:=by
   have:=congrArg (λq:List Int=>q[0]?) h;simp only[Ur,XG,wC] at this;simp[Xi,this]
  rw[Uc,Wm,Vw,Wh,PR M sh L (k+1) _ e1,e2];simp[Yk];lia
theorem LW(b)(l)(h):gE "enum1" [.f (Ya b l)] h=some (l.zipIdx.map (λp=>MV.f (.tup [.int ((p.2+1:Nat):Int),.int p.1])),[]):=by
 have q:qb h (.f (Ya b l))=some (l.map (MV.f∘FV.int)):=by cases b <;> simp[Ya]
 have g:Qb h (.f (Ya b l))=[]:=by cases b <;> simp[Ya]
 simp only[LU,q,vf,g,gb.injEq,kr.injEq,and_true];apply Vg;intro i;rw[Wj,Wb,Wb,UE];cases l[i]? with
 |none=>rfl
 |some x=>simp[yg,Zk]
theorem MA(xs:List Int)(n:Nat):zO (xs.map (MV.f∘FV.int)) none (some (n:Int))=(xs.take n).map (MV.f∘FV.int):=by
 simp only[zO,zY,if_neg (show ¬((n:Int)<0) by lia),Ul,Vx,Uj,Wc];rw[UA];by_cases h:n<=xs.length
 ·rw[xy h]
 ·rw[Wx (by lia),xi (by simp),xi (by simp;lia)]
theorem ZbY(g t:MH)(xs:List FV):qg g (.ref g.length) (g++.lst (xs.map .f)::t)=.ok (.ref g.length) (g++[.lst (xs.map .f)]):=by
 have cl:=zi g t (xs.map MV.f);have tr:bK g (g++.lst (xs.map MV.f)::t):=bK.app g _;have ef:=ZL xs;generalize xs.map MV.f=M at *;have tk:(g++Cell.lst M::t).take g.length=g:=by rw[Xv];rfl
 unfold qg;rw[if_pos tr];simp only;rw[if_pos (by simp),cl];simp only[ef,tk]
noncomputable def cZ(c:Nat×Nat):Int×Int:=((c.1:Int),(c.2:Int))
theorem IQ(c):Yq (cZ c)=Za c:=rfl
theorem YF(g t)(x):qg g (.f x) (g++t)=.ok (.f x) g:=by
 have tr:bK g (g++t):=bK.app g _;unfold qg;rw[if_pos tr];simp
noncomputable def Yi(c:String):FV:=.obj c [] []
section
variable (n:Nat) (h:MH)
theorem yx(a b:Int):run prog (n+1) "ask_size" [I a,I b] h=if 1<=a/\1<=b then .ok (.f .bG) h else .stuck:=by
 rw[za2];simp only[dY];by_cases c:1<=a
 ·by_cases c2:1<=b
  ·have e1:¬ a<1:=by lia
   have e2:¬ b<1:=by lia
   simp[c,c2,e1,e2]
  ·have e1:¬ a<1:=by lia
   have e2:b<1:=by lia
   simp[c2,e1,e2,zT]
 ·have e1:a<1:=by lia
  simp[c,e1,zT]
section
variable (w:MV) (H W:Nat) (h1:1<=H) (h2:1<=W) (l0:H*W<=100000) (hW:W<=10000) (hH:H<=10000)
include h1 h2 l0 hW hH
theorem ZaC:run prog (n+2) "Way.order" [w,I H,I W] h=.ok (.ref h.length) (h++[.lst (((yi H W).map Za).map .f)]):=by
 have A:=yx n h H W;rw[if_pos (by lia)] at A;have C:=yH n h H W l0 hW hH;have lv:=yU h ((yi H W).map Za);generalize ((yi H W).map Za).map MV.f=M at *;rw[ZaM];simp only[dr];simp[A,C,lv]
theorem ZaR:run prog (n+2) "FroWay.order" [w,I H,I W] h=.ok (.ref h.length) (h++[.lst (((ZP H W).map Za).map .f)]):=by
 refine dA.eq λQ hQ=>?_;have A:=yx n h H W;rw[if_pos (by lia)] at A;rw[yah];simp only[bT];simp[A,qo _ (H:Int) (by lia)];refine Yv (Q:=λr=>dA (yb _ r) _) H (λi σ hh=>∃(z4 z5:Option MV),hh=h++[.lst (((ZP i W).map Za).map .f)]/\σ=[some w,some (I H),some (I W),some (.ref h.length),z4,z5]) ⟨none,none,by simp[ZP],rfl⟩ ?_ ?_
 ·rintro i σ hh sy ⟨z4,z5,rfl,rfl⟩ Q hQ;have nx:((ZP (i+1) W).map Za).map MV.f=((ZP i W).map Za).map MV.f++(((uc W).map λc=>Za (i,if i%2=0 then c else W-1-c)).map MV.f):=by
   unfold ZP;rw[Xy,Xz,Vh,Vh];simp[Xc]
  simp only[nx] at hQ;have ml:(((ZP i W).map Za).map MV.f).length+W<=aC:=by
   have:i*W<=H*W:=uy _ (by lia);simp[O2,Zc];lia
  generalize ((ZP i W).map Za).map MV.f=M at *;have cl:=zi h [] M;have st:=λys=>Zq h [] M ys;have m2:∀ hh,ye true .mod (I i) (I 2) hh=.ok (I ((i:Int)%2)) hh:=λhh=>Yg _ _ _ (by decide);have hL:((uc W).map λc=>Za (i,c)).length=W:=by simp
  have eR:((uc W).map λc=>Za (i,c)).reverse=(uc W).map λc=>Za (i,W-1-c):=by
   have:=congrArg (uE Za) (yb8 i W);rw[xr,Ue,Ue] at this;exact this
  simp[Qm,cl,qo _ (W:Int) (by lia),MP.stM];rw[qw (e:=λk:Nat=>I k) (g:=λc=>MV.f (Za (i,c))) (uc W) [] none (by simp[Zc];lia) (λc _ z=>⟨some (I c),by simp[Qi]⟩)];have e2:(uc W).map (λc=>MV.f (Za (i,c)))=((uc W).map λc=>Za (i,c)).map MV.f:=by simp[Xc]
  simp only[Xe,R.ay,e2,Qe];by_cases c:i%2=0
  ·have ci:¬((i:Int)%2=1):=by lia
   simp only[c,if_true] at hQ;generalize (uc W).map (λc=>Za (i,c))=L at *;simp[m2,ci,qT,cl,hL,ml,st];exact hQ _ _ ⟨_,_,rfl,rfl⟩
  ·have ci:((i:Int)%2=1):=by lia
   simp only[c,if_false] at hQ;rw[<- eR] at hQ;generalize (uc W).map (λc=>Za (i,c))=L at *;have hLR:L.reverse.length=W:=by simp[hL]
   have eM:(L.map MV.f).reverse=L.reverse.map MV.f:=by rw[xr]
   generalize L.reverse=LR at *;simp[m2,ci,eM,qT,cl,hLR,ml,st];exact hQ _ _ ⟨_,_,rfl,rfl⟩
 ·rintro σ hh ⟨z4,z5,rfl,rfl⟩;have lv:=yU h ((ZP H W).map Za);generalize ((ZP H W).map Za).map MV.f=M at *;simp[lv];exact hQ _ _ ⟨rfl,rfl⟩
theorem YaP:run prog (n+2) "ColumnWay.order" [w,I H,I W] h=.ok (.ref h.length) (h++[.lst (((yR H W).map Za).map .f)]):=by
 refine dA.eq λQ hQ=>?_;have A:=yx n h H W;rw[if_pos (by lia)] at A;have C:=yH n h W H (by rw[uv];exact l0) hH hW;obtain⟨t',F⟩:=EI h [] ((yi W H).map Za);have gz:(yi W H).length<=aC:=by rw[zD,uv,Zc];lia
 have eC:(yi W H).map (λp=>MV.f (Za (p.2,p.1)))=((yR H W).map Za).map MV.f:=by unfold yR;simp[Xc]
 have hq:∀ hh,qb hh (.f (.lst ((yi W H).map Za)))=some ((yi W H).map λp=>MV.f (Za p)):=λhh=>by simp[Xc]
 have gq:∀ hh,Qb hh (.f (.lst ((yi W H).map Za)))=[]:=λhh=>rfl;have lv:qg h (.ref (h++t').length) (h++t'++[.lst (((yR H W).map Za).map .f)])=.ok (.ref h.length) (h++[.lst (((yR H W).map Za).map .f)]):=by
  have cl:=zi (h++t') [] (((yR H W).map Za).map MV.f);have tr:bK h (h++t'++[.lst (((yR H W).map Za).map MV.f)]):=by rw[uh];exact bK.app h _
  have ef:=ZL ((yR H W).map Za);generalize ((yR H W).map Za).map MV.f=M at *;have tk:(h++t'++[Cell.lst M]).take h.length=h:=by rw[uh,Xv];rfl
  unfold qg;rw[if_pos tr];simp only;rw[if_pos (by simp),cl];simp only[ef,tk]
 generalize hvl:FV.lst ((yi W H).map Za)=vl at *;generalize hvm:((yi W H).map Za).map MV.f=vm at *;rw[YX];simp only[bA];simp[A,C,F,hq,gq,MP.stM];rw[zn (e:=λp:Nat×Nat=>MV.f (Za p)) (g:=λp=>MV.f (Za (p.2,p.1))) (caps:=[]) (yi W H) [] none none (by simpa using gz) (λp _ z w=>⟨some (I p.1),some (I p.2),by simp[Qi]⟩)];simp only[Xe,R.ay,eC,YN,uh] at lv ⊢;generalize ((yR H W).map Za).map MV.f=M at *;simp at lv;simp[lv];exact hQ _ _ ⟨rfl,rfl⟩
end
theorem Qcc(W:String->List MV->MH->R MV)(c)(hi:prog.meths c "__init__"=none):qJ prog W true c [] h=.ok (.f (Yi c)) h:=by
 simp[qJ,hi,Zk,bK.app,Yi]
end
end MP
end
section
namespace MP
open PySem
noncomputable def Yf(H W:Nat):List (List Int):=xc H (xc W 0)
section
variable (n:Nat) (h:MH)
theorem Ya9(most:Int)(H W:Nat)(hm:1<=most)(h1:1<=H)(h2:H<=1000)(w1:1<=W)(w2:W<=1000)(b:Bool)(ps:List ((Int×Int)×Int))(hp:∀ p∈ps,(0<=p.1.1/\p.1.1<H/\0<=p.1.2/\p.1.2<W)/\0<=p.2/\p.2<=most) :
  run prog (n+4) "laid_out" [I most,.f (.tup [.int H,.int W]),.f (sq b (ps.map pK))] h=.ok (.f (Qn most (ym (Yf H W) ps))) h:=by
 have g:Good most (Yf H W):=by
  refine⟨hm,by simp[Yf];lia,⟨W,w1,λr hr=>by rw[Vk hr];simp⟩,λr hr v hv=>?_,by simp[Yf];lia⟩;rw[Vk hr] at hv;rw[Vk hv];lia
 have WS:=(yas n h most (Yf H W) b ps g (λp oU=>⟨⟨(hp p oU).1.1,by simpa[Yf] using(hp p oU).1.2.1,(hp p oU).1.2.2.1,λr hr=>by rw[Vk hr];simpa using(hp p oU).1.2.2.2⟩,(hp p oU).2⟩)).1;have mk:=yM (n+1) h most false false (Yf H W) g;have b1:∀ hh,ye true .mul (.f (.lst [.int 0])) (I (W:Int)) hh=.ok (.f (Ya false (xc W 0))) hh:=λhh=>by
  have c:-(2^63)<=(W:Int)/\(W:Int)<2^63/\1*(W:Int).toNat<=aC:=⟨by lia,by lia,by rw[Zc];lia⟩;have e:(xc W [MV.f (.int 0)]).flatten=((xc W (0:Int)).map FV.int).map MV.f:=by
   rw[Xx];simp
  unfold ye;simp only[yc,listOf,zc,xb,Ui,Uc,vh,uq];rw[if_pos c,Uj,e,Qe];rfl
 have b2:∀ hh,ye true .mul (.f (.lst [Ya false (xc W 0)])) (I (H:Int)) hh=.ok (.f (Yd false false (Yf H W))) hh:=λhh=>by
  have c:-(2^63)<=(H:Int)/\(H:Int)<2^63/\1*(H:Int).toNat<=aC:=⟨by lia,by lia,by rw[Zc];lia⟩;have e:(xc H [MV.f (Ya false (xc W 0))]).flatten=((Yf H W).map (Ya false)).map MV.f:=by
   rw[Xx];simp[Yf]
  unfold ye;simp only[yc,listOf,zc,xb,Ui,Uc,vh,uq];rw[if_pos c,Uj,e,Qe];rfl
 rw[za7];simp only[dU];have a0:dy [I (H:Int),I (W:Int)] 0=some (I (H:Int)):=rfl;have a1:dy [I (H:Int),I (W:Int)] 1=some (I (W:Int)):=rfl;generalize Ya false (xc W 0)=z at *;generalize Yd false false (Yf H W)=zz at *;generalize sq b (ps.map pK)=pp at *;generalize Qn most (Yf H W)=p0 at *;simp[a0,a1,b1,b2,Zk,mk,WS]
theorem YO(iv)(xs)(V:bY h iv xs)(hs:1<=xs.sum)(h0:∀ x∈xs,0<=x):run prog (n+1) "ask_shares" [iv] h=.ok (.f .bG) h:=by
 have ne:xs≠[]:=by rintro rfl;simp at hs
 have e1:¬ xs.sum<1:=by lia
 have e2:¬ tI xs<0:=by have:=h0 _ (E3 ne);lia
 have q:=V.q;have q1:=MC true h iv xs (by rw[q];exact ql xs) ne;rw[yaE];simp only[cK];simp[q,e1,q1,e2]
theorem ybq(a)(es)(p)(x most)(iv lW)(sh)(n0)(ns)(ce:Qc (.code::h) a=some (es.map λe=>.f (Qd e)))(V:bY (.code::h) iv sh)(V2:bY (.code::h) lW (n0::ns))
  (s:jP sh) (w:i5 most sh es) (hm:0<=most/\most<2^100):run prog (n+3) "entry_behind" [.ref a,.f (Yq p),I x,iv,lW] (.code::h)=.ok (.f (Qd (hX sh n0 ns x es p))) (.code::h):=by
 obtain⟨b,sl⟩:=V.slice (MA sh es.length);have q:=V.q;have E1:=ZbN n h (Yq p) x (Qk sh es) sh.sum lW n0 ns V2 (by have:=s.one;lia) (yp (by have:=s.one;lia) (by have:=yW s;lia));have it:=LW b (sh.take es.length) (.code::h);refine dA.eq λQ hQ=>?_;rw[yai];simp only[aS];have lv:∀ y,qg (.code::h) (.f y) (.code::h)=.ok (.f y) (.code::h):=λy=>by
  unfold qg;rw[if_pos ⟨Ua _,λi c _ e=>.inl e⟩];simp
 have go:dA (yb (.code::h) (Qa prog (run prog (n+2)) (aS.body.drop 1) [some (.ref a),some (.f (Yq p)),some (I x),some iv,some lW,some (I (qv es)),none,none] (.code::h))) Q:=by
  simp only[aS,xm,Ul];simp[ce,sl,it];refine yb4 (Q:=λr=>dA (yb _ r) _) (e:=λp:Int×Nat=>MV.f (.tup [.int ((p.2+1:Nat):Int),.int p.1])) ((sh.take es.length).zipIdx) (qv es,(none:Option MV),(none:Option MV)) (λb=>[some (.ref a),some (.f (Yq p)),some (I x),some iv,some lW,some (I b.1),b.2.1,b.2.2]) (λ_=>.code::h)
   (λb y=>(b.1+y.1*(es.map (·.left)).reverse.getD y.2 0,some (I ((y.2+1:Nat):Int)),some (I y.1))) rfl rfl ?_ ?_
  ·rintro⟨y,k⟩ hy ⟨d,z1,z2⟩;have hk:=Wt.mp hy;simp only[Wn,Vx] at hk;have HE:k<es.length:=by
    have:=(xa.mp hk).1;simp at this;lia
   have Nv:y∈sh:=xq (ue hk);have sR:=Ou (es.map λe=>MV.f (Qd e)) k (by simpa using HE);obtain⟨e,he⟩:∃ e,es.reverse[k]?=some e:=⟨es.reverse[k]'(by simpa using HE),by simp[HE]⟩;have sA:e∈es:=xx.mp (ue he);rw[<- xr,Wb,he] at sR;have gd:(es.map (·.left)).reverse.getD k 0=e.left:=by
    rw[Xi,<- xr,Wb,he];rfl
   have a3:dy [MV.f (Yq e.p),I e.got,I e.eg,I e.left,I e.odd] 3=some (I e.left):=rfl;have mu:zB y e.left:=.inr (.inr ⟨yp (by have:=s.nn y Nv;lia) (by have:=s.nn y Nv;lia),yp (by have:=w.l e sA;lia) (by have:=w.l e sA;lia)⟩);simp only[vf] at sR;simp only[gd];have nk:-((k:Int)+1)=-1 + -(k:Int):=by lia
   have sE:∀ hh,qb hh (.f (Qd e))=some [MV.f (Yq e.p),I e.got,I e.eg,I e.left,I e.odd]:=λ_=>rfl;simp[Qm,ce,sR,sE,a3,zr,mu]
  ·have e1:=PR (es.map (·.left)).reverse sh (es.map (·.left)).reverse 0 (qv es) rfl;have ff:∀(l:List (Int×Nat)) (b:Int×Option MV×Option MV),(l.foldl (λb y=>(b.1+y.1*(es.map (·.left)).reverse.getD y.2 0,some (I ((y.2+1:Nat):Int)),some (I y.1))) b).1=l.foldl (λd p=>d+p.1*(es.map (·.left)).reverse.getD p.2 0) b.1:=by
    intro l
    induction l with
    |nil=>intro b;rfl
    |cons y l ih=>intro b;exact ih _
   have e2:=ff ((sh.take es.length).zipIdx) (qv es,(none:Option MV),(none:Option MV));simp only[WF,Wc] at e1;rw[e1] at e2;generalize (sh.take es.length).zipIdx.foldl (λ(b:Int×Option MV×Option MV) y=>(b.1+y.1*(es.map (·.left)).reverse.getD y.2 0,some (I ((y.2+1:Nat):Int)),some (I y.1))) (qv es,none,none)=fin at *;obtain⟨d,z1,z2⟩:=fin;simp only at e2;have e3:d=Qk sh es:=e2;subst e3;simp[q,E1,lv];exact hQ _ _ ⟨rfl,rfl⟩
 rcases List.eq_nil_or_concat es with rfl|⟨l,e,rfl⟩
 ·simp only[aS,xm,Ul] at go;simp[ce,qv] at go ⊢;exact go
 ·have sR:=Ou ((l++[e]).map λe=>MV.f (Qd e)) 0 (by simp);rw[<- xr,Wb] at sR;simp only[List.concat_eq_append] at *;have sE:∀ hh,qb hh (.f (Qd e))=some [MV.f (Yq e.p),I e.got,I e.eg,I e.left,I e.odd]:=λ_=>rfl;simp at sR;have a4:dy [MV.f (Yq e.p),I e.got,I e.eg,I e.left,I e.odd] 4=some (I e.odd):=rfl;simp only[aS,xm,Ul,qK] at go;simp only[Qa,Yo,ya];simp[ce,sR,a4,sE] at go ⊢;exact go
theorem Ya7(most:Int)(rows:List (List Int))(H W:Nat)(d:Drawn most rows H W)(hm:1<=most)(h1:1<=H)(h2:H<=1000)(w1:1<=W)(w2:W<=1000)(es:List Ent)(hl:es.length<=10000)
  (kL:∀ e∈es,0<=e.p.1/\e.p.1<H/\0<=e.p.2/\e.p.2<W) (hi:∀ e∈es,0<=e.eg/\e.eg<=most) :
  run prog (n+5) "dots_of" [.f (Qn most rows),.f (.lst (es.map Qd))] h=.ok (.f (Qn most (ym (Yf H W) (es.map λe=>(e.p,e.eg))))) h:=by
 have hr:rows≠[]:=by rintro rfl;have:=d.len;simp at this;lia
 have hw:(rows.headD []).length=W:=by
  cases rows with
  |nil=>exact absurd rfl hr
  |cons r rs=>exact d.pM r (by simp)
 have S:=OE (n+2) h most rows hr;rw[d.len,hw] at S;have L:=Ya9 n h most H W hm h1 h2 w1 w2 false (es.map λe=>(e.p,e.eg)) (λq hq=>by
  obtain⟨e,he,rfl⟩:=ud.mp hq;exact⟨kL e he,hi e he⟩)
 have p1:mM prog.iZ "most" (.f (Qn most rows)) h=some (I most):=by simp[Qn]
 rw[zbl];simp only[eW];generalize Qn most rows=pc at *;generalize ym (Yf H W) (es.map λe=>(e.p,e.eg))=so at *;simp[p1,S,Yp,MP.stM,Xc];rw[Px (Yt _) (λσ=>∃ z0 z1 z2 z3 z4,σ=[z0,z1,z2,z3,z4]) (e:=λe:Ent=>MV.f (Qd e)) (g:=λe=>MV.f (pK (e.p,e.eg))) es [] _ ⟨none,none,none,none,none,rfl⟩ (by simp[Zc];lia) (by
  rintro e he σ ⟨z0,z1,z2,z3,z4,rfl⟩;refine⟨[some (.f (Yq e.p)),some (I e.got),some (I e.eg),some (I e.left),some (I e.odd)],?_,_,_,_,_,_,rfl⟩;simp[Qi,Qd,yg,Zk])]
 have e3:(es.map λe=>MV.f (pK (e.p,e.eg)))=((es.map λe=>(e.p,e.eg)).map pK).map MV.f:=by simp
 rw[Xe,R.ay,e3,Qe];simp only[sq] at L;simp at L ⊢;simp[L]
noncomputable def Ct(w:FV)(H W:Nat)(cs:List (Nat×Nat)):Prop:=∃ c ns vs f,w=.obj c ns vs/\"order"∉ns/\prog.meths c "order"=some f/\∀ n h,run prog (n+6) f [.f w,I H,I W] h=.ok (.ref h.length) (h++[.lst ((cs.map Za).map .f)])
theorem Li(most)(rows)(H W)(d:Drawn most rows H W)(hm:1<=most)(pZ:most<2^100)(h1:1<=H)(w1:1<=W)(w)(cs)(wr:Ct w H W cs)(hc:∀ c∈cs,c.1<H/\c.2<W)(kM:cs.length<=10000)
  (iv lW) (sh) (n0) (ns) (V:bY (.code::h) iv sh) (V2:bY (.code::h) lW (n0::ns)) (s:jP sh) (K:iy most (n0::ns)) (z:(0:Int)∈n0::ns) (m:most∈n0::ns) :
  run prog (n+7) "ledger" [.f (Qn most rows),.f w,iv,lW] (.code::h)=.ok (.ref (h.length+1)) (.code::(h++[.lst ((Yb sh n0 ns (br rows) (cs.map cZ)).map λe=>.f (Qd e))])):=by
 refine dA.eq λQ hQ=>?_;have hr:rows≠[]:=by rintro rfl;have:=d.len;simp at this;lia
 have hw:(rows.headD []).length=W:=by
  cases rows with
  |nil=>exact absurd rfl hr
  |cons r rs=>exact d.pM r (by simp)
 have A:=YO (n+5) (.code::h) iv sh V s.one (λx hx=>(s.nn x hx).1);have B1:=Za1 (n+4) (.code::h) most lW (n0::ns) V2 K hm;have S:=OE (n+4) (.code::h) most rows hr;rw[d.len,hw] at S;obtain⟨c,fn,fv,f,rfl,no,mo,ord⟩:=wr;have O:=ord n (.code::(h++[.lst []]));have F:=Y9 .code (h++[.lst []]) (cs.map Za) [];have p1:mM prog.iZ "most" (.f (Qn most rows)) (.code::h)=some (I most):=by simp[Qn]
 have SH:∀(t:MH)(c:Nat×Nat),c∈cs->run prog (n+6) "shade_at" [.f (Qn most rows),.f (Za c)] (.code::(h++t))=.ok (I (br rows (cZ c))) (.code::(h++t)):=λt c n6=>by
  have oY:=hc c n6;obtain⟨r,e1,e2,_⟩:=uU d (p:=cZ c) ⟨by simp[cZ],by simp[cZ];lia,by simp[cZ],by simp[cZ];lia⟩;exact QaZ (n+2) _ most rows H W d c.1 c.2 oY.1 oY.2 r _ (by simpa[cZ] using e1) (by simpa[cZ] using e2)
 generalize Qn most rows=pc at *;have cm:∀ hh,nh "order" (.f (.obj c fn fv)) hh=some c:=λhh=>by simp[nh,no]
 have a0:dy [I (H:Int),I (W:Int)] 0=some (I (H:Int)):=rfl;have a1:dy [I (H:Int),I (W:Int)] 1=some (I (W:Int)):=rfl;generalize hwv:FV.obj c fn fv=wv at *;rw[zbB];simp only[fQ];simp at O F;simp[A,p1,B1,S,a0,a1,cm,mo,O,F];refine Dj (Q:=λr=>dA (yb _ r) _) (e:=MV.f∘Za) cs (λi σ hh=>∃ z6:Option MV,hh=.code::(h++[.lst ((Yb sh n0 ns (br rows) ((cs.take i).map cZ)).map λe=>.f (Qd e)),.dead])/\σ=[some (.f pc),some (.f wv),some iv,some lW,some (.f (.tup [.int H,.int W])),some (.ref (h.length+1)),z6]) ⟨none,by simp[Yb],rfl⟩ ?_ ?_
 ·rintro i c σ hh Bz ⟨z6,rfl,rfl⟩ Q hQ;have n6:=ue Bz;have E:Yb sh n0 ns (br rows) ((cs.take (i+1)).map cZ)=Yb sh n0 ns (br rows) ((cs.take i).map cZ)++[hX sh n0 ns (br rows (cZ c)) (Yb sh n0 ns (br rows) ((cs.take i).map cZ)) (cZ c)]:=by
   rw[ww,Bz];simp only[uG,Vh,xb,Ui];exact zo ..
  have ok:=i5.all (f:=br rows) (by lia) s z m ((cs.take i).map cZ) (λp hp=>by
   obtain⟨c',cQ,rfl⟩:=ud.mp hp;have oY:=hc c' (xq cQ);obtain⟨r,_,_,q⟩:=uU d (p:=cZ c') ⟨by simp[cZ],by simp[cZ];lia,by simp[cZ],by simp[cZ];lia⟩;exact q)
  have el:(Yb sh n0 ns (br rows) ((cs.take i).map cZ)).length<=10000:=by
   rw[zx];simp;lia
  simp only[E] at hQ;generalize Yb sh n0 ns (br rows) ((cs.take i).map cZ)=es at *;have sh1:=SH [.lst (es.map λe=>.f (Qd e)),.dead] c n6;have ce:Qc (.code::(h++[.lst (es.map λe=>.f (Qd e)),.dead])) (h.length+1)=some (es.map λe=>.f (Qd e)):=by
   have:=zi (.code::h) [.dead] (es.map λe=>MV.f (Qd e));simpa using this
  have st:∀ ys,Ye (.code::(h++[.lst (es.map λe=>.f (Qd e)),.dead])) (h.length+1) ys=.code::(h++[.lst ys,.dead]):=λys=>by
   have:=Zq (.code::h) [.dead] (es.map λe=>MV.f (Qd e)) ys;simpa using this
  have Va:bY (.code::(h++[.lst (es.map λe=>.f (Qd e)),.dead])) iv sh:=V.app [.lst (es.map λe=>.f (Qd e)),.dead];have Vb:bY (.code::(h++[.lst (es.map λe=>.f (Qd e)),.dead])) lW (n0::ns):=V2.app [.lst (es.map λe=>.f (Qd e)),.dead];have BH:=ybq (n+3) (h++[.lst (es.map λe=>.f (Qd e)),.dead]) (h.length+1) es (cZ c) (br rows (cZ c)) most iv lW sh n0 ns ce Va Vb s ok ⟨by lia,pZ⟩;have ea:(es.map λe=>MV.f (Qd e))++[MV.f (Qd (hX sh n0 ns (br rows (cZ c)) es (cZ c)))]=(es++[hX sh n0 ns (br rows (cZ c)) es (cZ c)]).map λe=>MV.f (Qd e):=by simp
  have ml:(es.map λe=>MV.f (Qd e)).length<aC:=by rw[Zc,Wc];lia
  rw[IQ] at BH;simp only[<- ea] at hQ;generalize br rows (cZ c)=x at *;generalize Qd (hX sh n0 ns x es (cZ c))=en at *;generalize (es.map λe=>MV.f (Qd e))=M at *;generalize DX:Za c=cn at *;simp[Qm,ce,DX,sh1,BH,ml,st];exact hQ _ _ ⟨_,rfl,rfl⟩
 ·rintro σ hh ⟨z6,rfl,rfl⟩;rw[Uo];have lv:=ZbY (.code::h) [.dead] ((Yb sh n0 ns (br rows) (cs.map cZ)).map Qd);rw[Ue] at lv;simp only[Xc] at lv;generalize ((Yb sh n0 ns (br rows) (cs.map cZ)).map λe=>MV.f (Qd e))=M at *;simp at lv;simp[lv];exact hQ _ _ ⟨rfl,rfl⟩
end
end MP
end
section
namespace MP
open PySem
noncomputable def pL(cs:List (Nat×Nat))(m:Nat):List (Nat×Nat) :=
 cs.map (λc=>(c.2,c.1))++cs.map (λc=>(m+c.1,c.2))++cs.map (λc=>(m+c.1,m+c.2))++cs.map (λc=>(m-1-c.2,2*m-1-c.1))
noncomputable def qj:Nat->List (Nat×Nat)
 |0=>[(0,0)]
 |k+1=>pL (qj k) (2^k)
theorem Jv:∀(k:Nat),∀ c∈qj k,c.1<2^k/\c.2<2^k
 |0,c,h=>by
  simp[qj] at h;subst h;simp
 |k+1,c,h=>by
  have ih:=Jv k;have p:2^(k+1)=2*2^k:=by rw[vB,uv]
  have q:0<2^k:=Kr k;rw[p];simp only[qj,pL,Xf,ud] at h
  rcases h with ((⟨d,hd,rfl⟩|⟨d,hd,rfl⟩)|⟨d,hd,rfl⟩)|⟨d,hd,rfl⟩ <;> (have:=ih d hd;simp only;lia)
theorem Jy:∀ k:Nat,(qj k).length=4^k
 |0=>rfl
 |k+1=>by
  simp only[qj,pL,Xg,Wc,Jy k,vB]
  lia
theorem LB(H W):∀ K,H<=2^K->W<=2^K->∃ k,k<=K/\H<=2^k/\W<=2^k/\∀ i,i<k->2^i<H\/2^i<W
 |0,a,b=>⟨0,Ua _,a,b,λi hi=>by lia⟩
 |K+1,a,b=>by
  by_cases h:H<=2^K/\W<=2^K
  ·obtain⟨k,q⟩:=LB H W K h.1 h.2;exact⟨k,by lia,q.2⟩
  ·refine⟨K+1,Ua _,a,b,λi hi=>?_⟩;have:2^i<=2^K:=ul (by decide) (by lia)
   lia
theorem yQ{α:Type}{G:zG}{bd:MV->aF->MH->R (Option MV×aF)}{h:MH}{e g:α->MV}{t:α->Bool}(hg:aP G h)(Iv:aF->Prop):∀(ys:List α)(acc:List MV)(σ:aF),Iv σ->acc.length+ys.length<=aC ->
  (∀ y∈ys,∀ σ,Iv σ->∃ σ',bd (e y) σ h=.ok (if t y=true then some (g y) else none,σ') h/\Iv σ')->zh G bd (ys.map e) acc σ h=.ok (acc++(ys.filter t).map g) h
 |[],acc,σ,_,_,_=>by simp[zh,hg]
 |y::r,acc,σ,iv,hl,hb=>by
  obtain⟨σ',e',Np⟩:=hb y (by simp) σ iv;simp only[Uc] at hl;have c:aP G h/\acc.length<aC:=⟨hg,by lia⟩;rw[xb,zh,if_pos c,e',R.ay];by_cases ht:t y=true
  ·simp only[ht,if_true];rw[yQ hg Iv r _ σ' Np (by simp;lia) λz hz=>hb z (by simp[hz])];simp[wx,ht]
  ·simp only[ht];have:=yQ hg Iv r acc σ' Np (by lia) λz hz=>hb z (by simp[hz]);simp only[Uk,if_false] at this ⊢;rw[this];simp[wx,ht]
theorem YbB  (h:ks.Nodup)(k):(qz ks k).Nodup:=by
 unfold qz;split
 ·exact h
 next n =>
  rw[Vl];refine⟨h,by simp,λa ha b hb=>?_⟩;rw[vc.mp hb]
  exactλe=>n (e ▸ ha)
theorem Ycp  :x∈qz ks k↔x∈ks\/x=k:=by
 unfold qz;split
 next m=>exact⟨.inl,λh=>h.elim id λe=>e ▸ m⟩
 next=>simp
theorem MY:∀(ms ks:List (Int×Int)),ks.Nodup->(ms.foldl qz ks).Nodup
 |[],ks,h=>h
 |m::ms,ks,h=>MY ms _ (YbB h m)
theorem M8:∀(ms ks:List (Int×Int)) (x:Int×Int),x∈ms.foldl qz ks↔x∈ks\/x∈ms
 |[],ks,x=>by simp
 |m::ms,ks,x=>by
  rw[Wh,M8 ms,Ycp];simp[or_assoc]
theorem Dh   (h:c∈yi H W):c.1<H/\c.2<W:=by
 unfold yi at h;simp only[vq,ud,Xj] at h;obtain⟨r,hr,c',hc,rfl⟩:=h;exact⟨hr,hc⟩
theorem zcw   (h:c∈ZP H W):c.1<H/\c.2<W:=by
 unfold ZP at h;simp only[vq,ud,Xj] at h;obtain⟨r,hr,c',hc,rfl⟩:=h;refine⟨hr,?_⟩;simp only;split <;> lia
theorem zct   (h:c∈yR H W):c.1<H/\c.2<W:=by
 unfold yR at h;obtain⟨d,hd,rfl⟩:=ud.mp h;have:=Dh hd;exact⟨this.2,this.1⟩
theorem LC:∀(l:List Int),(∀ x∈l,0<=x)->∀ y∈l,1<=y->1<=l.sum
 |[],_,y,hy,_=>by simp at hy
 |x::l,h,y,hy,h1=>by
  have h2:=Y3 l λz hz=>h z (by simp[hz]);have h3:=h x (by simp);rw[Um]
  rcases Xa.mp hy with rfl|hy
  ·lia
  ·have:=LC l (λz hz=>h z (by simp[hz])) y hy h1
   lia
theorem La:∀(sh L:List Int)(j:Nat),j<sh.length->j<L.length->Yk (sh.take (j+1)) L=Yk (sh.take j) L+sh.getD j 0*L.getD j 0
 |[],L,j,h,_=>by simp at h
 |x::sh,[],j,_,h=>by simp at h
 |x::sh,l::L,0,_,_=>by simp[Yk]
 |x::sh,l::L,j+1,h1,h2=>by
  have ih:=La sh L j (by simpa using h1) (by simpa using h2);have e:∀ s,Yk (x::s) (l::L)=x*l+Yk s L:=λs=>by simp[Yk]
  rw[Wm,Wm,e,e,ih];simp only[List.getD_cons_succ]
  lia
theorem Fe:∀(sh L:List Int),Yk (sh.take (min sh.length L.length)) L=Yk sh L
 |[],L=>by simp[Yk]
 |x::sh,[]=>by simp[Yk]
 |x::sh,l::L=>by
  have ih:=Fe sh L;have e:∀ s,Yk (x::s) (l::L)=x*l+Yk s L:=λs=>by simp[Yk]
  rw[Uc,Uc,Nat.succ_min_succ,Wm,e,e,ih]
theorem Pw{α:Type}(bd:MV->aF->MH->R (Option MV×aF))(e:α->MV)(c:α->List Int):∀(ys:List α),(∀ r∈ys,∀ z h,∃ z',bd (e r) [z] h=.ok (some (.ref h.length),[z']) (h++[ZB (c r)]))->∀(acc:List MV)(z:Option MV)(h:MH),acc.length+ys.length<=aC ->
  zh [] bd (ys.map e) acc [z] h=.ok (acc++(uc ys.length).map λi=>MV.ref (h.length+i)) (h++(ys.map c).map ZB)
 |[],hb,acc,z,h,_=>by simp[zh]
 |r::ys,hb,acc,z,h,hl=>by
  obtain⟨z',e1⟩:=hb r (by simp) z h;simp only[Uc] at hl;have ih:=Pw bd e c ys (λy hy=>hb y (by simp[hy])) (acc++[.ref h.length]) z' (h++[ZB (c r)]) (by simp;lia);simp only[xb,zh,Yt,true_and,e1,R.ay,ih,Xg,Uc,vh];rw[if_pos (by lia)]
  congr 1
  ·simp[wD,Xc];intro a _
   lia
  ·simp
end MP
end
section
namespace MP
open PySem
section
variable (n:Nat) (h:MH)
theorem Zap(cs:List (Nat×Nat))(m:Nat)(hc:∀ c∈cs,c.1<m/\c.2<m)(hl:cs.length<=100000)(hm:m<=1000000):run prog (n+1) "folded_once" [.f (.lst (cs.map Za)),I m] h=.ok (.f (.lst ((pL cs m).map Za))) h:=by
 have q:qb h (.f (.lst (cs.map Za)))=some (cs.map λc=>MV.f (Za c)):=by simp[Xc]
 have g:Qb h (.f (.lst (cs.map Za)))=[]:=rfl;have it:gE "seq" [.f (.lst (cs.map Za))] h=some (cs.map λc=>MV.f (Za c),[]):=by simp only[Yp,q,vf,g]
 have sz:cs.length<=aC:=by rw[Zc];lia
 have mu2:∀ hh,ye true .mul (I 2) (I (m:Int)) hh=.ok (I (2*(m:Int))) hh:=λhh=>zr _ _ _ (Qt (by lia));have N1:∀ f:Nat×Nat->Nat×Nat,Qr true (cs.map λc=>MV.f (Za (f c))) h=.ok (.f (.lst ((cs.map f).map Za))) h:=λf=>by
  have:=Qe (cs.map λc=>Za (f c)) (h:=h);simpa[Xc] using this
 have BA:∀ a b:List (Nat×Nat),a.length+b.length<=aC->ye true .add (.f (.lst (a.map Za))) (.f (.lst (b.map Za))) h=.ok (.f (.lst ((a++b).map Za))) h:=λa b Ib=>by
  have:=Qe ((a++b).map Za) (h:=h);simp only[ye,yc,zk,listOf,zc,Wc];rw[if_pos Ib,<- Vh,<- Vh];exact this
 have B1:=BA (cs.map λc=>(c.2,c.1)) (cs.map λc=>(m+c.1,c.2)) (by simp[Zc];lia);have B2:=BA (cs.map (λc=>(c.2,c.1))++cs.map (λc=>(m+c.1,c.2))) (cs.map λc=>(m+c.1,m+c.2)) (by simp[Zc];lia);have B3:=BA (cs.map (λc=>(c.2,c.1))++cs.map (λc=>(m+c.1,c.2))++cs.map (λc=>(m+c.1,m+c.2))) (cs.map λc=>(m-1-c.2,2*m-1-c.1)) (by simp[Zc];lia);have n1:=N1 λc=>(c.2,c.1);have n2:=N1 λc=>(m+c.1,c.2);have n3:=N1 λc=>(m+c.1,m+c.2);have n4:=N1 λc=>(m-1-c.2,2*m-1-c.1);have e0:pL cs m=cs.map (λc=>(c.2,c.1))++cs.map (λc=>(m+c.1,c.2))++cs.map (λc=>(m+c.1,m+c.2))++cs.map (λc=>(m-1-c.2,2*m-1-c.1)):=rfl;rw[<- e0] at B3;generalize pL cs m=out at *;generalize kM:FV.lst (cs.map Za)=cl at *;rw[Zas];simp only[cg];simp[it,MP.stM];rw[zn (e:=λc=>MV.f (Za c)) (g:=λc=>MV.f (Za (c.2,c.1))) (caps:=[]) cs [] none none (by simpa using sz) (λc _ z w=>⟨some (I c.1),some (I c.2),by simp[Qi]⟩)];simp only[Xe,R.ay,n1];simp[it,MP.stM];rw[zn (e:=λc=>MV.f (Za c)) (g:=λc=>MV.f (Za (m+c.1,c.2))) (caps:=[some (I m)]) cs [] none none (by simpa using sz) (λc _ z w=>⟨some (I c.1),some (I c.2),by simp[Qi]⟩)];simp only[Xe,R.ay,n2];simp[it,MP.stM];rw[zn (e:=λc=>MV.f (Za c)) (g:=λc=>MV.f (Za (m+c.1,m+c.2))) (caps:=[some (I m)]) cs [] none none (by simpa using sz) (λc _ z w=>⟨some (I c.1),some (I c.2),by simp[Qi]⟩)];simp only[Xe,R.ay,n3];simp[it,MP.stM];rw[zn (e:=λc=>MV.f (Za c)) (g:=λc=>MV.f (Za (m-1-c.2,2*m-1-c.1))) (caps:=[some (I m)]) cs [] none none (by simpa using sz) (λc n6 z w=>⟨some (I c.1),some (I c.2),by
  have:=hc c n6;have e1:((m-1-c.2:Nat):Int)=(m:Int)-1-c.2:=by lia
  have e2:((2*m-1-c.1:Nat):Int)=2*(m:Int)-1-c.1:=by lia
  simp[Qi,mu2,e1,e2]⟩)]
 simp only[Xe,R.ay,n4];simp at B1 B2 B3;simp[B1,B2,B3]
theorem qai(k:Nat)(hk:k<=6):run prog (n+2) "folded_cells" [I ((2^k:Nat):Int)] h=.ok (.f (.lst ((qj k).map Za))) h:=by
 refine dA.eq λQ hQ=>?_;rw[qah];simp only[bR];simp[Zk,yg];refine zR (Q:=λr=>dA (yb _ r) _) k (λi σ hh=>hh=h/\σ=[some (I ((2^k:Nat):Int)),some (.f (.lst ((qj i).map Za))),some (I ((2^i:Nat):Int))]) (by show k<1000000;lia) ⟨rfl,by simp[qj]⟩ ?_ ?_ ?_
 ·rintro i σ hh hi ⟨rfl,rfl⟩;have hp:2^i<2^k:=Nat.pow_lt_pow_right (by lia) hi;have hp6:2^k<=2^6:=ul (by lia) hk;have F:=Zap n hh (qj i) (2^i) (Jv i) (by rw[Jy];have:4^i<=4^6:=ul (by lia) (by lia);lia) (by lia);have ee:pL (qj i) (2^i)=qj (i+1):=rfl;have p2:(2:Int)*((2^i:Nat):Int)=((2^(i+1):Nat):Int):=by rw[vB];push_cast;lia
  have mu:∀ hh,ye true .mul (I 2) (I ((2^i:Nat):Int)) hh=.ok (I ((2^(i+1):Nat):Int)) hh:=λhh=>by
   have:=zr true 2 ((2^i:Nat):Int) (h:=hh) (Qt (by rw[UG];lia));rw[p2] at this;exact this
  have lt:((2^i:Nat):Int)<((2^k:Nat):Int):=by exact_mod_cast hp
  rw[ee] at F;generalize (((2^(i+1):Nat):Int))=b2 at *;generalize (((2^i:Nat):Int))=b at *;generalize (((2^k:Nat):Int))=bk at *;generalize (qj (i+1)).map Za=L2 at *;generalize (qj i).map Za=L1 at *;refine⟨by simp[lt],λQ hQ=>?_⟩;simp[F,mu];exact hQ _ _ ⟨rfl,rfl⟩
 ·rintro σ hh ⟨rfl,rfl⟩;simp
 ·rintro σ hh ⟨rfl,rfl⟩;generalize (qj k).map Za=L at *;simp;exact hQ _ _ ⟨rfl,rfl⟩
theorem yaz(w:MV)(H W:Nat)(h1:1<=H)(h2:1<=W)(K:Nat)(hK:K<=6)(hH:H<=2^K)(hW:W<=2^K):∃ k,k<=K/\∀ n h,run prog (n+3) "FoldedWay.order" [w,I H,I W] h=.ok (.ref h.length) (h++[.lst ((((qj k).filter λc=>decide (c.1<H)&&decide (c.2<W)).map Za).map .f)]):=by
 obtain⟨k,hk,kH,kW,kl⟩:=LB H W K hH hW;refine⟨k,hk,λn h=>?_⟩;refine dA.eq λQ hQ=>?_;have A:=yx (n+1) h H W;rw[if_pos (by lia)] at A;rw[QY];simp only[bz];simp[A];refine zR (Q:=λr=>dA (yb _ r) _) k (λi σ hh=>hh=h/\σ=[some w,some (I H),some (I W),some (I ((2^i:Nat):Int))]) (by show k<1000000;lia) ⟨rfl,by simp⟩ ?_ ?_ ?_
 ·rintro i σ hh hi ⟨rfl,rfl⟩;have hp6:2^i<=2^6:=ul (by lia) (by lia);have p2:(2:Int)*((2^i:Nat):Int)=((2^(i+1):Nat):Int):=by rw[vB];push_cast;lia
  have mu:∀ hh,ye true .mul (I 2) (I ((2^i:Nat):Int)) hh=.ok (I ((2^(i+1):Nat):Int)) hh:=λhh=>by
   have:=zr true 2 ((2^i:Nat):Int) (h:=hh) (Qt (by rw[UG];lia));rw[p2] at this;exact this
  have or1:((2^i:Nat):Int)<(H:Int)\/((2^i:Nat):Int)<(W:Int):=by
   rcases kl i hi with q|q
   ·left;exact_mod_cast q
   ·right;exact_mod_cast q
  generalize (((2^(i+1):Nat):Int))=b2 at *;generalize (((2^i:Nat):Int))=b at *;refine⟨?_,λQ hQ=>?_⟩
  ·by_cases c:b<(H:Int)
   ·simp[c]
   ·have c2:b<(W:Int):=or1.resolve_left c;simp[c,c2]
  ·simp[mu];exact hQ _ _ ⟨rfl,rfl⟩
 ·rintro σ hh ⟨rfl,rfl⟩;have l1:¬((2^k:Nat):Int)<(H:Int):=by lia
  have l2:¬((2^k:Nat):Int)<(W:Int):=by lia
  generalize (((2^k:Nat):Int))=b at *;simp[l1,l2]
 ·rintro σ hh ⟨rfl,rfl⟩;have C:=qai n hh k (by lia);have it:gE "seq" [.f (.lst ((qj k).map Za))] hh=some ((qj k).map λc=>MV.f (Za c),[]):=by
   have q:qb hh (.f (.lst ((qj k).map Za)))=some ((qj k).map λc=>MV.f (Za c)):=by simp[Xc]
   have g:Qb hh (.f (.lst ((qj k).map Za)))=[]:=rfl;simp only[Yp,q,vf,g]
  have sz:(qj k).length<=aC:=by rw[Jy,Zc];have:4^k<=4^6:=ul (by lia) (by lia);lia
  have lv:=yU hh (((qj k).filter λc=>decide (c.1<H)&&decide (c.2<W)).map Za);generalize (((2^k:Nat):Int))=b at *;generalize kM:FV.lst ((qj k).map Za)=cl at *;simp[C,it,MP.stM];rw[yQ (Yt _) (λσ=>∃ z0 z1,σ=[z0,z1,some (I H),some (I W)]) (e:=λc=>MV.f (Za c)) (g:=λc=>MV.f (Za c)) (t:=λc=>decide (c.1<H)&&decide (c.2<W)) (qj k) [] _ ⟨none,none,rfl⟩ (by simpa using sz) (by
   rintro c n6 σ ⟨z0,z1,rfl⟩;refine⟨[some (I c.1),some (I c.2),some (I H),some (I W)],?_,_,_,rfl⟩;by_cases q1:c.1<H
   ·by_cases q2:c.2<W
    ·simp[Qi,q1,q2]
    ·simp[Qi,q1,q2]
   ·simp[Qi,q1])]
  have e2:((qj k).filter λc=>decide (c.1<H)&&decide (c.2<W)).map (λc=>MV.f (Za c))=(((qj k).filter λc=>decide (c.1<H)&&decide (c.2<W)).map Za).map MV.f:=by simp[Xc]
  rw[Xe,R.ay,e2];generalize (((qj k).filter λc=>decide (c.1<H)&&decide (c.2<W)).map Za).map MV.f=M at *;simp[lv];exact hQ _ _ ⟨rfl,rfl⟩
end
end MP
end
section
namespace MP
open PySem
theorem LZ(aj:List Int)(w:Int)(h0:aj.getD 0 0<=w):∀ n,n+1<=aj.length->w<=aj.getD n 0->(∃ k,k+1<=n/\aj.getD k 0<=w/\w<=aj.getD (k+1) 0)\/w=aj.getD 0 0
 |0,_,h=>.inr (by lia)
 |n+1,hn,h=>by
  by_cases c:aj.getD n 0<=w
  ·exact .inl ⟨n,by lia,c,h⟩
  ·rcases LZ aj w h0 n (by lia) (by lia) with ⟨k,h1,h2,h3⟩|e
   ·exact .inl ⟨k,by lia,h2,h3⟩
   ·exact .inr e
end MP
end
section
namespace MP
open PySem
theorem Zm{α β:Type}{f:α->β}:∀{l:List α},(∀ a∈l,∀ b∈l,f a=f b->a=b)->l.Nodup->(l.map f).Nodup
 |[],_,_=>by simp
 |a::l,h,n=>by
  rw[Xk] at n;rw[xb,Xk];refine⟨λm=>?_,Zm (λx hx y hy=>h x (by simp[hx]) y (by simp[hy])) n.2⟩;obtain⟨b,hb,e⟩:=ud.mp m;have:=h b (by simp[hb]) a (by simp) e;exact n.1 (this ▸ hb)
theorem YR(H W:Nat)(hW:1<=W):(yi H W).Nodup:=by
 rw[<- ybz H W hW];refine Zm (λa _ b _ e=>?_) List.nodup_range;simp only[kr.injEq] at e;have h1:=Up a W;have h2:=Up b W;rw[e.1,e.2] at h1
 lia
theorem Ybu(H W:Nat)(hW:1<=W):(ZP H W).Nodup:=by
 rw[<- zbX H W];refine Zm (λa ha b hb e=>?_) (YR H W hW);have h1:=Dh ha;have h2:=Dh hb;obtain⟨a1,a2⟩:=a;obtain⟨b1,b2⟩:=b;simp only[kr.injEq] at e h1 h2 ⊢;obtain⟨rfl,e⟩:=e;refine⟨rfl,?_⟩;split at e <;> lia
theorem Zbv(H W:Nat)(hH:1<=H):(yR H W).Nodup:=by
 unfold yR;refine Zm (λa _ b _ e=>?_) (YR W H hH);simp only[kr.injEq] at e;exact Uz e.2 e.1
theorem Pj:∀ k,(qj k).Nodup
 |0=>by simp[qj]
 |k+1=>by
  have ih:=Pj k;have gZ:=Jv k;have q:0<2^k:=Kr k;simp only[qj,pL];generalize 2^k=m at *;generalize qj k=cs at *;have n1:(cs.map λc=>(c.2,c.1)).Nodup:=Zm (λa _ b _ e=>by simp only[kr.injEq] at e;exact Uz e.2 e.1) ih;have n2:(cs.map λc=>(m+c.1,c.2)).Nodup:=Zm (λa _ b _ e=>by simp only[kr.injEq] at e;exact Uz (by lia) e.2) ih;have n3:(cs.map λc=>(m+c.1,m+c.2)).Nodup:=Zm (λa _ b _ e=>by simp only[kr.injEq] at e;exact Uz (by lia) (by lia)) ih;have n4:(cs.map λc=>(m-1-c.2,2*m-1-c.1)).Nodup:=Zm (λa ha b hb e=>by
   have h1:=gZ a ha;have h2:=gZ b hb;simp only[kr.injEq] at e;exact Uz (by lia) (by lia)) ih
  refine Vl.mpr ⟨Vl.mpr ⟨Vl.mpr ⟨n1,n2,?_⟩,n3,?_⟩,n4,?_⟩
  ·intro x hx y hy e;obtain⟨a,ha,rfl⟩:=ud.mp hx;obtain⟨b,hb,rfl⟩:=ud.mp hy;have h1:=gZ a ha;simp only[kr.injEq] at e
   lia
  ·intro x hx y hy e;obtain⟨b,hb,rfl⟩:=ud.mp hy;have h2:=gZ b hb
   rcases Xf.mp hx with hx|hx
   ·obtain⟨a,ha,rfl⟩:=ud.mp hx;have h1:=gZ a ha;simp only[kr.injEq] at e
    lia
   ·obtain⟨a,ha,rfl⟩:=ud.mp hx;have h1:=gZ a ha;simp only[kr.injEq] at e
    lia
  ·intro x hx y hy e;obtain⟨b,hb,rfl⟩:=ud.mp hy;have h2:=gZ b hb
   rcases Xf.mp hx with hx|hx
   ·rcases Xf.mp hx with hx|hx
    ·obtain⟨a,ha,rfl⟩:=ud.mp hx;have h1:=gZ a ha;simp only[kr.injEq] at e
     lia
    ·obtain⟨a,ha,rfl⟩:=ud.mp hx;have h1:=gZ a ha;simp only[kr.injEq] at e
     lia
   ·obtain⟨a,ha,rfl⟩:=ud.mp hx;have h1:=gZ a ha;simp only[kr.injEq] at e
    lia
noncomputable def zp:List Int->Int
 |[]=>0
 |s::sh=>(s::sh).sum+zp sh
noncomputable def kX:List Int->List Int->Int
 |[],_=>0
 |_::_,[]=>0
 |s::sh,l::L=>l*(s::sh).sum+kX sh L
theorem En(sh):kX sh []=0:=by cases sh <;> rfl
theorem PQ:∀(sh L:List Int),kX sh.tail L=kX sh L-Yk sh L
 |[],L=>by simp[kX,Yk]
 |s::sh,[]=>by rw[En,En];simp[Yk]
 |s::sh,l::L=>by
  have ih:=PQ sh L;have e:Yk (s::sh) (l::L)=s*l+Yk sh L:=by simp[Yk]
  rw[Jn,e];cases sh with
  |nil=>simp[kX,Yk,Wr]
  |cons s' wR =>
   rw[Jn] at ih;show l*(s'::wR).sum+kX wR L=l*(s::s'::wR).sum+kX (s'::wR) L-(s*l+Yk (s'::wR) L);rw[Um (a:=s),Xw,ih,Wr s l]
   lia
theorem Yb9  (hs:sh≠[])(l)(L):kX sh (l::L)=l*sh.sum+(kX sh L-Yk sh L):=by
 rw[<- PQ];cases sh with
 |nil=>exact absurd rfl hs
 |cons s sh=>rfl
theorem GG:∀(sh:List Int),(∀ x∈sh,0<=x)->0<=zp sh
 |[],_=>by simp[zp]
 |s::sh,h=>by
  have:=Y3 _ h;have:=GG sh λx hx=>h x (by simp[hx]);simp only[zp];lia
theorem P4  (h0:0<=hf):∀(sh L:List Int),(∀ x∈sh,0<=x)->(∀ l∈L,-hf<=l/\l<=hf)->-(hf*zp sh)<=kX sh L/\kX sh L<=hf*zp sh
 |[],L,_,_=>by simp[kX,zp]
 |s::sh,[],hs,_=>by
  have:=Int.mul_nonneg h0 (GG _ hs);rw[En];lia
 |s::sh,l::L,hs,hl=>by
  have ih:=P4 h0 sh L (λx hx=>hs x (by simp[hx])) (λx hx=>hl x (by simp[hx]));have h1:=hl l (by simp);have h2:=Y3 _ hs;have e1:l*(s::sh).sum<=hf*(s::sh).sum:=Uy h1.2 h2;have e2:-hf*(s::sh).sum<=l*(s::sh).sum:=Uy h1.1 h2;have e3:hf*zp (s::sh)=hf*(s::sh).sum+hf*zp sh:=by simp only[zp];rw[Xw]
  have e4:-hf*(s::sh).sum=-(hf*(s::sh).sum):=uH ..;have e5:kX (s::sh) (l::L)=l*(s::sh).sum+kX sh L:=rfl
  lia
noncomputable def Zp(f:Int×Int->Int)(es:List Ent):Int:=(es.map λe=>f e.p-e.eg).sum
theorem ZbW  (s:jP sh)(n0)(ns)(f:Int×Int->Int)(ps):sh.sum*Zp f (Yb sh n0 ns f ps)=kX sh ((Yb sh n0 ns f ps).map (·.left)).reverse+qv (Yb sh n0 ns f ps):=by
 have jV:sh≠[]:=by rintro rfl;have:=s.one;simp at this
 refine YD (P:=λps=>sh.sum*Zp f (Yb sh n0 ns f ps)=kX sh ((Yb sh n0 ns f ps).map (·.left)).reverse+qv (Yb sh n0 ns f ps)) (by simp[Yb,Zp,En,qv]) (λl a ih=>?_) ps;rw[zo];generalize Yb sh n0 ns f l=es at *;have e1:Zp f (es++[hX sh n0 ns (f a) es a])=Zp f es+(f a-(hX sh n0 ns (f a) es a).eg):=by simp[Zp,hX]
 have e2:((es++[hX sh n0 ns (f a) es a]).map (·.left)).reverse=(hX sh n0 ns (f a) es a).left::(es.map (·.left)).reverse:=by simp
 rw[e1,e2,qK,Yb9 jV];have e3:f a-(hX sh n0 ns (f a) es a).eg=(hX sh n0 ns (f a) es a).left-(hX sh n0 ns (f a) es a).got:=by simp only[hX];lia
 have e4:sh.sum*(hX sh n0 ns (f a) es a).got+(hX sh n0 ns (f a) es a).odd=qv es+Yk sh (es.map (·.left)).reverse:=by
  show sh.sum*(Qk sh es/sh.sum)+Qk sh es%sh.sum=Qk sh es;exact Int.mul_ediv_add_emod ..
 rw[e3];generalize (hX sh n0 ns (f a) es a).left=lf at *;generalize (hX sh n0 ns (f a) es a).got=gt at *;generalize (hX sh n0 ns (f a) es a).odd=od at *;generalize Yk sh (es.map (·.left)).reverse=du at *;generalize kX sh (es.map (·.left)).reverse=ph at *;generalize Zp f es=ap at *;have e5:sh.sum*(ap+(lf-gt))=sh.sum*ap+lf*sh.sum-sh.sum*gt:=by rw[Xw,Int.mul_sub,Wr sh.sum lf];lia
 lia
theorem i5.AI        (h0:0<=hf)(s:jP sh)(w:i5 hf sh es)(z:(0:Int)∈n0::ns)(m:most∈n0::ns)(f0:(n0::ns).getD 0 0=0)(fm:(n0::ns).getD ((n0::ns).length-1) 0=most)
  (gp:∀ k,k+1<(n0::ns).length->(n0::ns).getD (k+1) 0-(n0::ns).getD k 0<=2*hf+1) (hx:0<=x/\x<=most):i5 hf sh (es++[hX sh n0 ns x es p]):=by
 have g:=Js h0 s w;refine⟨λe he=>?_,?_⟩
 ·rcases Xf.mp he with he|he
  ·exact w.l e he
  ·rw[vc.mp he];show -hf<=x+Qk sh es/sh.sum-Yj (x+Qk sh es/sh.sum) n0 ns/\x+Qk sh es/sh.sum-Yj (x+Qk sh es/sh.sum) n0 ns<=hf;generalize Qk sh es/sh.sum=qq at *;have bl:=λy hy=>EK (x+qq) ns n0 y hy;have b0:=bl 0 z;have b1:=bl most m;generalize hw:x+qq=want at *;by_cases c:0<=want/\want<=most
   ·rcases LZ (n0::ns) want (by lia) ((n0::ns).length-1) (by simp) (by lia) with ⟨k,k1,k2,k3⟩|e
    ·have i1:(n0::ns).getD k 0∈n0::ns:=by
      have hk:k<(n0::ns).length:=by lia
      rw[Uf,va hk];exact vk hk
     have i2:(n0::ns).getD (k+1) 0∈n0::ns:=by
      have hk:k+1<(n0::ns).length:=by lia
      rw[Uf,va hk];exact vk hk
     have c1:=bl _ i1;have c2:=bl _ i2;have c3:=gp k (by lia);generalize (n0::ns).getD k 0=u at *;generalize (n0::ns).getD (k+1) 0=y at *;generalize Yj want n0 ns=q at *;unfold kE at c1 c2;split at c1 <;> split at c1 <;> split at c2 <;> lia
    ·generalize Yj want n0 ns=q at *;unfold kE at b0;split at b0 <;> split at b0 <;> lia
   ·generalize Yj want n0 ns=q at *;unfold kE at b0 b1;split at b0 <;> split at b0 <;> split at b1 <;> lia
 ·rw[qK];have h3:=s.one;exact⟨Ws _ (by lia),Vo _ (by lia)⟩
theorem i5.IS      (h0:0<=hf)(s:jP sh)(z:(0:Int)∈n0::ns)(m:most∈n0::ns)(f0:(n0::ns).getD 0 0=0)(fm:(n0::ns).getD ((n0::ns).length-1) 0=most)
  (gp:∀ k,k+1<(n0::ns).length->(n0::ns).getD (k+1) 0-(n0::ns).getD k 0<=2*hf+1) (ps) (hx:∀ p∈ps,0<=f p/\f p<=most):i5 hf sh (Yb sh n0 ns f ps):=by
 revert hx
 refine YD (P:=λps=>(∀ p∈ps,0<=f p/\f p<=most)->i5 hf sh (Yb sh n0 ns f ps)) (λ_=>i5.nil s) (λl a ih hx=>?_) ps;rw[zo];exact i5.AI h0 s (ih λp hp=>hx p (by simp[hp])) z m f0 fm gp (hx a (by simp))
theorem qb3   (h0:0<=hf)(s:jP sh)(n0)(ns)(f:Int×Int->Int)(ps)(w:i5 hf sh (Yb sh n0 ns f ps)) :
  -((hf*zp sh+sh.sum-1)/sh.sum)<=Zp f (Yb sh n0 ns f ps)/\Zp f (Yb sh n0 ns f ps)<=(hf*zp sh+sh.sum-1)/sh.sum:=by
 have e:=ZbW s n0 ns f ps;have p:=P4 h0 sh ((Yb sh n0 ns f ps).map (·.left)).reverse (λx hx=>(s.nn x hx).1) (λl hl=>by
  obtain⟨e,he,rfl⟩:=ud.mp (xx.mp hl);exact w.l e he)
 have o:=w.o;have h1:=s.one;generalize Zp f (Yb sh n0 ns f ps)=ap at *;generalize kX sh ((Yb sh n0 ns f ps).map (·.left)).reverse=ph at *;generalize qv (Yb sh n0 ns f ps)=od at *;generalize hf*zp sh=hz at *;have k1:-ap<=(hz+sh.sum-1)/sh.sum:=by
  rw[xw (by lia)];have:-ap*sh.sum=-(sh.sum*ap):=by rw[uH,Wr]
  lia
 have k2:ap<=(hz+sh.sum-1)/sh.sum:=by
  rw[xw (by lia)];have:ap*sh.sum=sh.sum*ap:=Wr ..
  lia
 lia
noncomputable def sW(k:Int):List Int->Int
 |[]=>0
 |s::sh=>(k+1)*s+sW (k+1) sh
theorem Gr:∀(sh:List Int)(k:Int),sW k sh=k*sh.sum+zp sh
 |[],k=>by simp[sW,zp]
 |s::sh,k=>by
  have ih:=Gr sh (k+1);simp only[sW,zp,ih,Um,Wu,Xw]
  lia
theorem E8:∀(sh:List Int)(k:Nat),((sh.zipIdx k).map λp=>((p.2:Int)+1)*p.1).sum=sW (k:Int) sh
 |[],k=>by simp[sW]
 |s::sh,k=>by
  have ih:=E8 sh (k+1);push_cast at ih;simp only[Vw,xb,Um,sW,ih]
theorem OM  (s:jP sh):0<=zp sh/\zp sh<2^120:=by
 refine⟨GG sh λx hx=>(s.nn x hx).1,?_⟩;have key:∀ l:List Int,(∀ x∈l,0<=x/\x<2^100)->l.sum<=l.length*2^100/\zp l<=l.length*(l.length*2^100):=by
  intro l
  induction l with
  |nil=>simp[zp]
  |cons x l ih =>
   intro h;have h1:=h x (by simp);obtain⟨h2,h3⟩:=ih λy hy=>h y (by simp[hy]);have e1:(x::l).sum=x+l.sum:=Um;have e2:((l.length+1:Nat):Int)=(l.length:Int)+1:=by lia
   simp only[zp,Uc];rw[e2];generalize (l.length:Int)=n at *;have hn:(n+1)*((n+1)*2^100)=n*(n*2^100)+2*(n*2^100)+2^100:=by
    rw[Wu,Wu n 1,UH,UH,Xw];lia
   have Hw:(n+1)*2^100=n*2^100+2^100:=by rw[Wu,UH]
   have hsum:0<=l.sum:=Y3 l λy hy=>(h y (by simp[hy])).1;have hnn:0<=n*2^100:=by lia
   refine⟨by lia,by lia⟩
 have h1:=(key sh s.nn).2;have h2:=s.len;have h3:(sh.length:Int)*((sh.length:Int)*2^100)<=10*(10*2^100):=by
  have a1:(sh.length:Int)<=10:=by lia
  have a0:(0:Int)<=sh.length:=by lia
  exact Int.mul_le_mul a1 (by lia) (by lia) (by lia)
 lia
end MP
end
section
namespace MP
open PySem
noncomputable def CZ(c:String):Prop:=c="Way"\/c="FroWay"\/c="ColumnWay"\/c="FoldedWay"
noncomputable def Yr(w:FV)(ks:List (Int×Int)):FV:=.obj "MaskedWay" ["way","mask"] [w,.cY ks]
section
variable (n:Nat) (h:MH)
theorem YbL  (hc:CZ c):prog.subs c "MaskedWay"=some false:=by
 rcases hc with rfl|rfl|rfl|rfl <;> rfl
theorem qar(c)(hc:CZ c)(ks):run prog (n+1) "ways_within" [.f (Yr (Yi c) ks)] h=.ok (.f (.lst [Yr (Yi c) ks,Yi c])) h:=by
 refine dA.eq λQ hQ=>?_;have i1:∀ hh,yT prog.subs hh (.f (Yr (Yi c) ks)) "MaskedWay"=some true:=λhh=>rfl;have i2:∀ hh,yT prog.subs hh (.f (Yi c)) "MaskedWay"=some false:=λhh=>YbL hc;have f1:∀ hh,mM prog.iZ "way" (.f (Yr (Yi c) ks)) hh=some (.f (Yi c)):=λhh=>by simp[mM,Yr]
 have F:=EI h [] [Yr (Yi c) ks,Yi c];generalize hmv:Yr (Yi c) ks=mv at *;generalize hwv:Yi c=wv at *;have cl:∀ M,Qc (h++[.lst M]) h.length=some M:=λM=>zi h [] M;have st:∀ M ys,Ye (h++[.lst M]) h.length ys=h++[.lst ys]:=λM ys=>Zq h [] M ys;have a1:dy [MV.f mv] (-1)=some (.f mv):=rfl;have a2:dy [MV.f mv,MV.f wv] (-1)=some (.f wv):=rfl;rw[Qar];simp only[cb];simp;refine zR (Q:=λr=>dA (yb _ r) _) 1 (λi σ hh=>σ=[some (.f mv),some (.ref h.length)]/\hh=h++[.lst (if i=0 then[.f mv] else[.f mv,.f wv])]) (by show 1<1000000;lia) ⟨rfl,by simp⟩ ?_ ?_ ?_
 ·rintro i σ hh hi ⟨rfl,rfl⟩;obtain rfl:i=0:=by lia
  refine⟨by simp[cl,a1,i1],λQ hQ=>?_⟩;simp[cl,a1,f1,st,Zc];exact hQ _ _ ⟨rfl,by simp⟩
 ·rintro σ hh ⟨rfl,rfl⟩;simp[cl,a2,i2]
 ·rintro σ hh ⟨rfl,rfl⟩;obtain⟨t',F⟩:=F;have lv:=YF h t' (.lst [mv,wv]);simp at F;simp[F,lv];exact hQ _ _ ⟨rfl,rfl⟩
theorem Yaw(c f:String)(hc:CZ c)(mo:prog.meths c "order"=some f)(H W:Nat)(cs:List (Nat×Nat))(hl:cs.length<=100000)(O:∀ n h,run prog (n+4) f [.f (Yi c),I H,I W] h=.ok (.ref h.length) (h++[.lst ((cs.map Za).map .f)]))
  (ks:List (Int×Int)) (sm:ks.all qS=true) (nd:ks.Nodup):run prog (n+5) "MaskedWay.order" [.f (Yr (Yi c) ks),I H,I W] h=.ok (.ref h.length) (h++[.lst (((cs.filter λc=>decide (cZ c∉ks)).map Za).map .f)]):=by
 refine dA.eq λQ hQ=>?_;have WW:=qar (n+3) h c hc ks;have f1:∀ hh,mM prog.iZ "mask" (.f (Yr (Yi c) ks)) hh=some (.f (.cY ks)):=λhh=>by simp[mM,Yr]
 have cm:∀ hh,nh "order" (.f (Yi c)) hh=some c:=λhh=>by simp[nh,Yi]
 generalize Yr (Yi c) ks=mv at *;generalize Yi c=wv at *;have sl:∀ hh,yA true (.f (.lst [mv,wv])) none (some (-1)) hh=.ok (.f (.lst [mv])) hh:=λhh=>rfl;have a2:dy [MV.f mv,MV.f wv] (-1)=some (.f wv):=rfl;have c0:QP (h++[.cY []]) (.ref h.length)=some []:=by simp[QP]
 have up:El (.ref h.length) (.f (.cY ks)) (h++[.cY []])=.ok (.f .bG) (h++[.cY ks]):=by
  simp only[El,c0,zc];rw[if_pos (by refine⟨?_,sm,nd⟩;simp)]
  congr 1
  by_cases z:ks=[]
  ·subst z;simp
  ·simp[z]
 have O1:=O n (h++[Cell.cY ks]);obtain⟨t',F⟩:=EI (h++[Cell.cY ks]) [] (cs.map Za);have it:∀ hh,gE "seq" [.f (.lst (cs.map Za))] hh=some (cs.map λc=>MV.f (Za c),[]):=λhh=>by
  have q:qb hh (.f (.lst (cs.map Za)))=some (cs.map λc=>MV.f (Za c)):=by simp[Xc]
  have g:Qb hh (.f (.lst (cs.map Za)))=[]:=rfl;simp only[Yp,q,vf,g]
 have cM:QP ((h++[Cell.cY ks])++t') (.ref h.length)=some ks:=by simp[QP]
 have sz:cs.length<=aC:=by rw[Zc];lia
 have lv:qg h (.ref ((h++[Cell.cY ks])++t').length) (((h++[Cell.cY ks])++t')++[.lst (((cs.filter λc=>decide (cZ c∉ks)).map Za).map .f)])=.ok (.ref h.length) (h++[.lst (((cs.filter λc=>decide (cZ c∉ks)).map Za).map .f)]):=by
  have cl:=zi ((h++[Cell.cY ks])++t') [] (((cs.filter λc=>decide (cZ c∉ks)).map Za).map MV.f);have tr:bK h (((h++[Cell.cY ks])++t')++[.lst (((cs.filter λc=>decide (cZ c∉ks)).map Za).map MV.f)]):=by rw[uh,uh];exact bK.app h _
  have ef:=ZL ((cs.filter λc=>decide (cZ c∉ks)).map Za);generalize ((cs.filter λc=>decide (cZ c∉ks)).map Za).map MV.f=M at *;have tk:(((h++[Cell.cY ks])++t')++[Cell.lst M]).take h.length=h:=by rw[uh,uh,Xv];rfl
  unfold qg;rw[if_pos tr];simp only;rw[if_pos (by simp),cl];simp only[ef,tk]
 generalize kM:FV.lst (cs.map Za)=cl at *;have s1:∀ hh,gE "seq" [.f (.lst [mv])] hh=some ([.f mv],[]):=λhh=>rfl;rw[zZ];simp only[bx];simp at O1 F cM lv;simp[WW,sl,s1,zJ,Qm,f1,c0,up,a2,cm,mo,O1,F,it,MP.stM];have tS:∀ c:Nat×Nat,uR (.f (Za c)) (.ref h.length) (h++Cell.cY ks::t')=.ok (.f (.bl (decide (cZ c∉ks)))) (h++Cell.cY ks::t'):=λc=>by
  have e:vI (.f (Za c))=some (cZ c):=rfl;simp only[uR,e,cM,zc]
 rw[M9 (Yt _) (e:=λc=>MV.f (Za c)) (g:=λc=>MV.f (Za c)) (t:=λc=>decide (cZ c∉ks)) (caps:=[some (.ref h.length)]) cs [] none (by simpa using sz) (λc _ z=>⟨some (.f (Za c)),by
  have nc:=tS c;generalize Za c=cn at nc;by_cases q:cZ c∈ks
  ·simp[q] at nc;simp[Qi,nc,q]
  ·simp[q] at nc;simp[Qi,nc,q]⟩)]
 have e2:(cs.filter λc=>decide (cZ c∉ks)).map (λc=>MV.f (Za c))=((cs.filter λc=>decide (cZ c∉ks)).map Za).map MV.f:=by simp[Xc]
 rw[Xe,R.ay,e2];simp at hQ ⊢;rw[lv];simpa using hQ
theorem yaM(w:FV)(ms:List (Nat×Nat))(hl:ms.length<=1000):run prog (n+1) "MaskedWay.__init__" [.ref h.length,.f w,.f (.lst (ms.map Za))] (h++[.obj "MaskedWay" []]) =
  .ok (.f .bG) (h++[.obj "MaskedWay" [("way",.f w),("mask",.f (.cY ((ms.map cZ).foldl qz [])))]]):=by
 have it:∀ hh,gE "seq" [.f (.lst (ms.map Za))] hh=some (ms.map λc=>MV.f (Za c),[]):=λhh=>by
  have q:qb hh (.f (.lst (ms.map Za)))=some (ms.map λc=>MV.f (Za c)):=by simp[Xc]
  have g:Qb hh (.f (.lst (ms.map Za)))=[]:=rfl;simp only[Yp,q,vf,g]
 have sz:ms.length<=aC:=by rw[Zc];lia
 have mm:∀ l:List (Nat×Nat),(l.map λc=>MV.f (.tup [Za c,.bl true])).mapM tM=some (l.map cZ):=by
  intro l
  induction l with
  |nil=>rfl
  |cons c l ih =>
   have e:tM (MV.f (.tup [Za c,.bl true]))=some (cZ c):=rfl;rw[xb,Xq,e,ih];rfl
 have mo:∀ g:MH,Ew (.ref g.length) (g++[.lst (ms.map λc=>MV.f (.tup [Za c,.bl true]))])=.ok (.f (.cY ((ms.map cZ).foldl qz []))) (g++[.lst (ms.map λc=>MV.f (.tup [Za c,.bl true]))]):=λg=>by
  have cl:=zi g [] (ms.map λc=>MV.f (.tup [Za c,.bl true]));simp only[Ew,cl,zc,mm];rw[if_pos (by rw[Wc];lia)]
 have t:=bK.obj h "MaskedWay" [("way",w),("mask",.cY ((ms.map cZ).foldl qz []))] [.lst (ms.map λc=>MV.f (.tup [Za c,.bl true]))];have m1:=mo (h++[.obj "MaskedWay" [("way",.f w)]]);generalize (ms.map cZ).foldl qz []=ks at *;generalize kM:FV.lst (ms.map Za)=cl at *;rw[zM];simp only[aY];simp[it,MP.stM];rw[qw (e:=λc=>MV.f (Za c)) (g:=λc=>MV.f (.tup [Za c,.bl true])) ms [] none (by simpa using sz) (λc _ z=>⟨some (.f (Za c)),by simp[Qi,yg,Zk]⟩)];simp only[Xe,R.ay,YN];generalize (ms.map λc=>MV.f (.tup [Za c,.bl true]))=M at *;have tk:∀(a b:Cell),(h++[a,b]).take (h.length+1)=h++[a]:=λa b=>by rw[show h++[a,b]=(h++[a])++[b] by simp,Xv (by simp)]
 simp at m1 t;simp[m1,qg,t,tk]
theorem OH(w:FV)(ms:List (Nat×Nat))(hl:ms.length<=1000):qJ prog (run prog (n+1)) true "MaskedWay" [.f w,.f (.lst (ms.map Za))] h=.ok (.f (Yr w ((ms.map cZ).foldl qz []))) h:=by
 have R:=yaM n h w ms hl;generalize (ms.map cZ).foldl qz []=ks at *;generalize FV.lst (ms.map Za)=cl at *;simp[qJ,R,bK.app,Yr,Zk]
end
theorem qZ:∀{l m:List (Nat×Nat)},l.Nodup->l ⊆ m->l.length<=m.length
 |[],m,_,_=>by simp
 |a::l,m,nd,hs=>by
  rw[Xk] at nd;have ha:a∈m:=hs xg;have ih:=qZ (m:=m.erase a) nd.2 λx hx=>(List.mem_erase_of_ne λe=>nd.1 (by rw[<- e];exact hx)).mpr (hs (Ve _ hx));rw[List.length_erase_of_mem ha] at ih;have:=WD ha;simp only[Uc];lia
theorem zbZ(H W:Nat)(p:Nat×Nat)(h:p.1<H/\p.2<W):p∈yi H W:=by
 obtain⟨a,b⟩:=p;simp[yi];exact h
section
variable (H W:Nat) (h1:1<=H) (h2:1<=W) (l0:H*W<=100) (hH:H<=64) (hW:W<=64)
include h1 h2 l0 hH hW
noncomputable def c7(c:String)(H W:Nat)(cs:List (Nat×Nat)):Prop:=CZ c/\∃ f,prog.meths c "order"=some f/\(∀ n h,run prog (n+4) f [.f (Yi c),I H,I W] h=.ok (.ref h.length) (h++[.lst ((cs.map Za).map .f)]))/\(∀ p∈cs,p.1<H/\p.2<W)/\cs.length<=300/\cs.Nodup
theorem YbD:c7 "Way" H W (yi H W):=⟨.inl rfl,"Way.order",rfl,λn h=>ZaC (n+2) h _ H W h1 h2 (by lia) (by lia) (by lia),λp hp=>Dh hp,by rw[zD];lia,YR H W h2⟩
theorem ybP:c7 "FroWay" H W (ZP H W):=⟨.inr (.inl rfl),"FroWay.order",rfl,λn h=>ZaR (n+2) h _ H W h1 h2 (by lia) (by lia) (by lia),λp hp=>zcw hp,by rw[O2];lia,Ybu H W h2⟩
theorem QbV:c7 "ColumnWay" H W (yR H W):=⟨.inr (.inr (.inl rfl)),"ColumnWay.order",rfl,λn h=>YaP (n+2) h _ H W h1 h2 (by lia) (by lia) (by lia),λp hp=>zct hp,by rw[zcd];lia,Zbv H W h1⟩
theorem ybA:∃ cs,c7 "FoldedWay" H W cs:=by
 obtain⟨k,hk,O⟩:=yaz (.f (Yi "FoldedWay")) H W h1 h2 6 (by decide) hH hW;have gZ:∀ p∈(qj k).filter λc=>decide (c.1<H)&&decide (c.2<W),p.1<H/\p.2<W:=λp hp=>by
  have:=(ux.mp hp).2;simpa using this
 have nd:=(Pj k).filter λc=>decide (c.1<H)&&decide (c.2<W);refine⟨_,.inr (.inr (.inr rfl)),"FoldedWay.order",rfl,λn h=>O (n+1) h,gZ,?_,nd⟩;have:=qZ nd λp hp=>zbZ H W p (gZ p hp);rw[zD] at this
 lia
end
theorem c7.Fj    (p:c7 c H W cs):Ct (Yi c) H W cs:=by
 obtain⟨_,f,mo,O,_⟩:=p;exact⟨c,[],[],f,rfl,by simp,mo,λn h=>O (n+2) h⟩
theorem c7.AL    (p:c7 c H W cs)(ks)(sm:ks.all qS=true)(nd:ks.Nodup):Ct (Yr (Yi c) ks) H W (cs.filter λc=>decide (cZ c∉ks)):=by
 obtain⟨pc,f,mo,O,_,hl,_⟩:=p;exact⟨"MaskedWay",_,_,"MaskedWay.order",rfl,by simp,rfl,λn h=>Yaw (n+1) h c f pc mo H W cs (by lia) O ks sm nd⟩
end MP
end
section
namespace MP
open PySem
noncomputable def yh(aj:List Int):List Int:=(uc (aj.length-1)).map λk=>aj.getD (k+1) 0-aj.getD k 0
noncomputable def rF(sh:List Int)(hf:Int):Int:=(hf*zp sh+sh.sum-1)/sh.sum
section
variable (n:Nat) (h:MH)
theorem KS(l):((l.take (l.length-1)).zip (l.drop 1)).map (λp=>p.2-p.1)=yh l:=by
 unfold yh;apply Vg;intro i;rw[Wb,Wb];by_cases hi:i<l.length-1
 ·rw[Xo hi];have e1:((l.take (l.length-1)).zip (l.drop 1))[i]?=some (l.getD i 0,l.getD (i+1) 0):=by
   rw[xv];refine⟨?_,?_⟩
   ·rw[uk hi,va (by lia)];simp[Xi,show i<l.length by lia]
   ·rw[Ur,va (by lia)];simp[Xi,show i+1<l.length by lia,Nat.add_comm]
  rw[e1];rfl
 ·rw[Xh (by simp;lia),Xh (by simp;lia)];rfl
theorem ya2(b)(iv)(sh aj)(most)(V2:bY h iv aj)(s:jP sh)(K:iy most aj)(hm:1<=most)(hb:0<=Qy (yh aj)/2/\Qy (yh aj)/2<2^110) :
  run prog (n+2) "bound_of" [.f (Ya b sh),iv] h=.ok (I (rF sh (Qy (yh aj)/2))) h:=by
 have V:bY h (.f (Ya b sh)) sh:=bY.row _ _ _;have A:=YO n h _ sh V s.one (λx hx=>(s.nn x hx).1);have B1:=qR n h most iv aj V2 K hm;have h2:=K.two hm;have hsz:=K.sz;obtain⟨b1,s1⟩:=V2.slice (OG aj (by lia));obtain⟨b2,s2⟩:=V2.slice (JK aj (by lia));have qr:∀ b r,qb h (.f (Ya b r))=some (r.map (MV.f∘FV.int)):=λb r=>by simp[Ya]
 have g1:∀ b r,Qb h (.f (Ya b r))=[]:=λb r=>by simp[Ya]
 have zg:=KS aj;have q:=V.q;have ne:yh aj≠[]:=by
  intro e;have:=congrArg wu e;simp[yh] at this
  lia
 have mx:=JJ true h (.f (Ya false (yh aj))) (yh aj) (by simp[Ya]) ne;have GW:gE "zip" [.f (Ya b1 (aj.take (aj.length-1))),.f (Ya b2 (aj.drop 1))] h=some (((aj.take (aj.length-1)).zip (aj.drop 1)).map (λp:Int×Int=>MV.f (.tup [.int p.1,.int p.2])),[]):=by
  have e:=GD FV.int FV.int (aj.take (aj.length-1)) (aj.drop 1);simp only[Fg,qr,g1,xh,vf,xk];rw[e]
 have ite:=LW b sh h;have w0:=s.one;have ws:=yW s;have zs:=OM s;have hl:=s.len;have sw:(sh.zipIdx.map λp=>((p.2+1:Nat):Int)*p.1).sum=zp sh:=by
  have:=E8 sh 0;rw[Gr] at this;have e:(sh.zipIdx.map λp:Int×Nat=>((p.2+1:Nat):Int)*p.1)=sh.zipIdx.map λp=>((p.2:Int)+1)*p.1:=by
   congr 1
  rw[e,this];show((0:Nat):Int)*sh.sum+zp sh=zp sh;simp
 have ss:zq true "sum" [.f (Ya b sh)] h=.ok (I sh.sum) h:=by
  simp only[zv,zL,EJ,Yw,yV,YV,yX,Di,YU,YW,q,xh,ql,zc]
 have sz:∀ l:List Int,zq true "sum" [.f (Ya false l)] h=.ok (I l.sum) h:=λl=>by
  simp only[zv,zL,EJ,Yw,yV,YV,yX,Di,YU,YW,qr,xh,ql,zc]
 have d2:∀ x hh,ye true .fdiv (I x) (I 2) hh=.ok (I (x/2)) hh:=λx hh=>zm _ _ _ ⟨by decide,.inl (by decide)⟩;have mu:zB (Qy (yh aj)/2) (zp sh):=.inr (.inr ⟨yp (by lia) (by lia),yp (by lia) (by lia)⟩);have c1:∀ hh,ye true .mul (I (Qy (yh aj)/2)) (I (zp sh)) hh=.ok (I (Qy (yh aj)/2*zp sh)) hh:=λhh=>zr _ _ _ mu;have c2:∀ y hh,ye true .fdiv (I y) (I sh.sum) hh=.ok (I (y/sh.sum)) hh:=λy hh=>zm _ _ _ ⟨by lia,.inr (yp (by lia) (by lia))⟩;have EW:((aj.take (aj.length-1)).zip (aj.drop 1)).length<=aC:=by simp[Zc];lia
 have nz:Qr true (((aj.take (aj.length-1)).zip (aj.drop 1)).map λp=>I (p.2-p.1)) h=.ok (.f (Ya false (yh aj))) h:=by
  have e:(((aj.take (aj.length-1)).zip (aj.drop 1)).map λp=>I (p.2-p.1))=((yh aj).map FV.int).map MV.f:=by rw[<- zg];simp[Xc]
  rw[e,Qe];rfl
 have nw:Qr true (sh.zipIdx.map λp=>I (((p.2+1:Nat):Int)*p.1)) h=.ok (.f (Ya false (sh.zipIdx.map λp=>((p.2+1:Nat):Int)*p.1))) h:=by
  have e:(sh.zipIdx.map λp=>I (((p.2+1:Nat):Int)*p.1))=((sh.zipIdx.map λp=>((p.2+1:Nat):Int)*p.1).map FV.int).map MV.f:=by simp[Xc]
  rw[e,Qe];rfl
 have sw2:(sh.zipIdx.map λp=>((p.2:Int)+1)*p.1).sum=zp sh:=by
  rw[<- sw];congr 1
 have iw:Qf (sh.zipIdx.map (MV.f∘λx=>FV.int (((x.2:Int)+1)*x.1)))=some (sh.zipIdx.map λp=>((p.2:Int)+1)*p.1):=by
  have:=ql (sh.zipIdx.map λp=>((p.2:Int)+1)*p.1);rw[Ue] at this;exact this
 have szw:=sz (sh.zipIdx.map λp=>((p.2+1:Nat):Int)*p.1);rw[sw] at szw;generalize Ya false (sh.zipIdx.map λp=>((p.2+1:Nat):Int)*p.1)=wv at *;generalize hzz:(aj.take (aj.length-1)).zip (aj.drop 1)=zz at *;generalize G9:Ya b1 (aj.take (aj.length-1))=r1 at *;generalize hr2:Ya b2 (aj.drop 1)=r2 at *;generalize DN:Ya b sh=sv at *;generalize Ya false (yh aj)=gv at *;unfold rF;rw[Qa5];simp only[dX];simp[A,B1,s1,s2,GW,MP.stM];rw[zn (e:=λp:Int×Int=>MV.f (.tup [.int p.1,.int p.2])) (g:=λp=>I (p.2-p.1)) (caps:=[]) zz [] none none (by simpa using EW) (λp _ z w=>⟨some (I p.1),some (I p.2),by simp[Qi]⟩)];simp only[Xe,R.ay,nz];simp at ite nw;simp[mx,d2,ite,MP.stM];rw[zn (e:=λp:Int×Nat=>MV.f (.tup [.int ((p.2:Int)+1),.int p.1])) (g:=λp=>I (((p.2:Int)+1)*p.1)) (caps:=[]) sh.zipIdx [] none none (by simp[Zc];lia) (λp hp z w=>⟨some (I ((p.2:Int)+1)),some (I p.1),by
  have:p.2<sh.length:=by
   obtain⟨y,k⟩:=p;have hk:=Wt.mp hp;exact(xa.mp hk).1
  have mu:zB ((p.2+1:Nat):Int) p.1:=.inl (by lia);have bm:∀ hh,ye true .mul (I ((p.2+1:Nat):Int)) (I p.1) hh=.ok (I (((p.2+1:Nat):Int)*p.1)) hh:=λhh=>zr _ _ _ mu;simp at bm;simp[Qi,bm]⟩)]
 simp only[Xe,R.ay];simp[iw,sw2,ss,c1,c2]
end
theorem ybx   (K:iy M l)(h1:1<=M):(0<=Qy (yh l)/2/\Qy (yh l)<=M)/\∀ k,k+1<l.length->l.getD (k+1) 0-l.getD k 0<=2*(Qy (yh l)/2)+1:=by
 have h2:=K.two h1;have ne:yh l≠[]:=by
  intro e;have:=congrArg wu e;simp[yh] at this
  lia
 have gm:∀ k,k+1<l.length->l.getD (k+1) 0-l.getD k 0∈yh l:=λk hk=>ud.mpr ⟨k,Xj.mpr (by lia),rfl⟩;have gZ:∀ k,k<l.length->0<=l.getD k 0/\l.getD k 0<=M:=λk hk=>by
  refine K.gZ _ ?_;rw[Uf,va hk];exact vk hk
 have up:∀ k,k+1<l.length->l.getD k 0<l.getD (k+1) 0:=λk hk=>IY K.up (by lia) hk;refine⟨⟨?_,?_⟩,λk hk=>?_⟩
 ·have h0:=GI (gm 0 (by lia));have:=up 0 (by lia)
  lia
 ·obtain⟨k,hk,e⟩:=ud.mp (JX ne);have hk:=Xj.mp hk;have a:=gZ k (by lia);have b:=gZ (k+1) (by lia);have e:l.getD (k+1) 0-l.getD k 0=Qy (yh l):=e
  lia
 ·have:=GI (gm k hk)
  lia
end MP
end
section
namespace MP
open PySem
section
variable (n:Nat) (h:MH)
theorem Qbx(most)(rows)(H W)(d:Drawn most rows H W)(hm:1<=most)(pZ:most<2^100)(h1:1<=H)(h2:H<=1000)(w1:1<=W)(w2:W<=1000)(w)(cs)(wr:Ct w H W cs)(hc:∀ c∈cs,c.1<H/\c.2<W)(kM:cs.length<=10000)
  (iv lW) (sh) (n0) (ns) (V:bY (.code::h) iv sh) (V2:bY (.code::h) lW (n0::ns)) (s:jP sh) (K:iy most (n0::ns)) (z:(0:Int)∈n0::ns) (m:most∈n0::ns) (hi:∀ q∈n0::ns,0<=q/\q<=most) :
  run prog (n+8) "handed" [.f (Qn most rows),.f w,iv,lW] (.code::h)=.ok (.f (Qn most (ym (Yf H W) ((Yb sh n0 ns (br rows) (cs.map cZ)).map λe=>(e.p,e.eg))))) (.code::h):=by
 have L:=Li n h most rows H W d hm pZ h1 w1 w cs wr hc kM iv lW sh n0 ns V V2 s K z m;have F:=Y9 .code h ((Yb sh n0 ns (br rows) (cs.map cZ)).map Qd) [];have D:=Ya7 (n+2) (.code::(h++[.dead])) most rows H W d hm h1 h2 w1 w2 (Yb sh n0 ns (br rows) (cs.map cZ)) (by rw[zx];simp;lia) (λe he=>by
  have this:e.p∈(Yb sh n0 ns (br rows) (cs.map cZ)).map (λe:Ent=>e.p):=ud.mpr ⟨e,he,rfl⟩;rw[J7] at this;obtain⟨c,cQ,hp⟩:=ud.mp this;have:=hc c cQ;rw[<- hp];simp[cZ];lia) (λe he=>hi _ (QbT sh n0 ns (br rows) (cs.map cZ) e he))
 rw[Ue] at F;simp only[Xc] at F;have lv:=YF (.code::h) [.dead] (Qn most (ym (Yf H W) ((Yb sh n0 ns (br rows) (cs.map cZ)).map λe=>(e.p,e.eg))));generalize ((Yb sh n0 ns (br rows) (cs.map cZ)).map λe=>MV.f (Qd e))=M at *;generalize ((Yb sh n0 ns (br rows) (cs.map cZ)).map Qd)=M2 at *;generalize Qn most (ym (Yf H W) ((Yb sh n0 ns (br rows) (cs.map cZ)).map λe=>(e.p,e.eg)))=out at *;generalize Qn most rows=pc at *;rw[zbu];simp only[fR];simp at F D lv L;simp[L,F,D,lv]
end
end MP
end
section
namespace MP
open PySem
section
variable (n:Nat) (h:MH)
theorem Ql(x m)(hm:0<m)(hb:m<1073741824\/m.natAbs<big):run prog (n+1) "_law_take" [.ref 1,I m] (.code::atC x::h)=.ok (I (x%m)) (.code::atC (x/m)::h):=by
 have b1:∀ hh,ye true .mod (I x) (I m) hh=.ok (I (x%m)) hh:=λhh=>Yg _ _ _ hm;have b2:∀ hh,ye true .fdiv (I x) (I m) hh=.ok (I (x/m)) hh:=λhh=>zm _ _ _ ⟨hm,hb⟩;have c1:∀ j:Int,Qc (.code::atC j::h) 1=some [I j]:=λj=>rfl;have s1:∀(j:Int)(ys:List MV),Ye (.code::atC j::h) 1 ys=.code::.lst ys::h:=λj ys=>rfl;have lv:=Cy x (x/m) h (.int (x%m));rw[zaR];simp only[dg];simp[c1,s1,b1,b2,lu,lv]
theorem zb5(ns)(k)(hk:0<=k)(sx:k<1000000):∃ m:Int,1<=m/\m<=1000000000000000000000000/\run prog (n+2) "_law_most" [.f (.bP ns),.ref 1] (.code::atC k::h)=.ok (I m) (.code::atC (k+1)::h):=by
 have N:=qu n h ns k hk sx;have hm:=mod_lt (Z7 ns (k+1)) 5 (by decide);have hp:∀ hh,ye true .pow (I 10) (I 24) hh=.ok (I 1000000000000000000000000) hh:=λhh=>Y7 true 10 24 (by decide);have c1:∀ j:Int,Qc (.code::atC j::h) 1=some [I j]:=λj=>rfl;have a1:∀ j:Int,dy [I j] 0=some (I j):=λj=>rfl;have lv:=λm=>Cy k (k+1) h (.int m);generalize Z7 ns (k+1)=x at *;have m5:∀ hh,ye true .mod (I x) (I 5) hh=.ok (I (x%5)) hh:=λhh=>Yg _ _ _ (by decide);have key:∀ c:Int,∃ m:Int,(1<=m/\m<=1000000000000000000000000)/\dy [I 1,I 2,I 5,I 255,I (1+(c+x)%1000000000000000000000000)] (x%5)=some (I m):=λc=>by
  obtain⟨v,hv,e⟩:=CS [I 1,I 2,I 5,I 255,I (1+(c+x)%1000000000000000000000000)] _ hm.1 (by simpa using hm.2);have hc:=mod_lt (c+x) 1000000000000000000000000 (by decide);simp only[Xa,Vc,or_false] at hv
  rcases hv with rfl|rfl|rfl|rfl|rfl
  all_goals exact⟨_,by lia,e⟩
 obtain⟨m,NF,e⟩:=key (QR ns (k+1));refine⟨m,NF.1,NF.2,?_⟩;rw[QaQ];simp only[dj];by_cases hn:ns=[]
 ·subst hn;simp[QR] at e;simp[N,hp,m5,Yg,Zk,e,lv]
 ·have hl:0<ns.length:=Xr.mpr hn;simp[N,hp,m5,Yg,hl,c1,a1,M7 ns hn (k+1),Zk,e,lv]
theorem zch(ns)(k most)(hk:0<=k)(sx:k+10<1000000)(hm:1<=most) :
  dA (run prog (n+2) "_law_inks" [.f (.bP ns),.ref 1,I most] (.code::atC k::h)) λv h'=>∃(aj:List Int)(kk:Int),iy most aj/\aj.length<=8/\k<=kk/\kk<=k+7/\v=.f (Ya false aj)/\h'=.code::atC kk::h:=by
 refine dA.of λQ hQ=>?_;have N:=qu n h ns k hk (by lia);have hd:=CY ns (k+1);generalize Z7 ns (k+1)=x at N hd;have h5:=mod_lt x 5 (by decide);obtain⟨T,hT⟩:=Vd h5.1;have m5:∀ hh,ye true .mod (I x) (I 5) hh=.ok (I (x%5)) hh:=λhh=>Yg _ _ _ (by decide);have hp:∀ hh,ye true .pow (I 10) (I 16) hh=.ok (I 10000000000000000) hh:=λhh=>Y7 true 10 16 (by decide);rw[ZaN];simp only[dm];have IL:=λa b ks=>ZcY a b h [] ks;have Mf:=λa b c d=>wW a b h [] c d;simp[N,gJ,IL,Mf,m5,hT,qo _ (T:Int) (by lia)];refine Yv (Q:=λr=>dA (yb _ r) _) T (λi σ hh=>∃(ks:List Int)(z5:Option MV),jS most ks (2+i)/\hh=.code::atC (k+1+(i:Int))::(h++[.fI ks])/\σ=[some (.f (.bP ns)),some (.ref 1),some (I most),some (I x),some (.ref (h.length+2)),z5]) ?_ ?_ ?_
 ·exact⟨_,none,jS.start hm,by simp,rfl⟩
 ·rintro i σ hh sy ⟨ks,z5,d,rfl,rfl⟩ Q hQ;have N:=qu n (h++[.fI ks]) ns (k+1+i) (by lia) (by lia);generalize Z7 ns (k+1+i+1)=y at N;have bm:∀ hh,ye true .mod (I (y*10000000000000000+x)) (I (most+1)) hh=.ok (I ((y*10000000000000000+x)%(most+1))) hh:=λhh=>Yg _ _ _ (by lia);have hv:=mod_lt (y*10000000000000000+x) (most+1) (by lia);have GO:zB y 10000000000000000:=Qt (by decide);generalize (y*10000000000000000+x)%(most+1)=v at *;have cl:=IL .code (atC (k+1+(i:Int)+1)) ks;have sl:ks.length<1000000:=by have:=d.sz;lia
  have st:=Mf .code (atC (k+1+(i:Int)+1)) (.fI ks) (.fI (Qu ks v));simp only[Wp] at st;simp[Qm,N,hp,bm,zr,GO,cl,sl,st];exact hQ _ _ ⟨Qu ks v,_,d.add ⟨by lia,by lia⟩,by simp;lia,rfl⟩
 ·rintro σ hh ⟨ks,z5,d,rfl,rfl⟩;have cl:=IL .code (atC (k+1+(T:Int))) ks;have sl:ks.length<64:=by have:=d.sz;lia
  have F:=qV .code (atC (k+1+(T:Int))) (h++[.fI ks]) ((Zv ks).map FV.int);have er:FV.lst ((Zv ks).map FV.int)=Ya false (Zv ks):=rfl;have lv:=tQ k (k+1+(T:Int)) h [.fI ks,.dead] (Ya false (Zv ks));simp only[Ue] at F;simp[j5,cl,sl,Xc] at F ⊢;simp[F,er,lv];have hs:=d.sz;exact hQ _ _ ⟨Zv ks,_,d.aj (by lia),by rw[(ZO ks).length_eq];lia,by lia,by lia,rfl,rfl⟩
end
end MP
end
section
namespace MP
open PySem
theorem OA(c L)(hc:1<=c):∃ T,T<=c/\(∀ i,i<T->L+i=0\/0<(L+i)%c)/\1<=L+T/\(L+T)%c=0:=by
 have q:=Up L c;have r:=Vn L hc;by_cases h0:L=0
 ·subst h0;refine⟨c,Ua _,λi hi=>?_,by lia,by simp⟩;rw[uq,wn hi];lia
 by_cases hr:L%c=0
 ·exact⟨0,by lia,λi hi=>by lia,by lia,hr⟩
 ·refine⟨c-L%c,by lia,λi hi=>.inr ?_,by lia,?_⟩
  ·have e:L+i=c*(L/c)+(L%c+i):=by lia
   rw[e,uC,wn (by lia)];lia
  ·have e:L+(c-L%c)=c*(L/c)+c:=by lia
   rw[e,uC,Nat.mod_self]
noncomputable def zQ(c:Nat)(xs:List Int):List (List Int):=(uc (xs.length/c)).map λj=>(xs.drop (j*c)).take c
theorem Z9    (hx:∀ v∈xs,0<=v/\v<=most)(hc:1<=c):Drawn most (zQ c xs) (xs.length/c) c:=by
 refine⟨by simp[zQ],λr hr=>?_,λr hr v hv=>?_⟩
 ·obtain⟨j,hj,rfl⟩:=ud.mp hr;have hj:=Xj.mp hj;have h1:(j+1)*c<=xs.length/c*c:=uy _ hj;have h2:=uF xs.length c;rw[VC] at h1;simp;lia
 ·obtain⟨j,hj,rfl⟩:=ud.mp hr;exact hx v (List.mem_of_mem_drop (xq hv))
theorem OC(c L)(c1:1<=c)(l1:1<=L)(l72:L<=72)(hd:L%c=0)(h1:c=1->L<=64):1<=L/c/\L/c<=64/\L/c*c<=72:=by
 have dw:=uF L c;have q:=Up L c;rw[hd,XG] at q;refine⟨?_,?_,by lia⟩
 ·rcases WA (L/c) with z|z
  ·rw[z] at q;lia
  ·exact z
 ·by_cases e:c=1
  ·have:=h1 e;have:=jr L c
   lia
  ·have:L/c*2<=L/c*c:=Nat.mul_le_mul_left _ (by lia)
   lia
section
variable (W:String->List MV->MH->R MV) (σ:aF) (hh:MH) (a c:Nat) (xs:List Int) (hc:1<=c) (rg:c<=9) (hl:xs.length<=1000) (e:Qc hh a=some (xs.map (MV.f∘FV.int))) (s4:σ[4]?=some (some (.ref a))) (s3:σ[3]?=some (some (I c)))
include hc rg hl e s4 s3
theorem Ey:ya prog W (.or [.cmp .eq (.blt true "len" [.var 4]) (.cI 0),.cmp .gt (.bin true .mod (.blt true "len" [.var 4]) (.var 3)) (.cI 0)]) σ hh=.ok (B (decide (xs.length=0\/0<xs.length%c))) hh:=by
 have bm:ye true .mod (I (xs.length:Int)) (I c) hh=.ok (I ((xs.length%c:Nat):Int)) hh:=by rw[Yg _ _ _ (by lia)];rfl
 have ln:zq true "len" [.ref a] hh=.ok (I (xs.length:Int)) hh:=by rw[zv,zK,e];simp
 by_cases h0:xs.length=0
 ·simp[s4,ln,h0]
 ·have h0':(xs.length:Int)≠0:=by lia
  generalize xs.length%c=r at *;generalize xs.length=L at *;simp[s4,s3,ln,h0,h0',bm]
theorem LX(hd:xs.length%c=0)(h1:1<=xs.length):ya prog W (.comp true (.slice true (.var 1) (some (.var 0)) (some (.bin true .add (.var 0) (.var 2)))) (.nm 0) "range" [.cI 0,.blt true "len" [.var 4],.var 3] none 1 [4,3]) σ hh=.ok (.f (Yd false false (zQ c xs))) hh:=by
 have ln:zq true "len" [.ref a] hh=.ok (I (xs.length:Int)) hh:=by rw[zv,zK,e];simp
 have iR:=zbw hh 0 (xs.length:Int) c (by lia);have er:gx 0 (xs.length:Int) c=xs.length/c:=by
  have q:=Up xs.length c;rw[hd,XG] at q;have q1:1<=xs.length/c:=by
   rcases WA (xs.length/c) with z|z
   ·rw[z] at q;lia
   ·exact z
  generalize xs.length/c=m at *;unfold gx;rw[if_pos (by lia)];have e1:((xs.length:Int)-0-1)/c=((m-1:Nat):Int):=by
   rw[<- q];have e2:((c*m:Nat):Int)-0-1=(c:Int)*((m-1:Nat):Int)+(c-1):=by
    obtain⟨p,rfl⟩:∃ p,m=p+1:=⟨m-1,by lia⟩;push_cast;rw[Xw];simp;lia
   rw[e2,Int.add_comm,Int.add_mul_ediv_left _ _ (by lia),Int.ediv_eq_zero_of_lt (by lia) (by lia)];lia
  rw[e1];lia
 have sl:∀ j:Nat,yA true (.ref a) (some (0+(j:Int)*c)) (some (0+(j:Int)*c+c)) hh=.ok (.f (Ya false ((xs.drop (j*c)).take c))) hh:=λj=>by
  have e1:(0+(j:Int)*c).toNat=j*c:=by rw[vG,<- UC];rfl
  have e2:(0+(j:Int)*c+c).toNat=j*c+c:=by rw[vG,<- UC];lia
  have nn:0<=(j:Int)*c:=by rw[<- UC];lia
  have ct:=Oo (xs.map (MV.f∘FV.int)) (0+(j:Int)*c) (0+(j:Int)*c+c) (by lia) (by lia);rw[e1,e2,Nat.add_sub_cancel_left,<- VE,<- UA] at ct;unfold yA;rw[qbK];simp only[zK,e,zc,ct,ZG];rfl
 have sz:(uc (xs.length/c)).length<=aC:=by
  have:=jr xs.length c;simp[Zc];lia
 simp only[ya,Zg,s4,s3,VB,zc,R.ay,ln,iR,er,stM,xc,xb,Ui,Ut,Xe,rn];rw[qw (e:=λj:Nat=>I (0+(j:Int)*c)) (g:=λj=>MV.f (Ya false ((xs.drop (j*c)).take c))) (caps:=[some (.ref a),some (I c)]) (uc (xs.length/c)) [] none (by simpa using sz) (λj _ z=>⟨some (I (0+(j:Int)*c)),by
  have:=sl j;generalize (0+(j:Int)*c)=x at *;simp[Qi,yZ,this]⟩)]
 have e3:(uc (xs.length/c)).map (λj=>MV.f (Ya false ((xs.drop (j*c)).take c)))=((zQ c xs).map (Ya false)).map MV.f:=by simp[zQ,Xc]
 rw[Xe,R.ay,e3,Qe];rfl
end
end MP
end
section
namespace MP
open PySem
theorem pI(k)(h)(M):Qc (.code::atC k::(h++[.lst M])) (h.length+2)=some M:=by
 have:=zi (.code::atC k::h) [] M;simpa using this
theorem oz(k)(h)(M ys):Ye (.code::atC k::(h++[.lst M])) (h.length+2) ys=.code::atC k::(h++[.lst ys]):=by
 have:=Zq (.code::atC k::h) [] M ys;simpa using this
theorem Co(hh)(a)(xs)(y)(e:Qc hh a=some xs)(hl:xs.length<aC):mz "append" (.ref a) [y] hh=.ok (.f .bG) (Ye hh a (xs++[y])):=by
 show opt (Qc hh a) _=_;rw[e];exact if_pos hl
theorem qbO(ns:List Int)(a b:Nat)(Ib:a<=b)(lo:Option Int)(DT:lo=some (a:Int)\/(lo=none/\a=0))(hh:MH):yA true (.f (.bP ns)) lo (some (b:Int)) hh=.ok (.f (Ya false ((ns.drop a).take (b-a)))) hh:=by
 have q:qb hh (.f (.bP ns))=some (ns.map (MV.f∘FV.int)):=rfl;have ct:zO (ns.map (MV.f∘FV.int)) lo (some (b:Int))=((ns.drop a).take (b-a)).map (MV.f∘FV.int):=by
  rcases DT with rfl|⟨rfl,rfl⟩
  ·rw[Oo _ _ _ (by lia) (by lia),Uj,Uj,<- VE,<- UA]
  ·rw[MA];simp
 unfold yA;rw[QbQ];simp only[q,zc,ct,ZG];rfl
theorem KP(W:String->List MV->MH->R MV)(σ:aF)(hh:MH)(ns:List Int)(most:Int)(hm:1<=most)(lo:Option ME)(lv:Option Int)(a:Nat)(ha:a<=63)(elo:∀ hh,yZ prog W lo σ hh=.ok lv hh)(DT:lv=some (a:Int)\/(lv=none/\a=0))(s0:σ[0]?=some (some (.f (.bP ns))))(s2:σ[2]?=some (some (I most))) :
  ya prog W (.comp false (.bin true .mod (.var 0) (.bin true .add (.var 1) (.cI 1))) (.nm 0) "seq" [.slice true (.var 0) lo (some (.cI 63))] none 1 [2]) σ hh=.ok (.ref hh.length) (hh++[.lst ((((ns.drop a).take (63-a)).map λx=>x%(most+1)).map (MV.f∘FV.int))]):=by
 have sl:=qbO ns a 63 ha lv DT hh;have it:gE "seq" [.f (Ya false ((ns.drop a).take (63-a)))] hh=some (((ns.drop a).take (63-a)).map (MV.f∘FV.int),[]):=by simp[Yp,Ya]
 have hl:((ns.drop a).take (63-a)).length<=63:=by simp;lia
 generalize (ns.drop a).take (63-a)=ys at *;have bm:∀ x hh,ye true .mod (I x) (I (most+1)) hh=.ok (I (x%(most+1))) hh:=λx hh=>Yg _ _ _ (by lia);have tN:yA true (.f (.bP ns)) lv (some 63) hh=.ok (.f (Ya false ys)) hh:=sl;generalize Ya false ys=yv at *;simp only[ya,Zg,s0,s2,VB,zc,R.ay,elo,yZ,JY,tN,it,stM,xc,xb,Ui,Ut,Xe,rn];rw[qw (e:=MV.f∘FV.int) (g:=λx=>I (x%(most+1))) (caps:=[some (I most)]) ys [] none (by simp[Zc];lia) (λx _ z=>⟨some (I x),by simp[Qi,bm]⟩)];simp[Xc]
section
variable (n:Nat) (h:MH)
theorem Yca(ns:List Int)(k most:Int)(hk:0<=k)(sx:k+20<1000000)(hm:1<=most) :
  dA (run prog (n+2) "_law_rows" [.f (.bP ns),.ref 1,I most] (.code::atC k::h)) λv h'=>∃ rows H W kk,1<=H/\H<=64/\1<=W/\W<=9/\H*W<=72/\Drawn most rows H W/\k<=kk/\kk<=k+12/\v=.f (Yd false false rows)/\h'=.code::atC kk::h:=by
 refine dA.of λQ hQ=>?_;have N:=qu n h ns k hk (by lia);generalize Z7 ns (k+1)=x at N;have m9:∀ hh,ye true .mod (I x) (I 9) hh=.ok (I (x%9)) hh:=λhh=>Yg _ _ _ (by decide);have h9:=mod_lt x 9 (by decide);obtain⟨c,hc⟩:=Vd (show 0<=1+x%9 by lia);have CE:=KP (run prog (n+1)) [some (.f (.bP ns)),some (.ref 1),some (I most),some (I c),none] (.code::atC (k+1)::h) ns most hm none none 0 (by lia) (λhh=>rfl) (.inr ⟨rfl,rfl⟩) rfl rfl;have G1:∀ v∈((ns.drop 0).take (63-0)).map (λx=>x%(most+1)),0<=v/\v<=most:=λv hv=>by
  obtain⟨y,_,rfl⟩:=ud.mp hv;have:=mod_lt y (most+1) (by lia)
  lia
 have hl0:(((ns.drop 0).take (63-0)).map (λx=>x%(most+1))).length<=63:=by simp;lia
 generalize ((ns.drop 0).take (63-0)).map (λx=>x%(most+1))=ys at *;obtain⟨T,t1,t2,t3,t4⟩:=OA c ys.length (by lia);rw[QaP];simp only[di,Qa,Yo];have s1:ya prog (run prog (n+1)) (.bin true .add (.cI 1) (.bin true .mod (.call "_law_next" [.var 0,.var 1]) (.cI 9))) [some (.f (.bP ns)),some (.ref 1),some (I most),none,none] (.code::atC k::h)=.ok (I c) (.code::atC (k+1)::h):=by
  simp[N,m9,hc]
 have s1b:yr (.nm 3) (I c) [some (.f (.bP ns)),some (.ref 1),some (I most),none,none]=some [some (.f (.bP ns)),some (.ref 1),some (I most),some (I c),none]:=rfl;have s2b:∀ z,yr (.nm 4) z [some (.f (.bP ns)),some (.ref 1),some (I most),some (I c),none]=some [some (.f (.bP ns)),some (.ref 1),some (I most),some (I c),some z]:=λz=>rfl;simp only[s1,s1b,CE,s2b,R.st_ok,qt,RS.c6];refine zR (Q:=λr=>dA (yb _ r) _) T (λi σ hh=>∃ xs:List Int,xs.length=ys.length+i/\(∀ v∈xs,0<=v/\v<=most)/\hh=.code::atC (k+1+(i:Int))::(h++[.lst (xs.map (MV.f∘FV.int))])/\σ=[some (.f (.bP ns)),some (.ref 1),some (I most),some (I c),some (.ref (h.length+2))]) (by show T<1000000;lia) ⟨ys,by simp,G1,by simp,by simp⟩ ?_ ?_ ?_
 ·rintro i σ hh hi ⟨xs,xl,hx,rfl,rfl⟩;have M:=Ey (run prog (n+1)) [some (.f (.bP ns)),some (.ref 1),some (I most),some (I c),some (.ref (h.length+2))] _ (h.length+2) c xs (by lia) (by lia) (by lia) (pI (k+1+(i:Int)) h (xs.map (MV.f∘FV.int))) rfl rfl;rw[xl] at M;rw[decide_eq_true (t2 i hi)] at M;refine⟨M,λQ hQ=>?_⟩;have N:=qu n (h++[.lst (xs.map (MV.f∘FV.int))]) ns (k+1+i) (by lia) (by lia);generalize Z7 ns (k+1+i+1)=y at N;have bm:∀ hh,ye true .mod (I y) (I (most+1)) hh=.ok (I (y%(most+1))) hh:=λhh=>Yg _ _ _ (by lia);have hv:=mod_lt y (most+1) (by lia);generalize y%(most+1)=v at *;have A:=Co _ _ _ (I v) (pI (k+1+(i:Int)+1) h (xs.map (MV.f∘FV.int))) (by simp[Zc];lia);rw[oz] at A;have c4:=pI (k+1+(i:Int)) h (xs.map (MV.f∘FV.int));have fY:=hQ [some (.f (.bP ns)),some (.ref 1),some (I most),some (I c),some (.ref (h.length+2))] (.code::atC (k+1+(i:Int)+1)::(h++[.lst (xs.map (MV.f∘FV.int)++[I v])])) ⟨xs++[v],by simp[xl];lia,λu hu=>by
   rcases Xf.mp hu with hu|hu
   ·exact hx u hu
   ·rw[vc.mp hu];lia,by simp;lia,rfl⟩
  generalize xs.map (MV.f∘FV.int)=M0 at *;simp[N,bm,A,c4];exact fY
 ·rintro σ hh ⟨xs,xl,hx,rfl,rfl⟩;have M:=Ey (run prog (n+1)) [some (.f (.bP ns)),some (.ref 1),some (I most),some (I c),some (.ref (h.length+2))] _ (h.length+2) c xs (by lia) (by lia) (by lia) (pI (k+1+(T:Int)) h (xs.map (MV.f∘FV.int))) rfl rfl;rw[xl] at M;rw[decide_eq_false (by lia)] at M;exact M
 ·rintro σ hh ⟨xs,xl,hx,rfl,rfl⟩;have C:=LX (run prog (n+1)) [some (.f (.bP ns)),some (.ref 1),some (I most),some (I c),some (.ref (h.length+2))] _ (h.length+2) c xs (by lia) (by lia) (by lia) (pI (k+1+(T:Int)) h (xs.map (MV.f∘FV.int))) rfl rfl (by rw[xl];exact t4) (by lia);have lv:=tQ k (k+1+(T:Int)) h [.lst (xs.map (MV.f∘FV.int))] (Yd false false (zQ c xs));obtain⟨d1,ID,IC⟩:=OC c xs.length (by lia) (by lia) (by lia) (by rw[xl];exact t4) (λe=>by
   subst e
   rcases WA T with z|z
   ·lia
   ·rcases t2 0 z with q|q
    ·lia
    ·rw[Nat.mod_one] at q;lia)
  have c9:c<=9:=by lia
  have c1:1<=c:=by lia
  have kk:k+1+(T:Int)<=k+12:=by lia
  have k1:k<=k+1+(T:Int):=by lia
  simp only[Qa,Yo,C,R.st_ok,RS.lN,Lf,lv,zc9];exact hQ _ _ ⟨zQ c xs,xs.length/c,c,_,d1,ID,c1,c9,IC,Z9 hx c1,k1,kk,rfl,rfl⟩
end
end MP
end
section
namespace MP
open PySem
noncomputable abbrev OT:ME:=.lst true [.make true "Way" [],.make true "FroWay" [],.make true "ColumnWay" [],.make true "FoldedWay" []]
section
variable (H W:Nat) (h1:1<=H) (h2:1<=W) (l0:H*W<=100) (hH:H<=64) (hW:W<=64)
include h1 h2 l0 hH hW
theorem N5(n)(e)(σ)(hh HI)(i)(ev:ya prog (run prog n) e σ hh=.ok (I i) HI)(i0:0<=i)(i4:i<4):∃ c cs,c7 c H W cs/\ya prog (run prog n) (.sub OT e) σ hh=.ok (.f (Yi c)) HI:=by
 have k1:∀ c,prog.meths c "__init__"=none->∀ hh,qJ prog (run prog n) true c [] hh=.ok (.f (Yi c)) hh:=λc hc hh=>Qcc hh _ c hc;have a:=k1 "Way" rfl;have b:=k1 "FroWay" rfl;have c:=k1 "ColumnWay" rfl;have d:=k1 "FoldedWay" rfl;have main:ya prog (run prog n) (.sub OT e) σ hh=opt (dy [.f (Yi "Way"),.f (Yi "FroWay"),.f (Yi "ColumnWay"),.f (Yi "FoldedWay")] i) λv=>.ok v HI:=by
  simp[a,b,c,d,Zk,ev]
 obtain⟨cf,pf⟩:=ybA H W h1 h2 l0 hH hW;have:i=0\/i=1\/i=2\/i=3:=by lia
 rcases this with rfl|rfl|rfl|rfl
 ·exact⟨_,_,YbD H W h1 h2 l0 hH hW,main⟩
 ·exact⟨_,_,ybP H W h1 h2 l0 hH hW,main⟩
 ·exact⟨_,_,QbV H W h1 h2 l0 hH hW,main⟩
 ·exact⟨_,_,pf,main⟩
end
noncomputable def tJ(w:FV)(H W:Nat)(cs:List (Nat×Nat)):Prop:=Ct w H W cs/\(∀ p∈cs,p.1<H/\p.2<W)/\cs.length<=300/\cs.Nodup
theorem c7.wd    (pw:c7 c H W cs):tJ (Yi c) H W cs:=⟨pw.Fj,by obtain⟨_,f,_,_,q⟩:=pw;exact q⟩
theorem c7.md    (pw:c7 c H W cs)(l:List (Nat×Nat))(hl:∀ p∈l,p.1<64/\p.2<64):∃ sM,tJ (Yr (Yi c) ((l.map cZ).foldl qz [])) H W sM:=by
 have sm:((l.map cZ).foldl qz []).all qS=true:=by
  rw[uo];intro q hq;rw[M8] at hq
  rcases hq with hq|hq
  ·exact absurd hq (by simp)
  ·obtain⟨p,hp,rfl⟩:=ud.mp hq;have:=hl p hp;simp[qS,cZ];lia
 obtain⟨_,kL,kM,NC⟩:=pw.wd;exact⟨_,pw.AL _ sm (MY _ _ (by simp)),λp hp=>kL p (ux.mp hp).1,Wf (List.length_filter_le _ _) kM,NC.filter _⟩
section
variable (n:Nat) (h:MH) (H W:Nat) (h1:1<=H) (h2:1<=W) (l0:H*W<=100) (hH:H<=64) (hW:W<=64)
include h1 h2 l0 hH hW
theorem Ycx(ns:List Int)(k:Int)(hk:0<=k)(sx:k+12<1000000) :
  dA (run prog (n+5) "_law_way" [.f (.bP ns),.ref 1,I H,I W] (.code::atC k::h)) λv h'=>∃ w cs kk,tJ w H W cs/\k<=kk/\kk<=k+8/\v=.f w/\h'=.code::atC kk::h:=by
 refine dA.of λQ hQ=>?_;have N:=qu (n+3) h ns k hk (by lia);have hd:=CY ns (k+1);generalize Z7 ns (k+1)=x at N hd;have h4:=mod_lt x 4 (by decide);have h7:=mod_lt (x/12) 7 (by decide);obtain⟨T,hT⟩:=Vd h7.1;obtain⟨c,cs,pw,we⟩:=N5 H W h1 h2 l0 hH hW (n+4) (.bin true .mod (.var 4) (.cI 4)) [some (.f (.bP ns)),some (.ref 1),some (I H),some (I W),some (I x),none,none,none,none] (.code::atC (k+1)::h) (.code::atC (k+1)::h) (x%4) (by simp[Yg]) h4.1 h4.2;have s0:ya prog (run prog (n+4)) (.call "_law_next" [.var 0,.var 1]) [some (.f (.bP ns)),some (.ref 1),some (I H),some (I W),none,none,none,none,none] (.code::atC k::h)=.ok (I x) (.code::atC (k+1)::h):=by simp[N]
 have d4:∀ hh,ye true .fdiv (I x) (I 4) hh=.ok (I (x/4)) hh:=λhh=>zm _ _ _ ⟨by decide,.inl (by decide)⟩;have d12:∀ hh,ye true .fdiv (I x) (I 12) hh=.ok (I (x/12)) hh:=λhh=>zm _ _ _ ⟨by decide,.inl (by decide)⟩;have m3:∀ hh,ye true .mod (I (x/4)) (I 3) hh=.ok (I (x/4%3)) hh:=λhh=>Yg _ _ _ (by decide);have m7:∀ hh,ye true .mod (I (x/12)) (I 7) hh=.ok (I (x/12%7)) hh:=λhh=>Yg _ _ _ (by decide);rw[Za2];simp only[d8];rw[Yn,Yo,s0];simp only[R.st_ok,yr,qt,RS.c6,Wp,Xs];rw[Yn,Yo,we];simp only[R.st_ok,yr,qt,RS.c6,Wp,Xs];by_cases q:x/4%3=0
 ·simp[d4,m3,q,d12,m7,hT,qo _ (T:Int) (by lia)];refine Yv (Q:=λr=>dA (yb _ (RS.bind r _)) _) T (λi σ hh=>∃(ms:List (Nat×Nat)) (z7 z8:Option MV),(∀ p∈ms,p.1<64/\p.2<64)/\ms.length=i/\hh=.code::atC (k+1+(i:Int))::(h++[.lst ((ms.map Za).map .f)]) /\
   σ=[some (.f (.bP ns)),some (.ref 1),some (I H),some (I W),some (I x),some (.f (Yi c)),some (.ref (h.length+2)),z7,z8]) ⟨[],none,none,by simp,rfl,by simp,rfl⟩ ?_ ?_
  ·rintro i σ hh sy ⟨ms,z7,z8,sk,pY,rfl,rfl⟩ Q hQ;have N:=qu (n+3) (h++[.lst ((ms.map Za).map .f)]) ns (k+1+i) (by lia) (by lia);generalize Z7 ns (k+1+i+1)=y at N;have e1:=mod_lt y (H:Int) (by lia);have e2:=mod_lt (y/100) (W:Int) (by lia);have b1:∀ hh,ye true .mod (I y) (I (H:Int)) hh=.ok (I (y%(H:Int))) hh:=λhh=>Yg _ _ _ (by lia);have b2:∀ hh,ye true .mod (I (y/100)) (I (W:Int)) hh=.ok (I (y/100%(W:Int))) hh:=λhh=>Yg _ _ _ (by lia);have b3:∀ hh,ye true .fdiv (I y) (I 100) hh=.ok (I (y/100)) hh:=λhh=>zm _ _ _ ⟨by decide,.inl (by decide)⟩;obtain⟨u,hu⟩:=Vd e1.1;obtain⟨v,hv⟩:=Vd e2.1;rw[hu] at b1 e1;rw[hv] at b2 e2;have ea:(ms.map Za).map MV.f++[MV.f (.tup [.int (u:Int),.int (v:Int)])]=((ms++[(u,v)]).map Za).map MV.f:=by simp[Za]
   have c4:=pI (k+1+(i:Int)+1) h ((ms.map Za).map .f);have A:=Co _ _ _ (.f (.tup [.int (u:Int),.int (v:Int)])) c4 (by simp[Zc];lia);rw[oz] at A;have fY:=hQ [some (.f (.bP ns)),some (.ref 1),some (I H),some (I W),some (I x),some (.f (Yi c)),some (.ref (h.length+2)),some (I i),some (I y)] (.code::atC (k+1+(i:Int)+1)::(h++[.lst (((ms++[(u,v)]).map Za).map .f)])) ⟨ms++[(u,v)],_,_,λp hp=>by
    rcases Xf.mp hp with hp|hp
    ·exact sk p hp
    ·rw[vc.mp hp];simp only;lia,by simp[pY],by rw[show k+1+((i+1:Nat):Int)=k+1+(i:Int)+1 by lia],rfl⟩
   rw[<- ea] at fY;generalize (ms.map Za).map MV.f=M at *;generalize Yi c=wv at *;simp[Qm,N,b1,b2,b3,yg,Zk,c4,A];exact fY
  ·rintro σ hh ⟨ms,z7,z8,sk,pY,rfl,rfl⟩;obtain⟨sM,wd⟩:=pw.md ms sk;have F1:=qV .code (atC (k+1+(T:Int))) h (ms.map Za);have MK:=OH (n+3) (.code::atC (k+1+(T:Int))::(h++[.dead])) (Yi c) ms (by lia);have lv:=tQ k (k+1+(T:Int)) h [.dead] (Yr (Yi c) ((ms.map cZ).foldl qz []));have fY:=hQ (.f (Yr (Yi c) ((ms.map cZ).foldl qz []))) (.code::atC (k+1+(T:Int))::h) ⟨_,sM,_,wd,by lia,by lia,rfl,rfl⟩;generalize Yr (Yi c) ((ms.map cZ).foldl qz [])=v1 at *;generalize (ms.map Za).map MV.f=M at *;generalize ms.map Za=L at *;generalize Yi c=wv at *;simp[F1,MK,lv];exact fY
 ·have lv:=Cy k (k+1) h (Yi c);have fY:=hQ (.f (Yi c)) (.code::atC (k+1)::h) ⟨_,cs,_,pw.wd,by lia,by lia,rfl,rfl⟩;generalize Yi c=wv at *;simp[d4,m3,q,lv];exact fY
theorem qaO(x:Int) :
  dA (run prog (n+5) "_law_digit_way" [.ref 1,I H,I W] (.code::atC x::h)) λv h'=>∃ w cs y,tJ w H W cs/\v=.f w/\h'=.code::atC y::h:=by
 refine dA.of λQ hQ=>?_;have t4:=Ql (n+3) h x 4 (by decide) (.inl (by decide));have t2:=Ql (n+3) h (x/4) 2 (by decide) (.inl (by decide));have t9:=Ql (n+3) (h++[.lst []]) (x/4/2) 9 (by decide) (.inl (by decide));have h4:=mod_lt x 4 (by decide);have h9:=mod_lt (x/4/2) 9 (by decide);obtain⟨T,hT⟩:=Vd h9.1;obtain⟨c,cs,pw,we⟩:=N5 H W h1 h2 l0 hH hW (n+4) (.call "_law_take" [.var 0,.cI 4]) [some (.ref 1),some (I H),some (I W),none,none,none] (.code::atC x::h) (.code::atC (x/4)::h) (x%4) (by simp[t4]) h4.1 h4.2;rw[hT] at t9;generalize x/4/2/9=y0 at *;generalize x/4/2=y1 at *;generalize x/4%2=y2 at *;generalize x/4=y3 at *;rw[Z6];simp only[bE];rw[Yn,Yo,we];simp only[R.st_ok,yr,qt,RS.c6,Wp,Xs];by_cases q:y2=0
 ·have lv:=Cy x y1 h (Yi c);have fY:=hQ (.f (Yi c)) (.code::atC y1::h) ⟨_,cs,_,pw.wd,rfl,rfl⟩;generalize Yi c=wv at *;simp[t2,q,lv];exact fY
 ·simp[t2,q,t9,qo _ (T:Int) (by lia)];refine Yv (Q:=λr=>dA (yb _ r) _) T (λi σ hh=>∃(ms:List (Nat×Nat)) (y:Int) (z5:Option MV),(∀ p∈ms,p.1<64/\p.2<64)/\ms.length=i/\hh=.code::atC y::(h++[.lst ((ms.map Za).map .f)]) /\
   σ=[some (.ref 1),some (I H),some (I W),some (.f (Yi c)),some (.ref (h.length+2)),z5]) ⟨[],y0,none,by simp,rfl,by simp,rfl⟩ ?_ ?_
  ·rintro i σ hh sy ⟨ms,y,z5,sk,pY,rfl,rfl⟩ Q hQ;have tH:=Ql (n+3) (h++[.lst ((ms.map Za).map .f)]) y H (by lia) (.inl (by lia));have tW:=Ql (n+3) (h++[.lst ((ms.map Za).map .f)]) (y/H) W (by lia) (.inl (by lia));have e1:=mod_lt y (H:Int) (by lia);have e2:=mod_lt (y/H) (W:Int) (by lia);obtain⟨u,hu⟩:=Vd e1.1;obtain⟨v,hv⟩:=Vd e2.1;rw[hu] at tH e1;rw[hv] at tW e2;generalize y/H/W=y' at *;generalize y/H=vJ at *;have ea:(ms.map Za).map MV.f++[MV.f (.tup [.int (u:Int),.int (v:Int)])]=((ms++[(u,v)]).map Za).map MV.f:=by simp[Za]
   have c4:=λj=>pI j h ((ms.map Za).map .f);have A:=Co _ _ _ (.f (.tup [.int (u:Int),.int (v:Int)])) (c4 y') (by simp[Zc];lia);rw[oz] at A;have fY:=hQ [some (.ref 1),some (I H),some (I W),some (.f (Yi c)),some (.ref (h.length+2)),some (I i)] (.code::atC y'::(h++[.lst (((ms++[(u,v)]).map Za).map .f)])) ⟨ms++[(u,v)],_,_,λp hp=>by
    rcases Xf.mp hp with hp|hp
    ·exact sk p hp
    ·rw[vc.mp hp];simp only;lia,by simp[pY],rfl,rfl⟩
   rw[<- ea] at fY;generalize (ms.map Za).map MV.f=M at *;generalize Yi c=wv at *;simp[Qm,tH,tW,yg,Zk,c4,A];exact fY
  ·rintro σ hh ⟨ms,y,z5,sk,pY,rfl,rfl⟩;obtain⟨sM,wd⟩:=pw.md ms sk;have F1:=qV .code (atC y) h (ms.map Za);have MK:=OH (n+3) (.code::atC y::(h++[.dead])) (Yi c) ms (by lia);have lv:=tQ x y h [.dead] (Yr (Yi c) ((ms.map cZ).foldl qz []));have fY:=hQ (.f (Yr (Yi c) ((ms.map cZ).foldl qz []))) (.code::atC y::h) ⟨_,sM,_,wd,rfl,rfl⟩;generalize Yr (Yi c) ((ms.map cZ).foldl qz [])=v1 at *;generalize (ms.map Za).map MV.f=M at *;generalize ms.map Za=L at *;generalize Yi c=wv at *;simp[F1,MK,lv];exact fY
end
end MP
end
section
namespace MP
open PySem
theorem LK  (h:∀ y∈l,0<=y/\y<2^100)(hl:l.length<=10)(h1:l.sum≠0):jP l:=by
 have:=Y3 l λx hx=>(h x hx).1;exact⟨h,by lia,hl⟩
theorem Ow{l:List Int}(h:∀ y∈l,0<=y/\y<2^100)(hl:l.length<=10)(j:Nat)(hj:j<l.length)(v:Int)(h1:1<=v/\v<2^100):jP (l.set j v):=by
 have hs:∀ y∈l.set j v,0<=y/\y<2^100:=λy hy=>by
  rcases xB hy with hy|rfl
  ·exact h y hy
  ·lia
 exact⟨hs,LC _ (λx hx=>(hs x hx).1) v (List.mem_set hj v) h1.1,by simpa using hl⟩
theorem Oy(hh:MH)(a:Nat)(l:List Int)(e:Qc hh a=some (l.map (MV.f∘FV.int))):zq true "sum" [.ref a] hh=.ok (I l.sum) hh:=by
 rw[zL,zK,e,xh,ql,zc]
theorem yc4(hh:MH)(a:Nat)(l:List Int)(e:Qc hh a=some (l.map (MV.f∘FV.int))):zq true "len" [.ref a] hh=.ok (I l.length) hh:=by
 rw[zv,zK,e,zc,Wc]
theorem OS(l:List Int)(j:Nat)(hj:j<l.length):lu (l.map (MV.f∘FV.int)).length (j:Int)=some j:=by
 unfold lu;rw[if_pos (by lia),if_pos (by simp;lia)];simp
section
variable (n:Nat) (h:MH)
theorem QbB(ns:List Int)(k:Int)(hk:0<=k)(sx:k+12<1000000) :
  dA (run prog (n+2) "_law_shares" [.f (.bP ns),.ref 1] (.code::atC k::h)) λv h'=>∃ sh kk,jP sh/\k<=kk/\kk<=k+8/\v=.f (Ya false sh)/\h'=.code::atC kk::h:=by
 refine dA.of λQ hQ=>?_;have N:=qu n h ns k hk (by lia);have hd:=CY ns (k+1);generalize Z7 ns (k+1)=x at N hd;have h5:=mod_lt x 5 (by decide);obtain⟨T,hT⟩:=Vd (show 0<=1+x%5 by lia);have m5:∀ hh,ye true .mod (I x) (I 5) hh=.ok (I (x%5)) hh:=λhh=>Yg _ _ _ (by decide);have hp:∀ hh,ye true .pow (I 10) (I 20) hh=.ok (I 100000000000000000000) hh:=λhh=>Y7 true 10 20 (by decide);rw[zaq];simp only[cj];simp[N,m5,hT,qo _ (T:Int) (by lia),MP.stM];generalize hc:zh [] _ _ _ _ _=C;obtain⟨acc,h',rfl,sh,hs,hl,rfl,rfl⟩:=YcI (e:=λj:Nat=>I j) (ys:=uc T) hc (λj acc hh=>∃ sh:List Int,(∀ y∈sh,0<=y/\y<2^100)/\sh.length=j/\acc=sh.map (MV.f∘FV.int)/\hh=.code::atC (k+1+(j:Int))::h) ⟨[],by simp,rfl,rfl,by simp⟩ (by simp[Zc];lia) (λj y acc z hh hj ⟨sh,hs,hl,ea,eh⟩=>by
  subst ea;subst eh;have hjT:j<T:=by have:=(xa.mp hj).1;simpa using this
  have ey:y=j:=by
   rw[Xo hjT] at hj;exact(gb.inj hj).symm
  subst ey;have N:=qu n h ns (k+1+y) (by lia) (by lia);have sC:=CY ns (k+1+y+1);generalize Z7 ns (k+1+y+1)=u at N sC;have m8:∀ hh,ye true .mod (I u) (I 8) hh=.ok (I (u%8)) hh:=λhh=>Yg _ _ _ (by decide);have dv:∀ hh,ye true .fdiv (I x) (I ((y:Int)+1)) hh=.ok (I (x/((y:Int)+1))) hh:=λhh=>zm _ _ _ ⟨by lia,.inl (by lia)⟩;have m4:∀ z hh,ye true .mod (I z) (I 4) hh=.ok (I (z%4)) hh:=λz hh=>Yg _ _ _ (by decide);have h4:=mod_lt (x/((y:Int)+1)) 4 (by decide);have h8:=mod_lt u 8 (by decide);obtain⟨v,v0,v1,ev⟩:∃ v:Int,0<=v/\v<2^100/\dy [I (u%8),I 0,I 1,I (100000000000000000000+x)] (x/((y:Int)+1)%4)=some (I v):=by
   obtain⟨w,hw,e⟩:=CS [I (u%8),I 0,I 1,I (100000000000000000000+x)] _ h4.1 (by simpa using h4.2);simp only[Xa,Vc,or_false] at hw
   rcases hw with rfl|rfl|rfl|rfl
   all_goals exact⟨_,by lia,by lia,e⟩
  generalize x/((y:Int)+1)=w at *;refine⟨I v,some (I y),.code::atC (k+1+(y:Int)+1)::h,by simp[Qi,N,m8,dv,m4,hp,Zk,ev],sh++[v],λq hq=>?_,by simp[hl],by simp,by rw[show k+1+((y+1:Nat):Int)=k+1+(y:Int)+1 by lia]⟩
  rcases Xf.mp hq with hq|hq
  ·exact hs q hq
  ·rw[vc.mp hq];exact⟨v0,v1⟩)
 rw[WB] at hl;rw[WB];have c0:=pI (k+1+(T:Int)) h (sh.map (MV.f∘FV.int));have s0:=oz (k+1+(T:Int)) h (sh.map (MV.f∘FV.int));have su:=Oy _ _ sh c0;have ln:=yc4 _ _ sh c0;have fin:∀ l:List Int,jP l->dA (yb (.code::atC k::h) (Qa prog (run prog (n+1)) [.ret (.eQ (.var 3))] [some (.f (.bP ns)),some (.ref 1),some (I x),some (.ref (h.length+2))] (.code::atC (k+1+(T:Int))::(h++[.lst (l.map (MV.f∘FV.int))])))) Q:=λl ol=>by
  have F:=qV .code (atC (k+1+(T:Int))) h (l.map FV.int);rw[Ue] at F;have lv:=tQ k (k+1+(T:Int)) h [.dead] (Ya false l);have er:FV.lst (l.map FV.int)=Ya false l:=rfl;rw[er] at F;generalize l.map (MV.f∘FV.int)=M at *;simp[Qa,F,lv];exact hQ _ _ ⟨l,_,ol,by lia,by lia,rfl,rfl⟩
 by_cases c:sh.sum=0
 ·have hj:=mod_lt (x/6) (sh.length:Int) (by lia);have h9:=mod_lt (x/40) 9 (by decide);obtain⟨j,ej⟩:=Vd hj.1;have ix:=OS sh j (by lia);have d6:∀ hh,ye true .fdiv (I x) (I 6) hh=.ok (I (x/6)) hh:=λhh=>zm _ _ _ ⟨by decide,.inl (by decide)⟩;have d40:∀ hh,ye true .fdiv (I x) (I 40) hh=.ok (I (x/40)) hh:=λhh=>zm _ _ _ ⟨by decide,.inl (by decide)⟩;have mj:∀ hh,ye true .mod (I (x/6)) (I (sh.length:Int)) hh=.ok (I (j:Int)) hh:=λhh=>by rw[Yg _ _ _ (by lia),ej]
  have m9:∀ hh,ye true .mod (I (x/40)) (I 9) hh=.ok (I (x/40%9)) hh:=λhh=>Yg _ _ _ (by decide);have f1:=fin (sh.set j (1+x/40%9)) (Ow hs (by lia) j (by lia) _ (by lia));rw[xG] at f1;have e0:(MV.f∘FV.int) (1+x/40%9)=I (1+x/40%9):=rfl;rw[e0] at f1;generalize sh.map (MV.f∘FV.int)=M at *;simp[Qa] at f1;simp[su,c,ln,d6,d40,mj,m9,c0,ix,s0];exact f1
 ·have f1:=fin sh (LK hs (by lia) c);generalize sh.map (MV.f∘FV.int)=M at *;simp[Qa] at f1;simp[su,c];exact f1
end
end MP
end
section
namespace MP
open PySem
noncomputable def uX(v:MV):Prop:=∃ most rows aj sh w cs H W,1<=most/\most<=1000000000000000000000000/\1<=H/\H<=64/\1<=W/\W<=9/\H*W<=72/\Drawn most rows H W/\iy most aj/\aj.length<=8/\jP sh/\tJ w H W cs /\
 v=.f (.tup [.int most,Yd false false rows,w,Ya false sh,Ya false aj])
theorem GC    (d:Drawn most rows H W)(h1:1<=H):(∀ hh,zq true "len" [.f (Yd false false rows)] hh=.ok (I (H:Int)) hh)/\∃ r0,(∀ hh,qb hh (.f (Yd false false rows))=some (rows.map (MV.f∘Ya false)))/\dy (rows.map (MV.f∘Ya false)) 0=some (.f (Ya false r0))/\∀ hh,zq true "len" [.f (Ya false r0)] hh=.ok (I (W:Int)) hh:=by
 have e2:rows.length=H:=d.len;refine⟨λhh=>by simp[Yd,sq,e2],?_⟩;cases rows with
 |nil=>simp at e2;lia
 |cons r0 rs =>
  have e1:=d.pM r0 (by simp);refine⟨r0,λhh=>by simp[Yd],?_,λhh=>by simp[Ya,sq,e1]⟩;have S0:=yu ((r0::rs).map (MV.f∘Ya false)) 0;change dy _ (0:Int)=_ at S0;rw[S0];rfl
section
variable (n:Nat)
theorem Za9(ns)(h)(k)(hk:0<=k)(sx:k+100<1000000):dA (run prog (n+6) "_law_by_draws" [.f (.bP ns),.ref 1] (.code::atC k::h)) λv h'=>uX v/\∃ kk,h'=.code::atC kk::h:=by
 refine dA.of λQ hQ=>?_;obtain⟨most,m1,m2,MO⟩:=zb5 (n+3) h ns k hk (by lia);obtain⟨_,_,RO,rows,H,W,k1,h1,h2,w1,w2,hw,d,a1,a2,rfl,rfl⟩:=Yca (n+3) h ns (k+1) most (by lia) (by lia) m1;obtain⟨_,_,WY,w,cs,k2,wd,a3,a4,rfl,rfl⟩:=Ycx n h H W h1 w1 (by lia) h2 (by lia) ns k1 (by lia) (by lia);obtain⟨_,_,SH,sh,k3,so,a5,a6,rfl,rfl⟩:=QbB (n+3) h ns k2 (by lia) (by lia);obtain⟨_,_,IN,aj,k4,K,il,a7,a8,rfl,rfl⟩:=zch (n+3) h ns k3 most (by lia) (by lia) m1;obtain⟨ln,r0,q,a0,lr⟩:=GC d h1;have lv:=Cy k k4 h (.tup [.int most,Yd false false rows,w,Ya false sh,Ya false aj]);have fY:=hQ (.f (.tup [.int most,Yd false false rows,w,Ya false sh,Ya false aj])) (.code::atC k4::h) ⟨⟨most,rows,aj,sh,w,cs,H,W,m1,m2,h1,h2,w1,w2,hw,d,K,il,so,wd,rfl⟩,_,rfl⟩;generalize (rows.map (MV.f∘Ya false))=R0 at *;generalize Yd false false rows=rv at *;generalize Ya false sh=sv at *;generalize Ya false aj=iv at *;generalize Ya false r0=r0v at *;rw[Yaa];simp only[bN];simp[MO,RO,ln,q,a0,lr,WY,SH,IN,yg,Zk,lv];exact fY
theorem Qb8(ns)(y most)(rows)(H W)(m1:1<=most)(m2:most<=1000000000000000000000000)(h1:1<=H)(h2:H<=64)(w1:1<=W)(w2:W<=9)(hw:H*W<=72)(d:Drawn most rows H W)(C)(sh)(so:jP sh)(z7)(Q:MV->MH->Prop)(hQ:∀ v,uX v->Q v [.code]) :
  dA (yb [.code] (Qa prog (run prog (n+5)) (aq.body.drop 9) [some (.f (.bP ns)),some (.ref 1),some (I most),some (I W),some (.ref 2),some (.f (Yd false false rows)),some (.ref 3),z7,none] [.code,atC y,.lst C,.lst (sh.map (MV.f∘FV.int))])) Q:=by
 have t6:=Ql (n+4) [.lst C,.lst (sh.map (MV.f∘FV.int)),.fI (Qu (Qu [] 0) most)] y 6 (by decide) (.inl (by decide));have h6:=mod_lt y 6 (by decide);obtain⟨T,hT⟩:=Vd h6.1;rw[hT] at t6;generalize y/6=y0 at *;generalize hS:sh.map (MV.f∘FV.int)=S at *;have cd:∀(y:Int) ks,YZ [.code,atC y,.lst C,.lst S,.fI ks] (.ref 4)=some ks:=λy ks=>rfl;obtain⟨ln,_⟩:=GC d h1;simp only[aq,xm,Ul];simp[gJ,cd,t6,qo _ (T:Int) (by lia)];refine Yv (Q:=λr=>dA (yb _ r) _) T (λi σ hh=>∃(ks:List Int)(y:Int)(z7:Option MV),jS most ks (2+i)/\hh=[.code,atC y,.lst C,.lst S,.fI ks]/\σ=[some (.f (.bP ns)),some (.ref 1),some (I most),some (I W),some (.ref 2),some (.f (Yd false false rows)),some (.ref 3),z7,some (.ref 4)]) ⟨_,y0,z7,jS.start m1,rfl,rfl⟩ ?_ ?_
 ·rintro i σ hh sy ⟨ks,y,z7,dk,rfl,rfl⟩ Q hQ;have t:=Ql (n+4) [.lst C,.lst S,.fI ks] y (most+1) (by lia) (.inr (yp (by lia) (by lia)));have hv:=mod_lt y (most+1) (by lia);have sl:ks.length<1000000:=by have:=dk.sz;lia
  generalize y%(most+1)=v at *;generalize y/(most+1)=y' at *;simp[Qm,t,cd,sl];exact hQ _ _ ⟨Qu ks v,y',_,dk.add ⟨by lia,by lia⟩,rfl,rfl⟩
 ·rintro σ hh ⟨ks,y,z7,dk,rfl,rfl⟩;obtain⟨_,_,DW,w,cs,y',wd,rfl,rfl⟩:=qaO n [.lst C,.lst S,.fI ks] H W h1 w1 (by lia) h2 (by lia) y;have F:=Y9 .code [atC y',.lst C] (sh.map FV.int) [.fI ks];have G:=PU .code [atC y',.lst C,.dead,.fI ks] ((Zv ks).map FV.int);have er:FV.lst (sh.map FV.int)=Ya false sh:=rfl;have pb:FV.lst ((Zv ks).map FV.int)=Ya false (Zv ks):=rfl;rw[Ue,hS,er] at F;rw[pb] at G;have hs:=dk.sz;have sl:ks.length<64:=by lia
  have IM:YZ [.code,atC y',.lst C,.dead,.fI ks] (.ref 4)=some ks:=rfl;have fY:=hQ (.f (.tup [.int most,Yd false false rows,w,Ya false sh,Ya false (Zv ks)])) ⟨most,rows,Zv ks,sh,w,cs,H,W,m1,m2,h1,h2,w1,w2,hw,d,dk.aj (by lia),by rw[(ZO ks).length_eq];lia,so,wd,rfl⟩;have GP:∀(x:FV)(t:MH),qg [.code] (.f x) (.code::t)=.ok (.f x) [.code]:=λx t=>YF [.code] t x;generalize Yd false false rows=rv at *;generalize Ya false sh=sv at *;generalize Ya false (Zv ks)=iv at *;have F:ZJ (.ref 3) [.code,atC y',.lst C,.lst S,.fI ks]=.ok (.f sv) [.code,atC y',.lst C,.dead,.fI ks]:=F;have G:ZJ (.ref 5) [.code,atC y',.lst C,.dead,.fI ks,.lst ((Zv ks).map λi=>.f (.int i))]=.ok (.f iv) [.code,atC y',.lst C,.dead,.fI ks,.dead]:=by rw[Ue] at G;exact G
  simp[ln,DW,F,j5,IM,sl,yg,Zk,G,GP];exact fY
end
end MP
end
section
namespace MP
open PySem
theorem Zbw(n)(ns)(y most)(rows)(H W)(m1:1<=most)(m2:most<=1000000000000000000000000)(h1:1<=H)(h2:H<=64)(w1:1<=W)(w2:W<=9)(hw:H*W<=72)(d:Drawn most rows H W)(C)(Q:MV->MH->Prop)(hQ:∀ v,uX v->Q v [.code]) :
  dA (yb [.code] (Qa prog (run prog (n+5)) (aq.body.drop 6) [some (.f (.bP ns)),some (.ref 1),some (I most),some (I W),some (.ref 2),some (.f (Yd false false rows)),none,none,none] [.code,atC y,.lst C])) Q:=by
 have t6:=Ql (n+4) [.lst C,.lst []] y 6 (by decide) (.inl (by decide));have h6:=mod_lt y 6 (by decide);obtain⟨T,hT⟩:=Vd (show 0<=1+y%6 by lia);have DI:=λy sh so z7=>Qb8 n ns y most rows H W m1 m2 h1 h2 w1 w2 hw d C sh so z7 Q hQ;obtain⟨D9,hD⟩:∃ D,aq.body.drop 9=D:=⟨_,rfl⟩;have eb:aq.body.drop 6=(aq.body.drop 6).take 3++D9:=by rw[<- hD];rfl
 simp only[hD] at DI;rw[eb];generalize Yd false false rows=rv at *;have hp:∀ hh,ye true .pow (I 10) (I 21) hh=.ok (I 1000000000000000000000) hh:=λhh=>Y7 true 10 21 (by decide);simp only[aq,xm,Ul,Wm,wE];clear hD eb;simp[t6,hT,qo _ (T:Int) (by lia)];refine Yv (Q:=λr=>dA (yb _ r) _) T (λi σ hh=>∃(sh:List Int)(y:Int)(z7:Option MV),(∀ y∈sh,0<=y/\y<2^100)/\sh.length=i/\hh=[.code,atC y,.lst C,.lst (sh.map (MV.f∘FV.int))]/\σ=[some (.f (.bP ns)),some (.ref 1),some (I most),some (I W),some (.ref 2),some (.f rv),some (.ref 3),z7,none]) ⟨[],y/6,none,by simp,rfl,rfl,rfl⟩ ?_ ?_
 ·rintro i σ hh sy ⟨sh,y,z7,hs,hl,rfl,rfl⟩ Q hQ;have t3:=Ql (n+4) [.lst C,.lst (sh.map (MV.f∘FV.int))] y 3 (by decide) (.inl (by decide));have h3:=mod_lt y 3 (by decide);obtain⟨m,mm1,mm2,em⟩:∃ m:Int,1<=m/\m<=1000000000000000000000/\dy [I 2,I 10,I 1000000000000000000000] (y%3)=some (I m):=by
   obtain⟨w,hw,e⟩:=CS [I 2,I 10,I 1000000000000000000000] _ h3.1 (by simpa using h3.2);simp only[Xa,Vc,or_false] at hw
   rcases hw with rfl|rfl|rfl
   all_goals exact⟨_,by lia,by lia,e⟩
  have t:=Ql (n+4) [.lst C,.lst (sh.map (MV.f∘FV.int))] (y/3) m (by lia) (.inr (yp (by lia) (by lia)));have hv:=mod_lt (y/3) m (by lia);generalize y/3%m=v at *;generalize y/3/m=y' at *;generalize y/3=vJ at *;have ea:sh.map (MV.f∘FV.int)++[I v]=(sh++[v]).map (MV.f∘FV.int):=by simp
  have A:=Co [.code,atC y',.lst C,.lst (sh.map (MV.f∘FV.int))] 3 (sh.map (MV.f∘FV.int)) (I v) rfl (by simp[Zc];lia);have c3:∀ y,Qc [.code,atC y,.lst C,.lst (sh.map (MV.f∘FV.int))] 3=some (sh.map (MV.f∘FV.int)):=λ_=>rfl;have fY:=hQ [some (.f (.bP ns)),some (.ref 1),some (I most),some (I W),some (.ref 2),some (.f rv),some (.ref 3),some (I i),none] [.code,atC y',.lst C,.lst ((sh++[v]).map (MV.f∘FV.int))] ⟨sh++[v],y',_,λq hq=>by
   rcases Xf.mp hq with hq|hq
   ·exact hs q hq
   ·rw[vc.mp hq];lia,by simp[hl],rfl,rfl⟩
  rw[<- ea] at fY;generalize sh.map (MV.f∘FV.int)=M at *;have A:mz "append" (.ref 3) [I v] [.code,atC y',.lst C,.lst M]=.ok (.f .bG) [.code,atC y',.lst C,.lst (M++[I v])]:=A;simp[Qm,c3,t3,hp,Zk,em,t,A];exact fY
 ·rintro σ hh ⟨sh,y,z7,hs,hl,rfl,rfl⟩;have c3:Qc [.code,atC y,.lst C,.lst (sh.map (MV.f∘FV.int))] 3=some (sh.map (MV.f∘FV.int)):=rfl;have su:=Oy _ _ sh c3;by_cases c:sh.sum=0
  ·have D:=DI y (sh.set 0 1) (Ow hs (by lia) 0 (by lia) 1 (by lia)) z7;have ix:=OS sh 0 (by lia);rw[xG] at D;generalize sh.map (MV.f∘FV.int)=M at *;have s3:Ye [.code,atC y,.lst C,.lst M] 3 (M.set 0 (I 1))=[.code,atC y,.lst C,.lst (M.set 0 (I 1))]:=rfl;simp at ix;simp[su,c,c3,ix,s3];exact D
  ·have D:=DI y sh (LK hs (by lia) c) z7;generalize sh.map (MV.f∘FV.int)=M at *;simp[su,c];exact D
end MP
end
section
namespace MP
open PySem
theorem qci(n:Nat)(ns:List Int)(y most:Int)(c:Nat)(ys:List Int)(m1:1<=most)(m2:most<=1000000000000000000000000)(c1:1<=c)(c9:c<=9)(yl:ys.length<=62)(hy:∀ v∈ys,0<=v/\v<=most)(Q:MV->MH->Prop)(hQ:∀ v,uX v->Q v [.code]) :
  dA (yb [.code] (Qa prog (run prog (n+5)) (aq.body.drop 4) [some (.f (.bP ns)),some (.ref 1),some (I most),some (I c),some (.ref 2),none,none,none,none] [.code,atC y,.lst (ys.map (MV.f∘FV.int))])) Q:=by
 obtain⟨T,t1,t2,t3,t4⟩:=OA c ys.length c1;have DS:=λy rows H h1 h2 hw d C=>Zbw n ns y most rows H c m1 m2 h1 h2 c1 c9 hw d C Q hQ;obtain⟨D6,hD⟩:∃ D,aq.body.drop 6=D:=⟨_,rfl⟩;have eb:aq.body.drop 4=(aq.body.drop 4).take 2++D6:=by rw[<- hD];rfl
 simp only[hD] at DS;rw[eb];simp only[aq,xm,Ul,Wm,wE];clear hD eb;simp only[Ut,Xe,Yn,Yo];have c4:∀(y:Int) M,Qc [.code,atC y,.lst M] 2=some M:=λ_ _=>rfl;refine zR (Q:=λr=>dA (yb _ r) _) T (λi σ hh=>∃(xs:List Int)(y:Int),xs.length=ys.length+i/\(∀ v∈xs,0<=v/\v<=most)/\hh=[.code,atC y,.lst (xs.map (MV.f∘FV.int))]/\σ=[some (.f (.bP ns)),some (.ref 1),some (I most),some (I c),some (.ref 2),none,none,none,none]) (by show T<1000000;lia) ⟨ys,y,by simp,hy,rfl,rfl⟩ ?_ ?_ ?_
 ·rintro i σ hh hi ⟨xs,y,xl,hx,rfl,rfl⟩;have M:=Ey (run prog (n+5)) [some (.f (.bP ns)),some (.ref 1),some (I most),some (I c),some (.ref 2),none,none,none,none] _ 2 c xs c1 c9 (by lia) (c4 y (xs.map (MV.f∘FV.int))) rfl rfl;rw[xl] at M;rw[decide_eq_true (t2 i hi)] at M;refine⟨M,λQ hQ=>?_⟩;have t:=Ql (n+4) [.lst (xs.map (MV.f∘FV.int))] y (most+1) (by lia) (.inr (yp (by lia) (by lia)));have hv:=mod_lt y (most+1) (by lia);generalize y%(most+1)=v at *;generalize y/(most+1)=y' at *;have A:=Co [.code,atC y',.lst (xs.map (MV.f∘FV.int))] 2 _ (I v) rfl (by simp[Zc];lia);have fY:=hQ [some (.f (.bP ns)),some (.ref 1),some (I most),some (I c),some (.ref 2),none,none,none,none] [.code,atC y',.lst (xs.map (MV.f∘FV.int)++[I v])] ⟨xs++[v],y',by simp[xl];lia,λu hu=>by
   rcases Xf.mp hu with hu|hu
   ·exact hx u hu
   ·rw[vc.mp hu];lia,by simp,rfl⟩
  generalize xs.map (MV.f∘FV.int)=M0 at *;have A:mz "append" (.ref 2) [I v] [.code,atC y',.lst M0]=.ok (.f .bG) [.code,atC y',.lst (M0++[I v])]:=A;simp[c4,t,A];exact fY
 ·rintro σ hh ⟨xs,y,xl,hx,rfl,rfl⟩;have M:=Ey (run prog (n+5)) [some (.f (.bP ns)),some (.ref 1),some (I most),some (I c),some (.ref 2),none,none,none,none] _ 2 c xs c1 c9 (by lia) (c4 y (xs.map (MV.f∘FV.int))) rfl rfl;rw[xl] at M;rw[decide_eq_false (by lia)] at M;exact M
 ·rintro σ hh ⟨xs,y,xl,hx,rfl,rfl⟩;have C:=LX (run prog (n+5)) [some (.f (.bP ns)),some (.ref 1),some (I most),some (I c),some (.ref 2),none,none,none,none] _ 2 c xs c1 c9 (by lia) (c4 y (xs.map (MV.f∘FV.int))) rfl rfl (by rw[xl];exact t4) (by lia);obtain⟨d1,ID,IC⟩:=OC c xs.length c1 (by lia) (by lia) (by rw[xl];exact t4) (λe=>by lia);have D:=DS y (zQ c xs) (xs.length/c) d1 ID IC (Z9 hx c1) (xs.map (MV.f∘FV.int));simp only[Yn,Yo,C,R.st_ok,yr,qt,RS.c6,Wp,Xs];exact D
end MP
end
section
namespace MP
open PySem
theorem ZaP(n)(n0)(ns):dA (run prog (n+6) "_law_by_digits" [.f (.bP (n0::ns))] [.code]) λv h'=>uX v/\h'=[.code]:=by
 refine dA.of λQ hQ=>?_;have q0:∀ hh,qb hh (.f (.bP (n0::ns)))=some (I n0::ns.map (MV.f∘FV.int)):=λhh=>rfl;have a0:dy (I n0::ns.map (MV.f∘FV.int)) 0=some (I n0):=EL _ _;have d2:∀ hh,ye true .fdiv (I n0) (I 2) hh=.ok (I (n0/2)) hh:=λhh=>zm _ _ _ ⟨by decide,.inl (by decide)⟩;generalize n0/2=x at d2;have t4:=Ql (n+4) [] x 4 (by decide) (.inl (by decide));have h4:=mod_lt x 4 (by decide);have hp:∀ hh,ye true .pow (I 10) (I 24) hh=.ok (I 1000000000000000000000000) hh:=λhh=>Y7 true 10 24 (by decide);obtain⟨m,mm1,mm2,em⟩:∃ m:Int,1<=m/\m<=1000000000000000000000000/\dy [I 1,I 3,I 255,I 1000000000000000000000000] (x%4)=some (I m):=by
  obtain⟨w,hw,e⟩:=CS [I 1,I 3,I 255,I 1000000000000000000000000] _ h4.1 (by simpa using h4.2);simp only[Xa,Vc,or_false] at hw
  rcases hw with rfl|rfl|rfl|rfl
  all_goals exact⟨_,by lia,by lia,e⟩
 have tm:=Ql (n+4) [] (x/4) m (by lia) (.inr (yp (by lia) (by lia)));have hv:=mod_lt (x/4) m (by lia);generalize x/4%m=v at *;generalize x/4/m=y at *;generalize x/4=y' at *;have t9:=Ql (n+4) [] y 9 (by decide) (.inl (by decide));have h9:=mod_lt y 9 (by decide);obtain⟨c,hc⟩:=Vd (show 0<=1+y%9 by lia);generalize y/9=vJ at *;have CE:=KP (run prog (n+5)) [some (.f (.bP (n0::ns))),some (.ref 1),some (I (1+v)),some (I c),none,none,none,none,none] [.code,atC vJ] (n0::ns) (1+v) (by lia) (some (.cI 1)) (some 1) 1 (by lia) (λhh=>by simp[yZ]) (.inl rfl) rfl rfl;have DR:=qci n (n0::ns) vJ (1+v) c ((((n0::ns).drop 1).take (63-1)).map λx=>x%(1+v+1)) (by lia) (by lia) (by lia) (by lia) (by simp;lia) (λu hu=>by
  obtain⟨w,_,rfl⟩:=ud.mp hu;have:=mod_lt w (1+v+1) (by lia)
  lia) Q λv hv=>hQ v _ ⟨hv,rfl⟩
 generalize (((n0::ns).drop 1).take (63-1)).map (λx=>x%(1+v+1))=ys at *;obtain⟨D4,hD⟩:∃ D,aq.body.drop 4=D:=⟨_,rfl⟩;have eb:aq.body=aq.body.take 4++D4:=by rw[<- hD];rfl
 simp only[hD] at DR;rw[Q3,eb];simp only[aq,Wm,wE];clear hD eb;generalize DN:FV.bP (n0::ns)=sv at *;generalize ys.map (MV.f∘FV.int)=M at *;have e0:ya prog (run prog (n+5)) (.lst false [.bin true .fdiv (.sub (.var 0) (.cI 0)) (.cI 2)]) [some (.f sv),none,none,none,none,none,none,none,none] [.code]=.ok (.ref 1) [.code,atC x]:=by simp[q0,a0,d2]
 have e1:ya prog (run prog (n+5)) (.bin true .add (.cI 1) (.call "_law_take" [.var 1,.sub (.lst true [.cI 1,.cI 3,.cI 255,.bin true .pow (.cI 10) (.cI 24)]) (.call "_law_take" [.var 1,.cI 4])])) [some (.f sv),some (.ref 1),none,none,none,none,none,none,none] [.code,atC x]=.ok (I (1+v)) [.code,atC y]:=by simp[hp,Zk,t4,em,tm]
 have e2:ya prog (run prog (n+5)) (.bin true .add (.cI 1) (.call "_law_take" [.var 1,.cI 9])) [some (.f sv),some (.ref 1),some (I (1+v)),none,none,none,none,none,none] [.code,atC y]=.ok (I c) [.code,atC vJ]:=by simp[t9,hc]
 simp only[Ut,Xe,Yn,Yo,e0,e1,e2,CE,R.st_ok,yr,qt,RS.c6,Wp,Xs];exact DR
theorem ZS(n:Nat)(h:MH):∀(d:Nat)(x:FV),isQ d x=true->run prog (n+d) "_law_same" [.f x,.f x] h=.ok (B true) h
 |0,x,e=>by cases x <;> simp[isQ] at e
 |d+1,x,e=>by
  rw[show n+(d+1)=(n+d)+1 from rfl,yaL];simp only[dh];cases x with
  |bG=>simp[isQ] at e
  |bl b=>simp[isQ] at e
  |int i=>simp
  |str s=>simp[isQ] at e;simp[YcD _ _ e e]
  |tup xs =>
   simp[isQ] at e;simp[JI,Xc,MP.stM];rw[zn (e:=λx=>MV.f (.tup [x,x])) (g:=λ_=>B true) (caps:=[]) xs [] none none (by simpa using e.1) (λy hy z w=>⟨some (.f y),some (.f y),by simp[Qi,ZS n h d y (e.2 y hy)]⟩)];simp[Xc]
  |lst xs =>
   simp[isQ] at e;simp[JI,Xc,MP.stM];rw[zn (e:=λx=>MV.f (.tup [x,x])) (g:=λ_=>B true) (caps:=[]) xs [] none none (by simpa using e.1) (λy hy z w=>⟨some (.f y),some (.f y),by simp[Qi,ZS n h d y (e.2 y hy)]⟩)];simp[Xc]
  |obj c ns vs=>simp[isQ] at e
  |bP ns=>simp[isQ] at e
  |tab ns=>simp[isQ] at e
  |cY ns=>simp[isQ] at e
end MP
end
section
namespace MP
open PySem
section
variable (n:Nat) (h:MH)
theorem Ybd(n0)(ns)(want)(hl:ns.length<=1000):run prog (n+1) "_law_nearest" [.f (Ya false (n0::ns)),I want] h=.ok (I (Yj want n0 ns)) h:=by
 have q:qb h (.f (Ya false (n0::ns)))=some (I n0::ns.map (MV.f∘FV.int)):=by simp[Ya]
 have a0:dy (I n0::ns.map (MV.f∘FV.int)) 0=some (I n0):=EL _ _;have g0:Qb h (.f (Ya false (n0::ns)))=[]:=by simp[Ya]
 have ab:∀ i j:Int,(if i-j<0 then -(i-j) else i-j)=kE i j:=λi j=>rfl;generalize hx:Ya false (n0::ns)=x at *;rw[zag];simp only[bS];simp[q,a0,Yp,g0];rw[show(I n0::ns.map (MV.f∘FV.int))=(n0::ns).map (MV.f∘FV.int) from rfl,ZD (e:=MV.f∘FV.int) (st:=λz:Int×Option MV=>[some (.f x),some (I want),some (I z.1),z.2]) (hp:=λ_=>h) (f:=λz k=>(if kE want k<kE want z.1 then k else z.1,some (I k))) (n0::ns) (n0,none)]
 ·have e:∀(ns:List Int)(z:Int×Option MV),(ns.foldl (λz k=>(if kE want k<kE want z.1 then k else z.1,some (I k))) z).1=Yj want z.1 ns:=by
   intro ns
   induction ns with
   |nil=>intro z;rfl
   |cons k r ih=>intro z;rw[Wh,ih];rfl
  simp;exact e ns (n0,some (I n0))
 ·rintro k hk z;by_cases c:kE want k<kE want z.1
  ·simp[Qm,ab,c]
  ·simp[Qm,ab,c]
theorem YbO(l):(l.zip (l.drop 1)).map (λp=>p.2-p.1)=yh l:=by
 have z:=@List.zip_eq_zip_take_min Int Int l (l.drop 1);have e:min l.length (l.drop 1).length=l.length-1:=by simp
 rw[e,xi (l:=l.drop 1) (by simp)] at z;rw[<- KS,z]
theorem zcq(aj)(h2:2<=aj.length)(hl:aj.length<=1000):run prog (n+1) "_law_half" [.f (Ya false aj)] h=.ok (I (Qy (yh aj)/2)) h:=by
 have V:bY h (.f (Ya false aj)) aj:=bY.row _ _ _;obtain⟨b2,s2⟩:=V.slice (JK aj (by lia));have qr:∀ b r,qb h (.f (Ya b r))=some (r.map (MV.f∘FV.int)):=λb r=>by simp[Ya]
 have g1:∀ b r,Qb h (.f (Ya b r))=[]:=λb r=>by simp[Ya]
 have zg:=YbO aj;have ne:yh aj≠[]:=by
  intro e;have:=congrArg wu e;simp[yh] at this
  lia
 have mx:=JJ true h (.f (Ya false (yh aj))) (yh aj) (by simp[Ya]) ne;have GW:gE "zip" [.f (Ya false aj),.f (Ya b2 (aj.drop 1))] h=some ((aj.zip (aj.drop 1)).map (λp:Int×Int=>MV.f (.tup [.int p.1,.int p.2])),[]):=by
  have e:=GD FV.int FV.int aj (aj.drop 1);simp only[Fg,qr,g1,xh,vf,xk];rw[e]
 have d2:∀ x hh,ye true .fdiv (I x) (I 2) hh=.ok (I (x/2)) hh:=λx hh=>zm _ _ _ ⟨by decide,.inl (by decide)⟩;have EW:(aj.zip (aj.drop 1)).length<=aC:=by simp[Zc];lia
 have nz:Qr true ((aj.zip (aj.drop 1)).map λp=>I (p.2-p.1)) h=.ok (.f (Ya false (yh aj))) h:=by
  have e:((aj.zip (aj.drop 1)).map λp=>I (p.2-p.1))=((yh aj).map FV.int).map MV.f:=by rw[<- zg];simp[Xc]
  rw[e,Qe];rfl
 generalize Ya false (yh aj)=gv at *;generalize Ya b2 (aj.drop 1)=dv at *;generalize Ya false aj=iv at *;rw[YaN];simp only[dn];simp only[Yn,Yo,ya,Zg,yZ,wC,VB,zc,R.ay,JY,s2,GW,stM,xc,Ui,xk,rn];rw[zn (e:=λp:Int×Int=>MV.f (.tup [.int p.1,.int p.2])) (g:=λp=>I (p.2-p.1)) (caps:=[]) (aj.zip (aj.drop 1)) [] none none (by simpa using EW) (λp _ z w=>⟨some (I p.1),some (I p.2),by simp[Qi]⟩)];simp only[Xe,R.ay,nz,mx,d2,R.st_ok,RS.lN,Lf,Ybz]
end
end MP
end
section
namespace MP
open PySem
theorem Pr(sh L)(k)(h:L.length<=k):Yk (sh.take k) L=Yk sh L:=by
 rw[<- Fe (sh.take k) L,<- Fe sh L,List.take_take,Vm,show min (min (min k sh.length) L.length) k=min sh.length L.length by lia]
section
variable (n:Nat) (h:MH)
theorem qcF(most:Int)(rows:List (List Int))(H W:Nat)(d:Drawn most rows H W)(hm:1<=most)(pZ:most<2^100)(cs:List (Nat×Nat))(hc:∀ c∈cs,c.1<H/\c.2<W)(kM:cs.length<=300)(sh:List Int)(n0:Int)(ns:List Int)(s:jP sh)(sy:ns.length<=100)(z:(0:Int)∈n0::ns)(m:most∈n0::ns) :
  run prog (n+2) "_law_ledger" [.f (Yd false false rows),.f (.lst (cs.map Za)),.f (Ya false sh),.f (Ya false (n0::ns))] h=.ok (.f (.lst ((Yb sh n0 ns (br rows) (cs.map cZ)).map Qd))) h:=by
 refine dA.eq λQ hQ=>?_;have it:∀ hh,gE "seq" [.f (.lst (cs.map Za))] hh=some (cs.map λc=>MV.f (Za c),[]):=λhh=>by
  have q:qb hh (.f (.lst (cs.map Za)))=some (cs.map λc=>MV.f (Za c)):=by simp[Xc]
  have g:Qb hh (.f (.lst (cs.map Za)))=[]:=rfl;simp only[Yp,q,vf,g]
 have INK:=λhh want=>Ybd n hh n0 ns want (by lia);have qs:∀ hh,qb hh (.f (Ya false sh))=some (sh.map (MV.f∘FV.int)):=λhh=>by simp[Ya]
 have ls:∀ hh,zq true "len" [.f (Ya false sh)] hh=.ok (I (sh.length:Int)) hh:=λhh=>by simp[Ya,sq]
 have ss:∀ hh,zq true "sum" [.f (Ya false sh)] hh=.ok (I sh.sum) hh:=λhh=>by
  simp only[zv,zL,EJ,Yw,yV,YV,yX,Di,YU,YW,qs,xh,ql,zc]
 have qr:∀ hh,qb hh (.f (Yd false false rows))=some (rows.map (MV.f∘Ya false)):=λhh=>by simp[Yd]
 have RC:∀ c∈cs,∃ r,dy (rows.map (MV.f∘Ya false)) (c.1:Int)=some (.f (Ya false r))/\(∀ hh,qb hh (.f (Ya false r))=some (r.map (MV.f∘FV.int)))/\dy (r.map (MV.f∘FV.int)) (c.2:Int)=some (I (br rows (cZ c))):=λc n6=>by
  have oY:=hc c n6;obtain⟨r,e1,e2,_⟩:=uU d (p:=cZ c) ⟨by simp[cZ],by simp[cZ];lia,by simp[cZ],by simp[cZ];lia⟩;refine⟨r,?_,λhh=>by simp[Ya],?_⟩
  ·rw[yu,Wb,show rows[c.1]?=some r by simpa[cZ] using e1];rfl
  ·rw[yu,Wb,show r[c.2]?=some (br rows (cZ c)) by simpa[cZ] using e2];rfl
 have w0:=s.one;have ws:=yW s;generalize Ya false (n0::ns)=inv at *;generalize DN:Ya false sh=sv at *;generalize Yd false false rows=rv at *;generalize hcl2:FV.lst (cs.map Za)=uM at *;rw[Qao];simp only[ck];simp[it];refine Dj (Q:=λr=>dA (yb _ r) _) (e:=λc=>MV.f (Za c)) cs (λi σ hh=>∃(z7 z8 z9 mL nV nU nT:Option MV),hh=h++[.lst ((Yb sh n0 ns (br rows) ((cs.take i).map cZ)).map λe=>.f (Qd e)),.lst ((Yb sh n0 ns (br rows) ((cs.take i).map cZ)).map λe=>I e.left)] /\
  σ=[some (.f rv),some (.f uM),some (.f sv),some (.f inv),some (.ref h.length),some (.ref (h.length+1)),some (I (qv (Yb sh n0 ns (br rows) ((cs.take i).map cZ)))),z7,z8,z9,mL,nV,nU,nT]) ⟨none,none,none,none,none,none,none,by simp[Yb],by simp[Yb,qv]⟩ ?_ ?_
 ·rintro i c σ hh Bz ⟨z7,z8,z9,mL,nV,nU,nT,rfl,rfl⟩ Q hQ;have n6:=ue Bz;have E:Yb sh n0 ns (br rows) ((cs.take (i+1)).map cZ)=Yb sh n0 ns (br rows) ((cs.take i).map cZ)++[hX sh n0 ns (br rows (cZ c)) (Yb sh n0 ns (br rows) ((cs.take i).map cZ)) (cZ c)]:=by
   rw[ww,Bz];simp only[uG,Vh,xb,Ui];exact zo ..
  have ok:=i5.all (f:=br rows) (by lia) s z m ((cs.take i).map cZ) (λp hp=>by
   obtain⟨c',cQ,rfl⟩:=ud.mp hp;have oY:=hc c' (xq cQ);obtain⟨r,_,_,q⟩:=uU d (p:=cZ c') ⟨by simp[cZ],by simp[cZ];lia,by simp[cZ],by simp[cZ];lia⟩;exact q)
  have el:(Yb sh n0 ns (br rows) ((cs.take i).map cZ)).length<=300:=by
   rw[zx];simp;lia
  obtain⟨r,ra,rq,rc⟩:=RC c n6;simp only[E] at hQ;generalize Yb sh n0 ns (br rows) ((cs.take i).map cZ)=es at *;have gl:=Js (by lia) s ok;have lc:Qc (h++[.lst (es.map λe=>.f (Qd e)),.lst (es.map λe=>I e.left)]) (h.length+1)=some (es.map λe=>I e.left):=by
   have:=zi (h++[.lst (es.map λe=>MV.f (Qd e))]) [] (es.map λe=>I e.left);simpa using this
  have ll:zq true "len" [.ref (h.length+1)] (h++[.lst (es.map λe=>.f (Qd e)),.lst (es.map λe=>I e.left)])=.ok (I (es.length:Int)) (h++[.lst (es.map λe=>.f (Qd e)),.lst (es.map λe=>I e.left)]):=by
   simp only[zv,zL,EJ,Yw,yV,YV,yX,Di,YU,YW,qb,lc,zc,Wc]
  have tX:∀ hh,gE "enumerate" [.f sv] hh=some (sh.zipIdx.map λp=>MV.f (.tup [.int p.2,.int p.1]),[]):=λhh=>by
   have g:Qb hh (.f sv)=[]:=by rw[<- DN];rfl
   rw[J0,qs,vf,KR FV.int sh,g]
  simp[Qm,tX];have L0:(es.map (·.left)).reverse.length=es.length:=by simp
  refine Dj (Q:=λr=>Nx r _) (e:=λp:Int×Nat=>MV.f (.tup [.int p.2,.int p.1])) sh.zipIdx (λj σ hh=>∃(z9 mL:Option MV),hh=h++[.lst (es.map λe=>.f (Qd e)),.lst (es.map λe=>I e.left)]/\σ=[some (.f rv),some (.f uM),some (.f sv),some (.f inv),some (.ref h.length),some (.ref (h.length+1)),some (I (qv es)),some (.f (Za c)),some (I (qv es+Yk (sh.take j) (es.map (·.left)).reverse)),z9,mL,nV,nU,nT]) ⟨z9,mL,rfl,by simp[Yk]⟩ ?_ ?_
  ·rintro j p σ hh hj ⟨z9,mL,rfl,rfl⟩ Q hQ;have j1:j<sh.length:=by have:=(xa.mp hj).1;simpa using this
   have hp:p=(sh.getD j 0,j):=by
    rw[UE,va j1] at hj;simp at hj;rw[<- hj];simp[Xi,j1]
   subst hp;by_cases j2:j<es.length
   ·have e1:=La sh (es.map (·.left)).reverse j j1 (by rw[L0];exact j2);obtain⟨e,he⟩:∃ e,es.reverse[j]?=some e:=⟨es.reverse[j]'(by simpa using j2),by simp[j2]⟩;have sA:e∈es:=xx.mp (ue he);have gd:(es.map (·.left)).reverse.getD j 0=e.left:=by
     rw[Xi,<- xr,Wb,he];rfl
    have al:dy (es.map λe=>I e.left) ((es.length:Int)-1-j)=some (I e.left):=by
     have e0:((es.length:Int)-1-j)=((es.length-1-j:Nat):Int):=by lia
     rw[e0,yu,Wb];have:=he;rw[VD j2] at this;rw[this];rfl
    have Ml:sh.getD j 0∈sh:=by simp[Xi,j1]
    have mu:zB (sh.getD j 0) e.left:=.inr (.inr ⟨yp (by have:=s.nn _ Ml;lia) (by have:=s.nn _ Ml;lia),yp (by have:=ok.l e sA;lia) (by have:=ok.l e sA;lia)⟩);rw[gd] at e1;simp only[e1] at hQ;generalize Yk (sh.take j) (es.map (·.left)).reverse=du at *;generalize sh.getD j 0=y at *;have fY:=hQ [some (.f rv),some (.f uM),some (.f sv),some (.f inv),some (.ref h.length),some (.ref (h.length+1)),some (I (qv es)),some (.f (Za c)),some (I (qv es+du+y*e.left)),some (I j),some (I y),nV,nU,nT] _ ⟨_,_,rfl,by rw[Int.add_assoc]⟩;generalize (es.map λe=>I e.left)=M2 at *;generalize (es.map λe=>MV.f (Qd e))=M1 at *;simp[Qm,ll,j2,lc,al,zr,mu];exact fY
   ·have e1:Yk (sh.take (j+1)) (es.map (·.left)).reverse=Yk (sh.take j) (es.map (·.left)).reverse:=by
     rw[Pr _ _ _ (by rw[L0];lia),Pr _ _ _ (by rw[L0];lia)]
    simp only[e1] at hQ;generalize Yk (sh.take j) (es.map (·.left)).reverse=du at *;generalize sh.getD j 0=y at *;have fY:=hQ [some (.f rv),some (.f uM),some (.f sv),some (.f inv),some (.ref h.length),some (.ref (h.length+1)),some (I (qv es)),some (.f (Za c)),some (I (qv es+du)),some (I j),some (I y),nV,nU,nT] _ ⟨_,_,rfl,rfl⟩;generalize (es.map λe=>I e.left)=M2 at *;generalize (es.map λe=>MV.f (Qd e))=M1 at *;simp[Qm,ll,j2];exact fY
  ·rintro σ hh ⟨z9,mL,rfl,rfl⟩;rw[show sh.zipIdx.length=sh.length by simp,Uo];have du:qv es+Yk sh (es.map (·.left)).reverse=Qk sh es:=rfl;rw[du];have b1:∀ hh,ye true .fdiv (I (Qk sh es)) (I sh.sum) hh=.ok (I (Qk sh es/sh.sum)) hh:=λhh=>zm _ _ _ ⟨by lia,.inr (yp (by lia) (by lia))⟩;have mu:zB (Qk sh es/sh.sum) sh.sum:=.inr (.inr ⟨yp (by lia) (by lia),yp (by lia) (by lia)⟩);have b2:∀ hh,ye true .mul (I (Qk sh es/sh.sum)) (I sh.sum) hh=.ok (I (Qk sh es/sh.sum*sh.sum)) hh:=λhh=>zr _ _ _ mu;have od:Qk sh es-Qk sh es/sh.sum*sh.sum=Qk sh es%sh.sum:=by rw[Int.emod_def,Wr]
   have IU:dy [I (c.1:Int),I (c.2:Int)] 0=some (I (c.1:Int)):=rfl;have IT:dy [I (c.1:Int),I (c.2:Int)] 1=some (I (c.2:Int)):=rfl;have sc:∀ hh,qb hh (.f (Za c))=some [I (c.1:Int),I (c.2:Int)]:=λhh=>rfl;have fc:Qc (h++[.lst (es.map λe=>.f (Qd e)),.lst ((es.map λe=>I e.left)++[I (hX sh n0 ns (br rows (cZ c)) es (cZ c)).left])]) h.length=some (es.map λe=>.f (Qd e)):=zi h _ _;have s1:∀ ys,Ye (h++[.lst (es.map λe=>.f (Qd e)),.lst (es.map λe=>I e.left)]) (h.length+1) ys=h++[.lst (es.map λe=>.f (Qd e)),.lst ys]:=λys=>by
    have:=Zq (h++[.lst (es.map λe=>MV.f (Qd e))]) [] (es.map λe=>I e.left) ys;simpa using this
   have s2:∀ M ys,Ye (h++[.lst (es.map λe=>.f (Qd e)),.lst M]) h.length ys=h++[.lst ys,.lst M]:=λM ys=>Zq h _ _ _;have ml1:(es.map λe=>MV.f (Qd e)).length<aC:=by rw[Zc,Wc];lia
   have ml2:(es.map λe=>I e.left).length<aC:=by rw[Zc,Wc];lia
   have fY:=hQ [some (.f rv),some (.f uM),some (.f sv),some (.f inv),some (.ref h.length),some (.ref (h.length+1)),some (I (Qk sh es%sh.sum)),some (.f (Za c)),some (I (Qk sh es)),z9,mL,some (I (Qk sh es/sh.sum)),some (I (br rows (cZ c)+Qk sh es/sh.sum)),some (I (Yj (br rows (cZ c)+Qk sh es/sh.sum) n0 ns))]
    (h++[.lst ((es.map λe=>.f (Qd e))++[.f (Qd (hX sh n0 ns (br rows (cZ c)) es (cZ c)))]),.lst ((es.map λe=>I e.left)++[I (hX sh n0 ns (br rows (cZ c)) es (cZ c)).left])]) ⟨_,_,_,_,_,_,_,by simp,by rw[qK];rfl⟩
   have em:Qd (hX sh n0 ns (br rows (cZ c)) es (cZ c))=.tup [Za c,.int (Qk sh es/sh.sum),.int (Yj (br rows (cZ c)+Qk sh es/sh.sum) n0 ns),.int (br rows (cZ c)+Qk sh es/sh.sum-Yj (br rows (cZ c)+Qk sh es/sh.sum) n0 ns),.int (Qk sh es%sh.sum)]:=rfl;have NW:(hX sh n0 ns (br rows (cZ c)) es (cZ c)).left=br rows (cZ c)+Qk sh es/sh.sum-Yj (br rows (cZ c)+Qk sh es/sh.sum) n0 ns:=rfl;rw[em,NW] at fY;rw[NW] at fc;generalize (es.map λe=>I e.left)=M2 at *;generalize (es.map λe=>MV.f (Qd e))=M1 at *;generalize DX:Za c=cn at *;generalize br rows (cZ c)=x at *;generalize (rows.map (MV.f∘Ya false))=R0 at *;generalize (r.map (MV.f∘FV.int))=R1 at *;generalize Ya false r=r1 at *;simp[ss,b1,b2,od,qr,sc,IU,IT,ra,rq,rc,INK,lc,ml2,s1,yg,Zk,fc,ml1,s2];exact fY
 ·rintro σ hh ⟨z7,z8,z9,mL,nV,nU,nT,rfl,rfl⟩;rw[Uo];obtain⟨t',F⟩:=EI h [.lst ((Yb sh n0 ns (br rows) (cs.map cZ)).map λe=>I e.left)] ((Yb sh n0 ns (br rows) (cs.map cZ)).map Qd);rw[Ue] at F;simp only[Xc] at F;have lv:=YF h t' (.lst ((Yb sh n0 ns (br rows) (cs.map cZ)).map Qd));generalize ((Yb sh n0 ns (br rows) (cs.map cZ)).map λe=>MV.f (Qd e))=M at *;generalize ((Yb sh n0 ns (br rows) (cs.map cZ)).map λe=>I e.left)=M2 at *;generalize ((Yb sh n0 ns (br rows) (cs.map cZ)).map Qd)=M3 at *;simp[F,lv];exact hQ _ _ ⟨rfl,rfl⟩
end
end MP
end
section
namespace MP
open PySem
theorem LY(H W):∀(ps:List ((Int×Int)×Int)) (R:List (List Int)),R.length=H->(∀ r∈R,r.length=W)->(ym R ps).length=H/\∀ r∈ym R ps,r.length=W
 |[],R,a,b=>⟨a,b⟩
 |p::ps,R,a,b=>by
  refine LY H W ps (QA R p.1.1.toNat p.1.2.toNat p.2) (by rw[yD];exact a) λr hr=>?_
  rcases qL hr with hr|⟨r0,mR,rfl⟩
  ·exact b r hr
  ·simp;exact b r0 mR
theorem zca(h)(L)(hl:L<=aC):ye false .mul (.f (.lst [.int 0])) (I (L:Int)) h=.ok (.ref h.length) (h++[ZB (xc L 0)]):=by
 have fl:∀ L:Nat,(xc L [I 0]).flatten=(xc L (0:Int)).map λi=>MV.f (.int i):=λL=>by
  induction L with
  |zero=>rfl
  |succ L ih=>rw[Vj,Vp,ih,Vj];rfl
 rw[Zc] at hl;unfold ye;simp only[zbN,JY,Zbx,zc,xb,Ui,Uc,vh];rw[if_pos (by rw[Zc];lia),Uj,fl];rfl
section
variable (n:Nat) (h:MH)
theorem YbZ(most:Int)(rows:List (List Int))(H W:Nat)(d:Drawn most rows H W)(h1:1<=H)(hH:H<=64)(hW:W<=64)(es:List Ent)(kL:∀ e∈es,0<=e.p.1/\e.p.1<H/\0<=e.p.2/\e.p.2<W) :
  run prog (n+4) "_law_dots" [.f (Qn most (ym (Yf H W) (es.map λe=>(e.p,e.eg)))),I most,.f (Yd false false rows),.f (.lst (es.map Qd))] h=.ok (B true) h:=by
 have it:∀ hh,gE "seq" [.f (Yd false false rows)] hh=some (rows.map (MV.f∘Ya false),[]):=λhh=>by simp[Yp,Yd]
 have it3:∀ hh,gE "seq" [.f (.lst (es.map Qd))] hh=some (es.map λe=>MV.f (Qd e),[]):=λhh=>by
  have q:qb hh (.f (.lst (es.map Qd)))=some (es.map λe=>MV.f (Qd e)):=by simp[Xc]
  have g:Qb hh (.f (.lst (es.map Qd)))=[]:=rfl;simp only[Yp,q,vf,g]
 have hz:rows.length<=aC:=by rw[d.len,Zc];lia
 have ez:rows.map (λr=>r.map λ_=>(0:Int))=Yf H W:=by
  unfold Yf;rw[<- d.len];apply Vg;intro i;rw[Wb,xo];by_cases hi:i<rows.length
  ·rw[if_pos hi,va hi];have:=d.pM rows[i] (vk hi);simp[Kn,this]
  ·rw[if_neg hi,Xh (by lia)];rfl
 have zF:=LY H W (es.map λe=>(e.p,e.eg)) (Yf H W) (by simp[Yf]) (λr hr=>by rw[Vk hr];simp);generalize hrv:Yd false false rows=rv at *;generalize hev:FV.lst (es.map Qd)=ev at *;generalize NA:Qn most (ym (Yf H W) (es.map λe=>(e.p,e.eg)))=pv at *;rw[qaM];simp only[dq];simp[it,MP.stM];rw[Pw _ (MV.f∘Ya false) (λr=>r.map λ_=>(0:Int)) rows (λr hr z h=>⟨some (.f (Ya false r)),by
  have hl:r.length<=aC:=by rw[d.pM r hr,Zc];lia
  have ml:=zca h r.length hl;have lr:zq true "len" [.f (Ya false r)] h=.ok (I (r.length:Int)) h:=by simp[Ya,sq]
  have e0:r.map (λ_=>(0:Int))=xc r.length 0:=Kn;rw[e0];simp[Qi,Zk,lr,ml]⟩) [] none h (by simpa using hz)]
 simp only[R.ay,YN,R.st_ok,Xe];rw[ez];have zl:(Yf H W).length=rows.length:=by rw[d.len];simp[Yf]
 have zw:∀ r∈Yf H W,r.length=W:=λr hr=>by rw[Vk hr];simp
 have eo:(h++(Yf H W).map ZB)++[.lst ((uc rows.length).map λi=>MV.ref (h.length+i))]=own h (Yf H W):=by rw[<- zl];simp[own]
 have el:(h++(Yf H W).map ZB).length=h.length+rows.length:=by simp[zl]
 rw[eo,el];have G9:rows.length=H:=d.len;rw[G9];rw[G9] at zl;have L:=Y4 (bd:=Qm (.tp [.nm 5,.nm 6,.nm 7,.nm 8,.nm 9]) (Qa prog (run prog (n+3)) [MS.dO ((ME.var 4).sub ((ME.var 5).sub (ME.cI 0))) ((ME.var 5).sub (ME.cI 1)) (ME.var 7)])) (e:=λe=>MV.f (Qd e))
  (st:=λb':List (List Int)×Option MV×Option MV×Option MV×Option MV×Option MV=>[some (MV.f pv),some (I most),some (MV.f rv),some (MV.f ev),some (MV.ref (h.length+H)),b'.2.1,b'.2.2.1,b'.2.2.2.1,b'.2.2.2.2.1,b'.2.2.2.2.2]) (hp:=λb'=>own h b'.1)
  (f:=λb' e=>(QA b'.1 e.p.1.toNat e.p.2.toNat e.eg,some (.f (Yq e.p)),some (I e.got),some (I e.eg),some (I e.left),some (I e.odd))) (λb'=>b'.1.length=H/\∀ r∈b'.1,r.length=W) es (Yf H W,none,none,none,none,none) ⟨zl,zw⟩ (λe sA b' kN=>by
   obtain⟨hl,hw⟩:=kN;obtain⟨p1,p2,p3,p4⟩:=kL e sA;have mD:e.p.1.toNat<b'.1.length:=by lia
   have er:b'.1[e.p.1.toNat]?=some b'.1[e.p.1.toNat]:=by simp[mD]
   have hj:=hw _ (ue er);have e1:dy ((uc H).map λi=>MV.ref (h.length+i)) e.p.1=some (.ref (h.length+e.p.1.toNat)):=by
    rw[zV _ _ p1];rw[Wb,Xo (by lia)];rfl
   have e2:lu b'.1[e.p.1.toNat].length e.p.2=some e.p.2.toNat:=by
    unfold lu;rw[if_pos p3,if_pos (by rw[hj];exact p4)]
   have ht:=u4 h b'.1;rw[hl] at ht;have sE:zk (.f (Qd e))=some [MV.f (Yq e.p),I e.got,I e.eg,I e.left,I e.odd]:=rfl;refine⟨?_,by rw[yD];exact hl,λr hr=>?_⟩
   ·simp[Qm,sE,ht,e1,Cn h b'.1 _ _ er,e2];exact LF h b'.1 _ _ _ e.eg er
   ·rcases qL hr with hr|⟨r0,mR,rfl⟩
    ·exact hw r hr
    ·simp;exact hw r0 mR)
 obtain⟨L1,L2⟩:=L;have iP:(es.foldl (λ(b':List (List Int)×Option MV×Option MV×Option MV×Option MV×Option MV) e=>(QA b'.1 e.p.1.toNat e.p.2.toNat e.eg,some (MV.f (Yq e.p)),some (I e.got),some (I e.eg),some (I e.left),some (I e.odd))) (Yf H W,none,none,none,none,none)).1=ym (Yf H W) (es.map λe=>(e.p,e.eg)):=by
  have key:∀(l:List Ent)(b:List (List Int)×Option MV×Option MV×Option MV×Option MV×Option MV),(l.foldl (λ(b':List (List Int)×Option MV×Option MV×Option MV×Option MV×Option MV) e=>(QA b'.1 e.p.1.toNat e.p.2.toNat e.eg,some (MV.f (Yq e.p)),some (I e.got),some (I e.eg),some (I e.left),some (I e.odd))) b).1=ym b.1 (l.map λe=>(e.p,e.eg)):=by
   intro l
   induction l with
   |nil=>intro b;rfl
   |cons e l ih=>intro b;rw[Wh,ih];rfl
  exact key es _
 rw[iP] at L2;obtain⟨L2l,L2w⟩:=L2;generalize hfin:(es.foldl (λ(b':List (List Int)×Option MV×Option MV×Option MV×Option MV×Option MV) e=>(QA b'.1 e.p.1.toNat e.p.2.toNat e.eg,some (MV.f (Yq e.p)),some (I e.got),some (I e.eg),some (I e.left),some (I e.odd))) (Yf H W,none,none,none,none,none))=fin at *;obtain⟨made,z3,z4,z5,z6,z7⟩:=fin;simp only at iP L1;subst iP;generalize ym (Yf H W) (es.map λe=>(e.p,e.eg))=made at *;have p1:∀ hh,mM prog.iZ "rows" (.f pv) hh=some (.f (Yd true true made)):=λhh=>by rw[<- NA];simp[Qn]
 have p2:∀ hh,mM prog.iZ "most" (.f pv) hh=some (I most):=λhh=>by rw[<- NA];simp[Qn]
 have S3:=λhh=>ZS n hh 3 _ (yb2 true true made (by lia) (λr hr=>by have:=zF.2 r hr;lia));have ht:=u4 h made;rw[L2l] at ht;have q:qb (own h made) (.ref (h.length+H))=some ((uc H).map λi=>MV.ref (h.length+i)):=ht;have gg:aP (Qb (own h made) (.ref (h.length+H))) (own h made):=by
  intro p hp;simp[Qb,ht] at hp;subst hp;exact ht
 have tr:bK h (own h made):=by unfold own;exact bK.app h _
 have tk:(own h made).take h.length=h:=by unfold own;rw[Xv];rfl
 have lv:∀ x,qg h (.f x) (own h made)=.ok (.f x) h:=λx=>by
  unfold qg;rw[if_pos tr];simp[tk]
 have FQ:∀ i,i<H->zq true "tuple" [.ref (h.length+i)] (own h made)=.ok (.f (Ya true (made.getD i []))) (own h made):=λi hi=>by
  have e1:made[i]?=some (made.getD i []):=by simp[Xi,show i<made.length by lia]
  have q1:qb (own h made) (.ref (h.length+i))=some ((made.getD i []).map λi=>.f (.int i)):=Cn h made i _ e1;rw[Yw,q1,zc];show R.ok (yg ((made.getD i []).map (MV.f∘FV.int))) _=_;rw[L4];rfl
 simp[it3];rw[L1];simp[p1,p2,q,Yp,MP.stM];rw[L5 gg (e:=λi:Nat=>MV.ref (h.length+i)) (g:=λi=>MV.f (Ya true (made.getD i []))) (caps:=[]) (uc H) [] none (by simp[Zc];lia) (λi hi z=>⟨some (.ref (h.length+i)),by
  have:=FQ i (Xj.mp hi);simp[Qi,this]⟩)]
 have e3:(uc H).map (λi=>MV.f (Ya true (made.getD i [])))=(made.map (Ya true)).map MV.f:=by
  apply Vg;intro i;rw[Wb,Wb,Wb];by_cases hi:i<H
  ·rw[Xo hi,va (by lia)];simp[Xi,show i<made.length by lia]
  ·rw[Xh (by simp;lia),Xh (by lia)];rfl
 rw[Xe,R.ay,e3,Qe];have tt:∀ hh,zq true "tuple" [.f (.lst (made.map (Ya true)))] hh=.ok (.f (Yd true true made)) hh:=λhh=>by
  rw[Yw];simp[Yd,sq,yg]
 generalize Yd true true made=out at *;generalize FV.lst (made.map (Ya true))=ml at *;simp[tt,S3,lv]
end
end MP
end
section
namespace MP
open PySem
theorem za6(sh)(n0)(ns)(f:Int×Int->Int)(ps qs):(Yb sh n0 ns f (ps++qs)).take ps.length=Yb sh n0 ns f ps:=by
 refine YD (P:=λqs=>(Yb sh n0 ns f (ps++qs)).take ps.length=Yb sh n0 ns f ps) ?_ (λl a ih=>?_) qs
 ·rw[xk];exact xi (by rw[zx];exact Ua _)
 ·rw[<- uh,zo,List.take_append_of_le_length (by rw[zx];simp)];exact ih
theorem ybb(sh)(n0)(ns)(f:Int×Int->Int)(ps)(i):(Yb sh n0 ns f ps).take i=Yb sh n0 ns f (ps.take i):=by
 by_cases h:i<=ps.length
 ·have:=za6 sh n0 ns f (ps.take i) (ps.drop i);rw[List.take_append_drop,Vm,xy h] at this;exact this
 ·rw[xi (by rw[zx];lia),xi (by lia)]
theorem Lg(sh:List Int):∀(l:List (Int×Nat)) (z:Int),l.foldl (λz p=>z+((p.2:Int)+1)*p.1) z=z+(l.map λp=>((p.2:Int)+1)*p.1).sum
 |[],z=>by simp
 |p::l,z=>by rw[Wh,Lg sh l,xb,Um];lia
theorem qb4(sh):(sh.zipIdx.map λp=>((p.2:Int)+1)*p.1).sum=zp sh:=by
 have:=E8 sh 0;rw[Gr] at this;rw[this];show((0:Nat):Int)*sh.sum+zp sh=zp sh;simp
section
variable (n:Nat) (h:MH)
theorem yaC(most:Int)(rows:List (List Int))(H W:Nat)(d:Drawn most rows H W)(m1:1<=most)(m2:most<=1000000000000000000000000)(cs:List (Nat×Nat))(kL:∀ p∈cs,p.1<H/\p.2<W)(sh:List Int)(so:jP sh)(n0:Int)(is:List Int)(K:iy most (n0::is))(il:(n0::is).length<=8) :
  run prog (n+3) "_law_never_lost" [.f (Yd false false rows),.f (.lst ((Yb sh n0 is (br rows) (cs.map cZ)).map Qd)),.f (Ya false sh),.f (Ya false (n0::is))] h=.ok (B true) h:=by
 refine dA.eq λQ hQ=>?_;obtain⟨⟨Ij,gb1⟩,gb2⟩:=ybx K m1;have il2:=K.two m1;have RH:=zcq (n+1) h (n0::is) il2 (by lia);have BO:=ya2 n h false (.f (Ya false (n0::is))) sh (n0::is) most (bY.row _ _ _) so K m1 ⟨Ij,by lia⟩;have S1:=ZS (n+1) h 1 (.int (rF sh (Qy (yh (n0::is))/2))) rfl;have hx:∀ p∈cs.map cZ,0<=br rows p/\br rows p<=most:=λp hp=>by
  obtain⟨c,hc,rfl⟩:=ud.mp hp;have oY:=kL c hc;obtain⟨r,_,_,q⟩:=uU d (p:=cZ c) ⟨by simp[cZ],by simp[cZ];lia,by simp[cZ],by simp[cZ];lia⟩;exact q
 have NV:∀ i,i5 (Qy (yh (n0::is))/2) sh (Yb sh n0 is (br rows) ((cs.map cZ).take i)):=λi =>
  i5.IS Ij so K.z K.m K.head K.last gb2 _ λp hp=>hx p (xq hp)
 have apl:∀ i,-(rF sh (Qy (yh (n0::is))/2))<=Zp (br rows) ((Yb sh n0 is (br rows) (cs.map cZ)).take i)/\Zp (br rows) ((Yb sh n0 is (br rows) (cs.map cZ)).take i)<=rF sh (Qy (yh (n0::is))/2):=λi=>by
  rw[ybb];exact qb3 Ij so n0 is (br rows) _ (NV i)
 have lft:∀ e∈Yb sh n0 is (br rows) (cs.map cZ),-(Qy (yh (n0::is))/2)<=e.left/\e.left<=Qy (yh (n0::is))/2:=λe he=>by
  have:=NV (cs.map cZ).length;rw[Uo] at this;exact this.l e he
 have pin:∀ e∈Yb sh n0 is (br rows) (cs.map cZ),0<=e.p.1/\e.p.1<H/\0<=e.p.2/\e.p.2<W:=λe he=>by
  have this:e.p∈(Yb sh n0 is (br rows) (cs.map cZ)).map (λe:Ent=>e.p):=ud.mpr ⟨e,he,rfl⟩;rw[J7] at this;obtain⟨c,cQ,hp⟩:=ud.mp this;have:=kL c cQ;rw[<- hp];simp[cZ];lia
 generalize Yb sh n0 is (br rows) (cs.map cZ)=es at *;have AO:∀ e∈es,∃ r,dy (rows.map (MV.f∘Ya false)) e.p.1=some (.f (Ya false r))/\dy (r.map (MV.f∘FV.int)) e.p.2=some (I (br rows e.p)):=λe he=>by
  obtain⟨p1,p2,p3,p4⟩:=pin e he;obtain⟨r,e1,e2,_⟩:=uU d (p:=e.p) ⟨p1,p2,p3,p4⟩;refine⟨r,?_,?_⟩
  ·rw[zV _ _ p1,Wb,e1];rfl
  ·rw[zV _ _ p3,Wb,e2];rfl
 have qr:∀ hh,qb hh (.f (Yd false false rows))=some (rows.map (MV.f∘Ya false)):=λhh=>by simp[Yd]
 have qq:∀ r hh,qb hh (.f (Ya false r))=some (r.map (MV.f∘FV.int)):=λr hh=>by simp[Ya]
 have ss:∀ hh,zq true "sum" [.f (Ya false sh)] hh=.ok (I sh.sum) hh:=λhh=>by rw[zL,qq,xh,ql,zc]
 have it:gE "seq" [.f (.lst (es.map Qd))] h=some (es.map λe=>MV.f (Qd e),[]):=by
  have q:qb h (.f (.lst (es.map Qd)))=some (es.map λe=>MV.f (Qd e)):=by simp[Xc]
  have g:Qb h (.f (.lst (es.map Qd)))=[]:=rfl;simp only[Yp,q,vf,g]
 have tX:gE "enumerate" [.f (Ya false sh)] h=some (sh.zipIdx.map λp=>MV.f (.tup [.int p.2,.int p.1]),[]):=by
  have g:Qb h (.f (Ya false sh))=[]:=rfl;rw[J0,qq,vf,KR FV.int sh,g]
 have w0:=so.one;have ws:=yW so;have zs:=OM so;have hl:=so.len;have mu:zB (Qy (yh (n0::is))/2) (zp sh):=.inr (.inr ⟨yp (by lia) (by lia),yp (by lia) (by lia)⟩);have c2:∀ y hh,ye true .fdiv (I y) (I sh.sum) hh=.ok (I (y/sh.sum)) hh:=λy hh=>zm _ _ _ ⟨by lia,.inr (yp (by lia) (by lia))⟩;have eB:(Qy (yh (n0::is))/2*zp sh+sh.sum-1)/sh.sum=rF sh (Qy (yh (n0::is))/2):=rfl;have wz:=qb4 sh;have wf:=Lg sh sh.zipIdx 0;rw[wz,vG] at wf;have qs:=qq;generalize Qy (yh (n0::is))/2=hf at *;generalize rF sh hf=bd at *;generalize hM:(es.map λe=>MV.f (Qd e))=M0 at *;generalize FV.lst (es.map Qd)=lv at *;generalize DN:Ya false sh=sv at *;generalize Ya false (n0::is)=iv at *;generalize Yd false false rows=rv at *;generalize (rows.map (MV.f∘Ya false))=RR at *;rw[ZY];simp only[bw];simp[RH,tX];rw[ZD (e:=λp:Int×Nat=>MV.f (.tup [.int p.2,.int p.1])) (st:=λz:Int×Option MV×Option MV=>[some (.f rv),some (.f lv),some (.f sv),some (.f iv),some (I hf),some (I z.1),z.2.1,z.2.2,none,none,none,none,none,none,none]) (hp:=λ_=>h) (f:=λz p=>(z.1+((p.2:Int)+1)*p.1,some (I p.2),some (I p.1))) sh.zipIdx (0,none,none)]
 ·have ef:∀(l:List (Int×Nat)) (z:Int×Option MV×Option MV),(l.foldl (λ(z:Int×Option MV×Option MV) p=>(z.1+((p.2:Int)+1)*p.1,some (I p.2),some (I p.1))) z).1=l.foldl (λz p=>z+((p.2:Int)+1)*p.1) z.1:=by
   intro l
   induction l with
   |nil=>intro z;rfl
   |cons p l ih=>intro z;rw[Wh,ih];rfl
  have e1:=ef sh.zipIdx (0,none,none);rw[wf] at e1;generalize (sh.zipIdx.foldl (λ(z:Int×Option MV×Option MV) p=>(z.1+((p.2:Int)+1)*p.1,some (I p.2),some (I p.1))) (0,none,none))=fz at *;obtain⟨f1,f2,f3⟩:=fz;have e1:f1=zp sh:=e1;subst e1;simp[zr,mu,ss,c2,eB,BO,S1,it];rw[<- hM];refine Dj (Q:=λr=>dA (yb _ r) _) (e:=λe=>MV.f (Qd e)) es (λi σ hh=>∃(mL nV nU nT E7:Option MV),hh=h/\σ=[some (.f rv),some (.f lv),some (.f sv),some (.f iv),some (I hf),some (I (zp sh)),f2,f3,some (I bd),some (I (Zp (br rows) (es.take i))),mL,nV,nU,nT,E7]) ⟨none,none,none,none,none,rfl,rfl⟩ ?_ ?_
  ·rintro i e σ hh NK ⟨mL,nV,nU,nT,E7,rfl,rfl⟩ Q hQ;have he:=ue NK;obtain⟨rr,r1,r2⟩:=AO e he;have lf:=lft e he;have ap1:Zp (br rows) (es.take (i+1))=Zp (br rows) (es.take i)+br rows e.p-e.eg:=by
    rw[ww,NK];simp[Zp];lia
   have apb:=apl (i+1);have fY:=hQ [some (.f rv),some (.f lv),some (.f sv),some (.f iv),some (I hf),some (I (zp sh)),f2,f3,some (I bd),some (I (Zp (br rows) (es.take (i+1)))),some (.f (Yq e.p)),some (I e.got),some (I e.eg),some (I e.left),some (I e.odd)] hh ⟨_,_,_,_,_,rfl,rfl⟩;rw[ap1] at fY apb;have sE:zk (.f (Qd e))=some [MV.f (Yq e.p),I e.got,I e.eg,I e.left,I e.odd]:=rfl;have sc:∀ hh,qb hh (.f (Yq e.p))=some [I e.p.1,I e.p.2]:=λhh=>rfl;have IU:dy [I e.p.1,I e.p.2] 0=some (I e.p.1):=rfl;have IT:dy [I e.p.1,I e.p.2] 1=some (I e.p.2):=rfl;have qr1:=qq rr;generalize Zp (br rows) (es.take i)=ap at *;generalize br rows e.p=x at *;generalize hcv:Yq e.p=cv at *;generalize Ya false rr=rrv at *;have ab1:¬ hf<(if e.left<0 then -e.left else e.left):=by split <;> lia
   have ab2:¬ bd<(if ap+x-e.eg<0 then -(ap+x-e.eg) else ap+x-e.eg):=by split <;> lia
   simp[Qm,sE,qr,sc,IU,IT,r1,qr1,r2,ab1,ab2];exact fY
  ·rintro σ hh ⟨mL,nV,nU,nT,E7,rfl,rfl⟩;simp;exact hQ _ _ ⟨rfl,rfl⟩
 ·rintro p hp z;have:p.2<sh.length:=by
   obtain⟨y,k⟩:=p;have hk:=Wt.mp hp;exact(xa.mp hk).1
  have mu:zB ((p.2:Int)+1) p.1:=.inl (by lia);simp[Qm,zr,mu]
end
end MP
end
section
namespace MP
open PySem
theorem Zcs(e):isQ 3 (Qd e)=true:=by simp[isQ,Qd,Zc]
theorem Zcg(n)(ns)(g)(most)(rows)(H W)(d:Drawn most rows H W)(m1:1<=most)(m2:most<=1000000000000000000000000)(h1:1<=H)(h2:H<=64)(w1:1<=W)(w2:W<=9)(w)(cs)(wd:tJ w H W cs)(sh)(so:jP sh)(n0)(is)(K:iy most (n0::is))(il:(n0::is).length<=8) :
  yb [.code] (Qa prog (run prog (n+8)) (dE.body.drop 1) [some (.f (.bP ns)),some (I most),some (.f (Yd false false rows)),some (.f w),some (.f (Ya false sh)),some (.f (Ya false (n0::is))),none,none,none] (.code::g))=.ok (B true) [.code]:=by
 obtain⟨wr,kL,kM,NC⟩:=wd;have gd:Good most rows:=d.good m1 h1 (by lia) w1;have MK:=yM (n+6) (.code::g) most false false rows gd;have pZ:most<2^100:=by lia
 obtain⟨ln,r0,q,a0,lr⟩:=GC d h1;have OR:=wr;obtain⟨c,fn,fv,f,ew,no,mo,ord⟩:=OR;have cm:∀ hh,nh "order" (.f w) hh=some c:=λhh=>by rw[ew];simp[nh,no]
 have O:=ord (n+2) (.code::g);have F:=Y9 .code g (cs.map Za) [];have LG:=Li (n+1) (g++[.dead]) most rows H W d m1 pZ h1 w1 w cs wr kL (by lia) (.f (Ya false sh)) (.f (Ya false (n0::is))) sh n0 is (bY.row _ _ _) (bY.row _ _ _) so K K.z K.m;have F2:=Y9 .code (g++[.dead]) ((Yb sh n0 is (br rows) (cs.map cZ)).map Qd) [];have e0:((Yb sh n0 is (br rows) (cs.map cZ)).map Qd).map MV.f=(Yb sh n0 is (br rows) (cs.map cZ)).map λe=>MV.f (Qd e):=by simp[Xc]
 rw[e0] at F2;have LD:=qcF (n+6) (.code::(g++[.dead,.dead])) most rows H W d m1 pZ cs kL kM sh n0 is so (by simp at il;lia) K.z K.m;have HA:=Qbx n (g++[.dead,.dead]) most rows H W d m1 pZ h1 (by lia) w1 (by lia) w cs wr kL (by lia) (.f (Ya false sh)) (.f (Ya false (n0::is))) sh n0 is (bY.row _ _ _) (bY.row _ _ _) so K K.z K.m K.gZ;have q4:isQ 4 (.lst ((Yb sh n0 is (br rows) (cs.map cZ)).map Qd))=true:=by
  have el:(Yb sh n0 is (br rows) (cs.map cZ)).length<=300:=by rw[zx];simp;lia
  simp only[isQ,Wc,Wa,decide_eq_true_eq,uo];refine⟨by rw[Zc];lia,λx hx=>?_⟩;obtain⟨e,_,rfl⟩:=ud.mp hx;exact Zcs e
 have S1:=ZS (n+4) (.code::(g++[.dead,.dead])) 4 _ q4;have DL:=YbZ (n+4) (.code::(g++[.dead,.dead])) most rows H W d h1 h2 (by lia) (Yb sh n0 is (br rows) (cs.map cZ)) (λe he=>by
  have this:e.p∈(Yb sh n0 is (br rows) (cs.map cZ)).map (λe:Ent=>e.p):=ud.mpr ⟨e,he,rfl⟩;rw[J7] at this;obtain⟨c,cQ,hp⟩:=ud.mp this;have:=kL c cQ;rw[<- hp];simp[cZ];lia)
 have NL:=yaC (n+5) (.code::(g++[.dead,.dead])) most rows H W d m1 m2 cs kL sh so n0 is K il;have GP:∀(x:FV)(t:MH),qg [.code] (.f x) (.code::t)=.ok (.f x) [.code]:=λx t=>YF [.code] t x;have iL:∀ hh xs,yT prog.subs hh (.f (.lst xs)) "list"=some true:=λhh xs=>rfl;simp only[dE,xm,Ul];generalize Qn most (ym (Yf H W) ((Yb sh n0 is (br rows) (cs.map cZ)).map λe=>(e.p,e.eg)))=hd at *;have iL:=λhh=>iL hh ((Yb sh n0 is (br rows) (cs.map cZ)).map Qd);generalize FV.lst ((Yb sh n0 is (br rows) (cs.map cZ)).map Qd)=lv at *;generalize ((Yb sh n0 is (br rows) (cs.map cZ)).map λe=>MV.f (Qd e))=M0 at *;generalize Ya false sh=sv at *;generalize Ya false (n0::is)=iv at *;generalize Qn most rows=pc at *;generalize (rows.map (MV.f∘Ya false))=R0 at *;generalize Yd false false rows=rv at *;generalize Ya false r0=r0v at *;generalize (cs.map Za).map MV.f=M at *;generalize FV.lst (cs.map Za)=uM at *;simp at O F LG F2;simp[MK,ln,q,a0,lr,cm,mo,O,F,LG,F2,iL,LD,S1,HA,DL,NL,GP]
theorem oB(n)(ns)(hl:ns.length<=63):run prog (n+9) "law" [.f (.bP ns)] [.code]=.ok (B true) [.code]:=by
 have fin:∀(v:MV)(g:MH),uX v->yb [.code] (((qy (yr (.tp [.nm 1,.nm 2,.nm 3,.nm 4,.nm 5]) v [some (.f (.bP ns)),none,none,none,none,none,none,none,none]) λσ1=>RS.next σ1 (.code::g)).bind (Qa prog (run prog (n+8)) [])).bind (Qa prog (run prog (n+8)) (dE.body.drop 1)))=.ok (B true) [.code]:=λv g cp=>by
  obtain⟨most,rows,aj,sh,w,cs,H,W,m1,m2,h1,h2,w1,w2,hw,d,K,il,so,wd,rfl⟩:=cp;obtain⟨n0,is,rfl⟩:∃ n0 is,aj=n0::is:=by
   cases aj with
   |nil=>exact absurd K.z (by simp)
   |cons a b=>exact⟨a,b,rfl⟩
  have T:=Zcg n ns g most rows H W d m1 m2 h1 h2 w1 w2 w cs wd sh so n0 is K il;rw[<- T];rfl
 have eb:dE.body=dE.body[0]::dE.body.drop 1:=rfl;rw[ZcD,eb,Yn];by_cases c:ns≠[]/\ns.headD 0%2=1
 ·cases ns with
  |nil=>exact absurd rfl c.1
  |cons n0 ns =>
   obtain⟨v,h',BD,cp,rfl⟩:=ZaP (n+2) n0 ns;have q0:∀ hh,qb hh (.f (.bP (n0::ns)))=some (I n0::ns.map (MV.f∘FV.int)):=λhh=>rfl;have a0:dy (I n0::ns.map (MV.f∘FV.int)) 0=some (I n0):=EL _ _;have m2:∀ hh,ye true .mod (I n0) (I 2) hh=.ok (I 1) hh:=λhh=>by rw[Yg _ _ _ (by decide)];have:n0%2=1:=c.2;rw[this]
   have ln:∀ hh,zq true "len" [.f (.bP (n0::ns))] hh=.ok (I ((ns.length:Int)+1)) hh:=λhh=>by rw[zv,q0];simp
   have pos:0<(ns.length:Int)+1:=by lia
   have f1:=fin v [] cp;generalize FV.bP (n0::ns)=sv at *;generalize (ns.length:Int)+1=L at *;generalize dE.body.drop 1=D at *;simp only[dE,Uw];simp[ln,pos,q0,a0,m2,BD] at f1 ⊢;exact f1
 ·obtain⟨v,h',BD,cp,kk,rfl⟩:=Za9 (n+2) ns [] 0 (by lia) (by lia);have f1:=fin v [atC kk] cp;cases ns with
  |nil =>
   have ln:∀ hh,zq true "len" [.f (.bP [])] hh=.ok (I 0) hh:=λhh=>rfl;generalize FV.bP []=sv at *;generalize dE.body.drop 1=D at *;simp only[dE,Uw];simp[ln,BD] at f1 ⊢;exact f1
  |cons n0 ns =>
   have q0:∀ hh,qb hh (.f (.bP (n0::ns)))=some (I n0::ns.map (MV.f∘FV.int)):=λhh=>rfl;have a0:dy (I n0::ns.map (MV.f∘FV.int)) 0=some (I n0):=EL _ _;have ne:¬ n0%2=1:=λe=>c ⟨by simp,e⟩;have m2:∀ hh,ye true .mod (I n0) (I 2) hh=.ok (I (n0%2)) hh:=λhh=>Yg _ _ _ (by decide);have ln:∀ hh,zq true "len" [.f (.bP (n0::ns))] hh=.ok (I ((ns.length:Int)+1)) hh:=λhh=>by rw[zv,q0];simp
   have pos:0<(ns.length:Int)+1:=by lia
   generalize FV.bP (n0::ns)=sv at *;generalize (ns.length:Int)+1=L at *;generalize n0%2=r at *;generalize dE.body.drop 1=D at *;simp only[dE,Uw];simp[ln,pos,q0,a0,m2,ne,BD] at f1 ⊢;exact f1
end MP
end
section
namespace SD
open PySem L2 L3 M3 MP PyProof.Rows
noncomputable def top(i:Nat):Stmt:=PySem.Challenge.pw_dotscreen_k90_whole_never_lost.main.body.getD i (.Pass ⟨0,0,0,0⟩)
noncomputable abbrev K5:Stmt:=top 8
theorem zbC:Qg prog qN ["rows"] ["rows"] K5=true:=by decide +kernel
noncomputable abbrev OL:Stmt:=top 9
theorem ybv:Qg prog ZN ["rows","least","greatest","row"] ["rows","least","greatest"] OL=true:=by decide +kernel
noncomputable abbrev qO:Stmt:=top 10
theorem qap:Qg prog bM ["high","wide","cells","row"] ["high","wide"] qO=true:=by decide +kernel
noncomputable abbrev zE:Stmt:=yO (top 12) 0
theorem Q6:Qg prog Zo ["self","most","rows","kept","fault"] ["self","most","rows"] zE=true:=by decide +kernel
noncomputable abbrev Kz:Stmt:=top 13
theorem qcR:Qg prog Es ["picture"] ["picture"] Kz=true:=by decide +kernel
noncomputable abbrev Ky:Stmt:=top 14
theorem Qc2:Qg prog EB ["picture"] ["picture"] Ky=true:=by decide +kernel
noncomputable abbrev Pt:Stmt:=top 15
theorem ybM:Qg prog eV ["picture"] ["picture"] Pt=true:=by decide +kernel
noncomputable abbrev Rl:Stmt:=top 16
theorem zbs:Qg prog qM ["picture","cell"] ["picture","cell"] Rl=true:=by decide +kernel
noncomputable abbrev Pu:Stmt:=top 17
theorem zbv:Qg prog yF ["picture","cell"] ["picture","cell"] Pu=true:=by decide +kernel
noncomputable abbrev LN:Stmt:=top 18
theorem ZbD:Qg prog dS ["picture","cell"] ["picture","cell"] LN=true:=by decide +kernel
noncomputable abbrev ON:Stmt:=top 19
theorem ybD:Qg prog dY ["high","wide"] ["high","wide"] ON=true:=by decide +kernel
noncomputable abbrev QZ:Stmt:=top 20
theorem qaN:Qg prog qx ["picture","pairs","rows","cell","shade"] ["picture","pairs"] QZ=true:=by decide +kernel
noncomputable abbrev Na:Stmt:=top 21
theorem qbu:Qg prog dU ["most","size","pairs"] ["most","size","pairs"] Na=true:=by decide +kernel
noncomputable abbrev Rm:Stmt:=top 23
theorem Ybr:Qg prog dZ ["inks","most"] ["inks","most"] Rm=true:=by decide +kernel
noncomputable abbrev K8:Stmt:=top 24
theorem qa7:Qg prog cL ["inks","lesser","greater"] ["inks"] K8=true:=by decide +kernel
noncomputable abbrev LS:Stmt:=top 28
theorem za8:Qg prog cK ["shares"] ["shares"] LS=true:=by decide +kernel
noncomputable abbrev Ly:Stmt:=top 29
theorem zb2:Qg prog fR ["picture","way","shares","inks"] ["picture","way","shares","inks"] Ly=true:=by decide +kernel
noncomputable abbrev M':Stmt:=top 30
theorem qbT:Qg prog eW ["picture","entries"] ["picture","entries"] M'=true:=by decide +kernel
noncomputable abbrev Oh:Stmt:=top 31
theorem Yb5:Qg prog fQ ["picture","way","shares","inks","size","entries","cell"] ["picture","way","shares","inks"] Oh=true:=by decide +kernel
noncomputable abbrev YT:Stmt:=top 32
theorem YaK:Qg prog aS ["entries","cell","shade","shares","inks","due","back","share"] ["entries","cell","shade","shares","inks"] YT=true:=by decide +kernel
noncomputable abbrev Pa:Stmt:=top 33
theorem Zbu:Qg prog dW ["cell","shade","due","whole","inks","got","ink"] ["cell","shade","due","whole","inks"] Pa=true:=by decide +kernel
noncomputable abbrev Ym:Stmt:=top 34
noncomputable abbrev Rn:Stmt:=top 35
theorem Qbv:Qg prog dX ["shares","inks","half","weight","whole"] ["shares","inks"] Rn=true:=by decide +kernel
noncomputable abbrev P':Stmt:=yO (top 37) 0
theorem ybj:Qg prog dr ["self","high","wide"] ["self","high","wide"] P'=true:=by decide +kernel
noncomputable abbrev QQ:Stmt:=yO (top 38) 0
theorem qax:Qg prog bT ["self","high","wide","cells","row","line"] ["self","high","wide"] QQ=true:=by decide +kernel
noncomputable abbrev ZH:Stmt:=yO (top 39) 0
theorem Yac:Qg prog bA ["self","high","wide"] ["self","high","wide"] ZH=true:=by decide +kernel
noncomputable abbrev qG:Stmt:=yO (top 40) 0
theorem qab:Qg prog bz ["self","high","wide","side"] ["self","high","wide"] qG=true:=by decide +kernel
noncomputable abbrev ZA:Stmt:=yO (top 41) 0
theorem YQ:Qg prog aY ["self","way","mask"] ["self","way","mask"] ZA=true:=by decide +kernel
noncomputable abbrev YH:Stmt:=yO (top 41) 1
theorem Z8:Qg prog bx ["self","high","wide","ways","left_out","way"] ["self","high","wide"] YH=true:=by decide +kernel
noncomputable abbrev Q2:Stmt:=top 42
theorem QaM:Qg prog cb ["way","ways"] ["way"] Q2=true:=by decide +kernel
noncomputable abbrev zS:Stmt:=top 43
theorem QaC:Qg prog bR ["side","cells","reached"] ["side"] zS=true:=by decide +kernel
noncomputable abbrev Y1:Stmt:=top 44
theorem YaQ:Qg prog cg ["cells","side","first","second","third","fourth"] ["cells","side"] Y1=true:=by decide +kernel
noncomputable abbrev LQ:Stmt:=top 46
theorem ybf:Qg prog zH ["_law_script","_law_at","_law_cell","_law_m"] ["_law_script","_law_at"] LQ=true:=by decide +kernel
noncomputable abbrev Rb:Stmt:=top 47
theorem ybd:Qg prog dh ["_law_found","_law_due"] ["_law_found","_law_due"] Rb=true:=by decide +kernel
noncomputable abbrev K7:Stmt:=top 48
theorem Qbl:Qg prog dj ["_law_script","_law_at","_law_m","_law_cell"] ["_law_script","_law_at"] K7=true:=by decide +kernel
noncomputable abbrev OD:Stmt:=top 49
theorem zbj:Qg prog dm ["_law_script","_law_at","_law_most_here","_law_m","_law_inks_here","_law_k"] ["_law_script","_law_at","_law_most_here"] OD=true:=by decide +kernel
noncomputable abbrev Y0:Stmt:=top 50
theorem yaN:Qg prog cj ["_law_script","_law_at","_law_m","_law_shares_here"] ["_law_script","_law_at"] Y0=true:=by decide +kernel
noncomputable abbrev MW:Stmt:=top 51
theorem qbp:Qg prog d8 ["_law_script","_law_at","_law_rows_here","_law_columns","_law_m","_law_way_here","_law_mask","_law_k","_law_turn"] ["_law_script","_law_at","_law_rows_here","_law_columns"] MW=true:=by decide +kernel
noncomputable abbrev LP:Stmt:=top 52
theorem Zbl:Qg prog di ["_law_script","_law_at","_law_most_here","_law_columns","_law_cells"] ["_law_script","_law_at","_law_most_here"] LP=true:=by decide +kernel
noncomputable abbrev zU:Stmt:=top 53
theorem QaI:Qg prog bS ["_law_inks_here","_law_want","_law_best","_law_ink"] ["_law_inks_here","_law_want"] zU=true:=by decide +kernel
noncomputable abbrev Rc:Stmt:=top 54
theorem Ybf:Qg prog dn ["_law_inks_here"] ["_law_inks_here"] Rc=true:=by decide +kernel
noncomputable abbrev Z1:Stmt:=top 55
theorem YaL:Qg prog ck ["_law_rows_here","_law_order","_law_shares_here","_law_inks_here","_law_due","_law_lefts","_law_odd","_law_cell","_law_total","_law_k","_law_share","_law_got","_law_want","_law_ink"] ["_law_rows_here","_law_order","_law_shares_here","_law_inks_here"] Z1=true:=by decide +kernel
noncomputable abbrev YG:Stmt:=top 56
theorem Zaa:Qg prog bw ["_law_rows_here","_law_told","_law_shares_here","_law_inks_here","_law_half_here","_law_weight","_law_k","_law_share","_law_bound","_law_apart","_law_cell","_law_got","_law_ink","_law_left","_law_odd"] ["_law_rows_here","_law_told","_law_shares_here","_law_inks_here"] YG=true:=by decide +kernel
noncomputable abbrev MZ:Stmt:=top 57
theorem ybi:Qg prog dq ["_law_dots_here","_law_most_here","_law_rows_here","_law_told","_law_due","_law_cell","_law_got","_law_ink","_law_left","_law_odd"] ["_law_dots_here","_law_most_here","_law_rows_here","_law_told"] MZ=true:=by decide +kernel
noncomputable abbrev OF:Stmt:=top 58
theorem Zbb:Qg prog dg ["_law_box","_law_many","_law_digit"] ["_law_box","_law_many"] OF=true:=by decide +kernel
noncomputable abbrev ZK:Stmt:=top 59
theorem yaf:Qg prog bE ["_law_box","_law_rows_here","_law_columns","_law_way_here","_law_mask","_law_k"] ["_law_box","_law_rows_here","_law_columns"] ZK=true:=by decide +kernel
noncomputable abbrev yK:Stmt:=top 60
theorem Yag:Qg prog aq ["_law_script","_law_box","_law_most_here","_law_columns","_law_cells","_law_rows_here","_law_shares_here","_law_k","_law_inks_here"] ["_law_script"] yK=true:=by decide +kernel
noncomputable abbrev zP:Stmt:=top 61
theorem yaq:Qg prog bN ["_law_script","_law_at","_law_most_here","_law_rows_here","_law_way_here","_law_shares_here"] ["_law_script","_law_at"] zP=true:=by decide +kernel
noncomputable abbrev ot:Stmt:=top 62
theorem Mw:Qg prog dE ["_law_script","_law_most_here","_law_rows_here","_law_way_here","_law_shares_here","_law_inks_here","_law_picture","_law_order","_law_told"] ["_law_script"] ot=true:=by decide +kernel
end SD
end
section
namespace SD
open PySem PySem.Spec PyProof.Rows L2 L3 M3 MP
noncomputable def u5(K:Jc)(qk qP Qq zj qi qe nI ox:ae):Tx:=⟨(λs=>match s with
  |"Picture"=>qk
  |"Way"=>qP
  |"FroWay"=>Qq
  |"ColumnWay"=>zj
  |"FoldedWay"=>qi
  |"MaskedWay"=>qe
  |_=>0),K,nI,ox,⟨109,25,109,52⟩,("nearest_ink":Str)++".<locals>."++"<lambda>"⟩
theorem all_mk{l:Kd}{w:World}{K:Jc}{h:Heap}{mg:Str->Option Value}{fa:ae}{qk:ae}{yby:cC}{qP:ae}{Yc5:cC}{Qq:ae}{YbN:cC}{zj:ae}{ya6:cC}{qi:ae}{yaY:cC}{qe:ae}{qa5:cC}{MX:ae}{Q1:ae}{Y2:ae}{QJ:ae}{YB:ae}{qA:ae}{yB:ae}{qcI:Tok}{ycW:Tok}{JE nI ox:ae}{ycv ycu:Option ae}{ycz:Array (Option Value)}{zcI ZcF Qct QcH zcG:Value}{JC:ae}{Zc1 LJ:Option ae}{qcX:Array (Option Value)}{Yc9 Mt Mu PD JT Ll:Value}(X:K.In h)(G:h.Ns au mg)(hfa:mg "law"=some (.ref fa))
  (qbv:Src K mg "own_rows" K5 ["rows"]) (Ybt:Src K mg "fault_of" OL ["rows","least","greatest"]) (zas:Src K mg "cells_by_rows" qO ["high","wide"]) (Yc8:Src K mg "high" Kz ["picture"]) (yc8:Src K mg "wide" Ky ["picture"]) (ybQ:Src K mg "size_of" Pt ["picture"]) (ybt:Src K mg "has_cell" Rl ["picture","cell"]) (Qbo:Src K mg "ask_cell" Pu ["picture","cell"]) (ZbA:Src K mg "shade_at" LN ["picture","cell"]) (qby:Src K mg "ask_size" ON ["high","wide"]) (QaN:Src K mg "with_shades" QZ ["picture","pairs"]) (Zbt:Src K mg "laid_out" Na ["most","size","pairs"]) (zbp:Src K mg "ask_inks" Rm ["inks","most"]) (Ya2:Src K mg "ask_rising" K8 ["inks"]) (QaY:Src K mg "ask_shares" LS ["shares"]) (yce:Src K mg "handed" Ly ["picture","way","shares","inks"]) (qbM:Src K mg "dots_of" M' ["picture","entries"]) (ycb:Src K mg "ledger" Oh ["picture","way","shares","inks"]) (Zax:Src K mg "entry_behind" YT ["entries","cell","shade","shares","inks"]) (ybC:Src K mg "entry_of" Pa ["cell","shade","due","whole","inks"]) (QaO:Src K mg "nearest_ink" Ym ["want","inks"]) (Qby:Src K mg "bound_of" Rn ["shares","inks"]) (ZaQ:Src K mg "ways_within" Q2 ["way"]) (ZaD:Src K mg "folded_cells" zS ["side"]) (zaL:Src K mg "folded_once" Y1 ["cells","side"]) (ybk:Src K mg "_law_next" LQ ["_law_script","_law_at"]) (ybh:Src K mg "_law_same" Rb ["_law_found","_law_due"]) (qbf:Src K mg "_law_most" K7 ["_law_script","_law_at"]) (ybn:Src K mg "_law_inks" OD ["_law_script","_law_at","_law_most_here"]) (zaO:Src K mg "_law_shares" Y0 ["_law_script","_law_at"]) (zbt:Src K mg "_law_way" MW ["_law_script","_law_at","_law_rows_here","_law_columns"]) (Zbj:Src K mg "_law_rows" LP ["_law_script","_law_at","_law_most_here"]) (yaK:Src K mg "_law_nearest" zU ["_law_inks_here","_law_want"]) (Ybg:Src K mg "_law_half" Rc ["_law_inks_here"]) (qaR:Src K mg "_law_ledger" Z1 ["_law_rows_here","_law_order","_law_shares_here","_law_inks_here"]) (Q8:Src K mg "_law_never_lost" YG ["_law_rows_here","_law_told","_law_shares_here","_law_inks_here"]) (Ybb:Src K mg "_law_dots" MZ ["_law_dots_here","_law_most_here","_law_rows_here","_law_told"]) (Qbn:Src K mg "_law_take" OF ["_law_box","_law_many"]) (zah:Src K mg "_law_digit_way" ZK ["_law_box","_law_rows_here","_law_columns"]) (Zaj:Src K mg "_law_by_digits" yK ["_law_script"]) (Yap:Src K mg "_law_by_draws" zP ["_law_script","_law_at"]) (S_law:Src K mg "law" ot ["_law_script"])
  (zb:∀ x∈(["abs","all","bool","dict","divmod","enumerate","int","isinstance","len","list","max","min","range","reversed","set","sorted","str","sum","tuple","zip"]:List Str),Vq K au x=some none)
  (gn:Us K (.builtin "object.__class__") "__get__"=some (some (.builtin "getset_descriptor.__get__")))
  (tk:Vu K (.builtin "object.__class__")=some true)
  (kC_Picture:CK K "Picture" qk yby)
  (qaz:Ud K (.ref qk) "most"=some none)
  (Zaz:Ud K (.ref qk) "rows"=some none)
  (kC_Way:CK K "Way" qP Yc5)
  (kC_FroWay:CK K "FroWay" Qq YbN)
  (kC_ColumnWay:CK K "ColumnWay" zj ya6)
  (kC_FoldedWay:CK K "FoldedWay" qi yaY)
  (kC_MaskedWay:CK K "MaskedWay" qe qa5)
  (Zaq:Ud K (.ref qe) "way"=some none)
  (Qaj:Ud K (.ref qe) "mask"=some none)
  (ZQ:Vf K (.ref qk) (.ref qe)=some false)
  (Qah:Vf K (.ref qP) (.ref qe)=some false)
  (QX:Vf K (.ref Qq) (.ref qe)=some false)
  (QL:Vf K (.ref zj) (.ref qe)=some false)
  (QN:Vf K (.ref qi) (.ref qe)=some false)
  (ik_Picture:IK K qk MX)
  (fi_Picture:FE K "__init__" "Picture.__init__" zE MX)
  (ik_MaskedWay:IK K qe Q1)
  (fi_MaskedWay:FE K "__init__" "MaskedWay.__init__" ZA Q1)
  (Qa2:Ud K (.ref qP) "order"=some (some (.ref Y2)))
  (fm_Way_order:FE K "order" "Way.order" P' Y2)
  (Yar:Ud K (.ref Qq) "order"=some (some (.ref QJ)))
  (fm_FroWay_order:FE K "order" "FroWay.order" QQ QJ)
  (Z4:Ud K (.ref zj) "order"=some (some (.ref YB)))
  (fm_ColumnWay_order:FE K "order" "ColumnWay.order" ZH YB)
  (Z3:Ud K (.ref qi) "order"=some (some (.ref qA)))
  (fm_FoldedWay_order:FE K "order" "FoldedWay.order" qG qA)
  (Q5:Ud K (.ref qe) "order"=some (some (.ref yB)))
  (fm_MaskedWay_order:FE K "order" "MaskedWay.order" YH yB)
  (QcP:pF K qP)
  (zbT:pF K Qq)
  (qaZ:pF K zj)
  (Za5:pF K qi)
  (ZcJ:Vq K au "LEFT"=some (some (.int 3 qcI)))
  (QcX:Vq K au "ODD"=some (some (.int 4 ycW)))
  (an:Vq K au "nearest_ink"=some (some (.ref JE)))
  (ln:K.lookup JE=some ⟨zcI,ycv,.func (ug "nearest_ink" "nearest_ink" (Zl Ym) (qh Ym) (Yc Ym) .none ZcF Qct QcH ycu (.ref nI) zcG),ycz⟩)
  (kn:Xl K (.ref nI) "nearest_ink"=true)
  (Nm:Wg K (.ref JE)=true)
  (c0n:nI≠0)
  (al:Vq K au "law"=some (some (.ref JC)))
  (ll:K.lookup JC=some ⟨Yc9,Zc1,.func (ug "law" "law" (Zl ot) (qh ot) (Yc ot) .none Mt Mu PD LJ JT Ll),qcX⟩)
  (kl:Xl K JT "law"=true)
  (kq:Wg K (.ref JC)=true) :
  ∃ fd:bF,(∀(s:Shared)(v:Value),iA s fd ⟨[v],[]⟩ [("_law_script",v)])/\∀ base:Heap,K.In base->base.Ns au mg->lh mg base nI ox->fL l.prog w K mg base (lj l.prog w) 18 fa fd ["_law_script"] (Gu K ox ⟨109,25,109,52⟩):=by
 have e:=hfa.symm.trans (wl X G al);cases e;have Fl:=Cw (st:=ot) ll kl kq;have PN:Dk K mg prog (u5 K qk qP Qq zj qi qe nI ox) "nearest_ink" ["want","inks"]:=zcD (st:=Ym) rfl rfl ln kn Nm (wl X G an) ((Cw (st:=Ym) ln kn Nm).binds (ps:=["want","inks"]) λ_ _ _ _ _ _ us hl=>by obtain⟨_,_,rfl⟩:=ln2 hl;rfl) rfl (xA X G (zb "min" (by simp))) (xA X G (zb "abs" (by simp))) rfl c0n rfl;have TM:sX (Cv K mg prog (u5 K qk qP Qq zj qi qe nI ox)) nB:=⟨Lm X G kC_Picture fi_Picture ik_Picture (λ_ _ _ _ _ _ us hl=>by obtain⟨_,_,_,rfl⟩:=oP hl;rfl) Q6 rfl,Ab kC_Way fm_Way_order Qa2 (λ_ _ _ _ _ _ us hl=>by obtain⟨_,_,_,rfl⟩:=oP hl;rfl) ybj rfl rfl,Ab kC_FroWay fm_FroWay_order Yar (λ_ _ _ _ _ _ us hl=>by obtain⟨_,_,_,rfl⟩:=oP hl;rfl) qax rfl rfl,Ab kC_ColumnWay fm_ColumnWay_order Z4 (λ_ _ _ _ _ _ us hl=>by obtain⟨_,_,_,rfl⟩:=oP hl;rfl) Yac rfl rfl,Ab kC_FoldedWay fm_FoldedWay_order Z3 (λ_ _ _ _ _ _ us hl=>by obtain⟨_,_,_,rfl⟩:=oP hl;rfl) qab rfl rfl,Lm X G kC_MaskedWay fi_MaskedWay ik_MaskedWay (λ_ _ _ _ _ _ us hl=>by obtain⟨_,_,_,rfl⟩:=oP hl;rfl) YQ rfl,Ab kC_MaskedWay fm_MaskedWay_order Q5 (λ_ _ _ _ _ _ us hl=>by obtain⟨_,_,_,rfl⟩:=oP hl;rfl) Z8 rfl rfl,trivial⟩;have TS:sX (sV K mg (u5 K qk qP Qq zj qi qe nI ox)) pO:=⟨tF X G kC_Picture kC_MaskedWay ZQ rfl,tF X G kC_Way kC_MaskedWay Qah rfl,tF X G kC_FroWay kC_MaskedWay QX rfl,tF X G kC_ColumnWay kC_MaskedWay QL rfl,tF X G kC_FoldedWay kC_MaskedWay QN rfl,tF X G kC_MaskedWay kC_MaskedWay kC_MaskedWay.s0 rfl,trivial⟩;have T:Text K mg prog (u5 K qk qP Qq zj qi qe nI ox):=by
  refine⟨rfl,?_,?_,?_,?_,?_,?_,?_,?_,?_,?_,?_,?_,?_,?_,?_,?_,?_⟩
  ·exactλf d hd eL=>Lb (L:=rj) (P:=λf d=>f.toList.contains '.'=false->∃ st N ps,Src K mg (jj f) st ps/\(Qg prog d N ps st=true\/Dk K mg prog (u5 K qk qP Qq zj qi qe nI ox) f ps)) (by
   refine⟨?_,?_,?_,?_,?_,?_,?_,?_,?_,?_,?_,?_,?_,?_,?_,?_,?_,?_,?_,?_,?_,?_,?_,?_,?_,?_,?_,?_,?_,?_,?_,?_,?_,?_,?_,?_,?_,?_,?_,?_,?_,?_,?_,?_,?_,?_,?_,?_,?_,trivial⟩
   ·exactλ_=>⟨_,_,_,qbv,.inl zbC⟩
   ·exactλ_=>⟨_,_,_,Ybt,.inl ybv⟩
   ·exactλ_=>⟨_,_,_,zas,.inl qap⟩
   ·exactλeL=>absurd eL (by decide)
   ·exactλ_=>⟨_,_,_,Yc8,.inl qcR⟩
   ·exactλ_=>⟨_,_,_,yc8,.inl Qc2⟩
   ·exactλ_=>⟨_,_,_,ybQ,.inl ybM⟩
   ·exactλ_=>⟨_,_,_,ybt,.inl zbs⟩
   ·exactλ_=>⟨_,_,_,Qbo,.inl zbv⟩
   ·exactλ_=>⟨_,_,_,ZbA,.inl ZbD⟩
   ·exactλ_=>⟨_,_,_,qby,.inl ybD⟩
   ·exactλ_=>⟨_,_,_,QaN,.inl qaN⟩
   ·exactλ_=>⟨_,_,_,Zbt,.inl qbu⟩
   ·exactλ_=>⟨_,_,_,zbp,.inl Ybr⟩
   ·exactλ_=>⟨_,_,_,Ya2,.inl qa7⟩
   ·exactλ_=>⟨_,_,_,QaY,.inl za8⟩
   ·exactλ_=>⟨_,_,_,yce,.inl zb2⟩
   ·exactλ_=>⟨_,_,_,qbM,.inl qbT⟩
   ·exactλ_=>⟨_,_,_,ycb,.inl Yb5⟩
   ·exactλ_=>⟨_,_,_,Zax,.inl YaK⟩
   ·exactλ_=>⟨_,_,_,ybC,.inl Zbu⟩
   ·exactλ_=>⟨_,[],_,QaO,.inr PN⟩
   ·exactλ_=>⟨_,_,_,Qby,.inl Qbv⟩
   ·exactλeL=>absurd eL (by decide)
   ·exactλeL=>absurd eL (by decide)
   ·exactλeL=>absurd eL (by decide)
   ·exactλeL=>absurd eL (by decide)
   ·exactλeL=>absurd eL (by decide)
   ·exactλeL=>absurd eL (by decide)
   ·exactλ_=>⟨_,_,_,ZaQ,.inl QaM⟩
   ·exactλ_=>⟨_,_,_,ZaD,.inl QaC⟩
   ·exactλ_=>⟨_,_,_,zaL,.inl YaQ⟩
   ·exactλ_=>⟨_,_,_,ybk,.inl ybf⟩
   ·exactλ_=>⟨_,_,_,ybh,.inl ybd⟩
   ·exactλ_=>⟨_,_,_,qbf,.inl Qbl⟩
   ·exactλ_=>⟨_,_,_,ybn,.inl zbj⟩
   ·exactλ_=>⟨_,_,_,zaO,.inl yaN⟩
   ·exactλ_=>⟨_,_,_,zbt,.inl qbp⟩
   ·exactλ_=>⟨_,_,_,Zbj,.inl Zbl⟩
   ·exactλ_=>⟨_,_,_,yaK,.inl QaI⟩
   ·exactλ_=>⟨_,_,_,Ybg,.inl Ybf⟩
   ·exactλ_=>⟨_,_,_,qaR,.inl YaL⟩
   ·exactλ_=>⟨_,_,_,Q8,.inl Zaa⟩
   ·exactλ_=>⟨_,_,_,Ybb,.inl ybi⟩
   ·exactλ_=>⟨_,_,_,Qbn,.inl Zbb⟩
   ·exactλ_=>⟨_,_,_,zah,.inl yaf⟩
   ·exactλ_=>⟨_,_,_,Zaj,.inl Yag⟩
   ·exactλ_=>⟨_,_,_,Yap,.inl yaq⟩
   ·exactλ_=>⟨_,_,_,S_law,.inl Mw⟩) hd eL
  ·exactλc f hi=>YcX TM hi
  ·intro x hx;simp only[eD,dH,a9,Ut,Xe,Xa,Vc,or_false] at hx
   rcases hx with rfl|rfl|rfl|rfl|rfl|rfl|rfl|rfl|rfl|rfl|rfl|rfl|rfl|rfl|rfl|rfl|rfl|rfl|rfl|rfl|rfl
   all_goals exact xA X G (zb _ (by simp))
  ·intro c f hf;simp only[prog] at hf;split at hf
   ·exact⟨⟨kC_Picture.pg,kC_Picture.hd,kC_Picture.po,kC_Picture.sa⟩,qaz⟩
   ·exact⟨⟨kC_Picture.pg,kC_Picture.hd,kC_Picture.po,kC_Picture.sa⟩,Zaz⟩
   ·exact⟨⟨kC_MaskedWay.pg,kC_MaskedWay.hd,kC_MaskedWay.po,kC_MaskedWay.sa⟩,Zaq⟩
   ·exact⟨⟨kC_MaskedWay.pg,kC_MaskedWay.hd,kC_MaskedWay.po,kC_MaskedWay.sa⟩,Qaj⟩
   ·cases hf
  ·exactλc t b hs=>IJ TS hs gn tk
  ·exactλc t b hs ht=>((Qw TS hs).2.2.1 ht).2
  ·exactλc t b hs ht=>(Qw TS hs).2.2.2 ht
  ·exactλt c b hs ht TT hTT=>tyT TS hs ht hTT
  ·exactλc hc=>nomatch (show false=true from hc)
  ·intro wd hw;simp only[prog] at hw;cases hw
  ·exactλt ht=>nomatch (show false=true from ht)
  ·exactλc t b hs=>nomatch (show none=some b from hs)
  ·exactλf ds h=>nomatch (show false=true from h)
  ·exactλc m f hm _=>ycV TM hm
  ·intro c hc;simp only[prog] at hc;split at hc
   ·exact⟨QcP,wl X G kC_Way.a⟩
   ·exact⟨zbT,wl X G kC_FroWay.a⟩
   ·exact⟨qaZ,wl X G kC_ColumnWay.a⟩
   ·exact⟨Za5,wl X G kC_FoldedWay.a⟩
   ·cases hc
  ·intro x i hx;simp only[prog] at hx;split at hx
   ·cases hx;exact⟨_,wl X G ZcJ⟩
   ·cases hx;exact⟨_,wl X G QcX⟩
   ·cases hx
  ·exactλh=>nomatch (show false=true from h)
 exact⟨ug "law" "law" (Zl ot) (qh ot) (Yc ot) .none Mt Mu PD LJ JT Ll,λs v=>.of_eq rfl,λbase kb _ lb=>YcF (n:=8) T kb lb Fl rfl Mw (λns hl=>⟨[],MP.oB 0 ns hl⟩)⟩
end SD
open PySem PySem.W PyProof.Rows L2 L3 M3 SD
set_option maxRecDepth 100000 in
set_option maxHeartbeats 0 in
theorem PySem.Challenge.cw_dotscreen_k90_whole_never_lost_holds : PySem.Challenge.rw_dotscreen_k90_whole_never_lost.Holds := by
 w_on;o_law;k_head;(case hw=>w_witness2)
 k_fill
 refine' SD.vK (l:=PySem.Challenge.rw_dotscreen_k90_whole_never_lost) (k:=18) (lp:=⟨109,25,109,52⟩) rfl rfl ⟨rfl,by decide,by decide⟩ (λw h Y=>PySem.W.km_in_of Y) ?T ?C ?K ?F
 (case C =>
  intro w h KX;refine' SD.mP (st:=Ym) KX ?a ?l ?lc ?e11 ?e18 ?e7 ?e9 ?e10 ?ne
  (case a=>k_is);(case l=>k_is);(case lc=>k_is);(case e11=>rfl);(case e18=>rfl);(case e7=>rfl);(case e9=>rfl);(case e10=>rfl);(case ne=>decide))
 (case T=>intro w h Y;exact PySem.W.km_tabs_of Y _ (by decide))
 (case K=>intro w;kernel_rfl)
 case F =>
  intro w mg fa h KX G oV;refine' SD.all_mk KX G oV ?s0 ?s1 ?s2 ?s3 ?s4 ?s5 ?s6 ?s7 ?s8 ?s9 ?tP ?s11 ?s12 ?s13 ?s14 ?s15 ?s16 ?s17 ?s18 ?s19 ?s20 ?s21 ?s22 ?s23 ?s24 ?s25 ?s26 ?s27 ?s28 ?s29 ?s30 ?s31 ?s32 ?s33 ?s34 ?s35 ?s36 ?s37 ?s38 ?s39 ?s40 ?s41  ?x0 ?x1 ?x2 ?x3 ?x4 ?x5 ?x6 ?x7 ?x8 ?x9 ?x10 ?x11 ?x12 ?x13 ?x14 ?x15 ?x16 ?x17 ?x18 ?x19 ?x20 ?x21 ?x22 ?x23 ?x24 ?x25 ?x26 ?x27 ?x28 ?x29 ?x30 ?x31 ?x32 ?x33 ?x34 ?x35 ?x36 ?x37 ?x38 ?x39 ?x40 ?x41 ?x42 ?x43 ?x44 ?x45 ?x46
  (case s0|s3|s4|s5|s13|s14|s22|s23|s33|s39|s41 =>
   try dsimp only[L2.ER]
   refine' SD.jx KX G (λ_ _ _ _ _ _ us hl=>by obtain⟨_,rfl⟩:=SD.Nl hl;rfl) ?a ?l ?c ?k
   (case a|l|c|k=>k_is))
  (case s1|s11|s28|s31|s38 =>
   try dsimp only[L2.ER]
   refine' SD.jx KX G (λ_ _ _ _ _ _ us hl=>by obtain⟨_,_,_,rfl⟩:=SD.oP hl;rfl) ?a ?l ?c ?k
   (case a|l|c|k=>k_is))
  (case s2|s6|s7|s8|s9|tP|s12|s16|s20|s21|s24|s25|s26|s27|s29|s32|s37|s40 =>
   try dsimp only[L2.ER]
   refine' SD.jx KX G (λ_ _ _ _ _ _ us hl=>by obtain⟨_,_,rfl⟩:=SD.ln2 hl;rfl) ?a ?l ?c ?k
   (case a|l|c|k=>k_is))
  (case s15|s17|s30|s34|s35|s36 =>
   try dsimp only[L2.ER]
   refine' SD.jx KX G (λ_ _ _ _ _ _ us hl=>by obtain⟨_,_,_,_,rfl⟩:=SD.Nk hl;rfl) ?a ?l ?c ?k
   (case a|l|c|k=>k_is))
  (case s18|s19 =>
   try dsimp only[L2.ER]
   refine' SD.jx KX G (λ_ _ _ _ _ _ us hl=>by obtain⟨_,_,_,_,_,rfl⟩:=SD.ln5 hl;rfl) ?a ?l ?c ?k
   (case a|l|c|k=>k_is))
  (case x3|x6|x7|x8|x9|x10=>
   refine' SD.CK.mk ?a ?b ?c ?d ?e ?f ?g ?h ?i ?j ?k ?l ?m ?n ?o ?z
   (case a|b|c|d|e|f|g|h|i|j|k|l|m|n|o|z=>k_is))
  (case x1|x2|x4|x5|x11|x12|x13|x14|x15|x16|x17|x22|x24|x26|x28|x30|x36|x37|x38|x39|x40|x41|x43|x44|x45|x46=>k_is)
  (case x32|x33|x34|x35=>
   refine' L3.pF.mk ?a ?b ?c
   (case a|b|c=>k_is))
  (case x18|x20=>
   refine' SD.IK.mk ?a ?b ?c
   (case a|b|c=>k_is))
  (case x19|x21|x23|x25|x27|x29|x31=>
   refine'⟨_,_,_,_,_,_,_,_,_,SD.FK.mk ?a ?b ?c ?d⟩
   (case a|b|c|d=>k_is))
  (case x42=>decide)
  (case x0=>intro z hz;simp only[Xa,Vc,or_false] at hz;rcases hz with rfl|rfl|rfl|rfl|rfl|rfl|rfl|rfl|rfl|rfl|rfl|rfl|rfl|rfl|rfl|rfl|rfl|rfl|rfl|rfl <;> k_is)
end