import PyProof.Rows.All
import Wide.All
import OpenK.AllK
import Wide.FinOn
import PySem.Challenge.RW_dotscreen_k52_stretches
import Lean
import PyProof.EqAt
import PyProof.EqKinds
import PyProof.TupleCall
import PyProof.CompFree
import PyProof.StationsW
import PyProof.ExcClass3
import PyProof.Cells
import PyProof.PassesOwn
import PyProof.RangeIter
import PyProof.TableTree
import PyProof.ZipIter
import PyProof.Draws
import PyProof.TupleIter
import PyProof.EnumMake
import PyProof.EnumStmt
import KE.KDictList
import PyProof.Rows.SortWalk
import KE.KRevIter
import PyProof.CollectIter
import KE.KRevSl
import KE.KMinKey
import KE.KLam
import PyProof.DictIter
import PyProof.AttrMiss
import PyProof.IsiH_list
import PyProof.CollectWalk
import KE.KDictOf
import PyProof.DictCopy
import PyProof.FactsAll.tuple_1
import PyProof.FactsAll.dict_3
import PyProof.DictItems
import KE.KIntText
import PyProof.StrBlock2
import PyProof.Rows.StrMul
import PySem.SetOps
import PySem.Builtin.Tuple.Common
import PyProof.Rows.SetFrom
import PyProof.SetRoads
import PyProof.WalksS
import KE.KItemsList
import PySem.Str
import PyProof.StrBlockL
import KE.IntTextText
import KE.IntBitsLaws
import PyProof.FitsBits
import PyProof.Rows.InDataRows
open PySem renaming wpAny_bind->aa,Addr->ae,wpAny_pure->af,Shared->ag,wpAny->ah,model->aj,Program->ak,starEach->ao,tupleKind->aq,wpAny_field->au,wpAny_holding->av,Scope->az,wpAny_callSpecial?_slot->aA,mainGlobals->aC,cellsFrom->aE,IsPair->aG,wpAny_call_entry->aL,compareOp->aM,ClassData->aN,wpAny_truthy_bool->aP,wpAny_newObj_type->aQ,wpAny_seqItems->aR,wpAny_setField_rec->aT,wpAny_mono->aU,wpAny_Call_Name_kw->aV,attributeBase->aZ,wpAny_dictEntries->a6,binaryOp->a7,rawInt->a8,backTo->a9,bootBuiltins->bc,behindInMarks->bf,swapsWith->bq,FuncData->bu,wpAny_passesOwn->bz,codeAny->bG,wpAny_rule->bH,wpAny_setField->bJ,wpAny_typeOf->bN,sysModules->bO,assignEach->bP,wpAny_attempt->bT,pyNext->bU,builtinLookup_eq_fast->bV,foldedSetIterable->bX,keywordEach->cb,call_meets->cw,IsRangeIter->cx,wpAny_isInstance->cz,storedH->cA,wpAny_comprehension_free->cD,wpAny_updateSeq->cL,wpAny_specialOf->cO,wpAny_execs_nil->cP,letOwnedTupleGo->cQ,codeAny_builtin->cR,sliceBounds->cV,IsZip->de,assign->dh,wpAny_notOrdered_dict->dj,cLine->dn,Draws->dq,Paired->du,wpAny_standAt->dw,wpAny_onRaise->dy,plainId_quiet->dz,Keyword->dA,wpAny_updateSeq_pair->dB,codeAny_call_builtin->dG,CmpOp->dH,typeLookup_type->dI,wpAny_isSubtype_exc->dM,holding->dP,codeAny_mono->dQ,wpAny_newFunctionEnv_cells->dU,wpAny_call->dW,tupleKind_room_in1->dX,reduceHash->dY,firstArgMember->dZ,entryOfKey->en,backToKw->eI,wpAny_pyIter_list->eJ,wpAny_loadPart_at->eL,argBest->eQ,wpAny_getItem_list_slice->eS,wpAny_pyNext_tuple_item->eX,wpAny_pyIter_zip->eY,DictEntry->fc,wpAny_pyNext_tuple_end->fk,wpAny_pyNext_list_item->fm,wpAny_pyIter_tupleiter->fo,wpAny_pyIter_rangeiter->fq,typeLookup->fu,callerA->fy,IsPart->fB,wpAny_dictEpoch->fH,wpAny_storeName_local->fJ,wpAny_pyNext_list_end->fK,wpAny_isTrue_Compare1->fL,exec_Assign_Name_used->fN,codeAny_call_function->fP,wpAny_newTuple->fS,wpAny_letGo->fU,unbindBehindTheSuite->fW,recursionLimit->f',newFunctionEnv->gu,isSubtype_stop->gv,fitsIndex_both->gy,updateSeq->gD,seqIndex?->gE,hashInt->gF,PassesOwn->gG,BindsTo->gH,isSubtype_dict_dict->gI,swappedStores->gM,evalPart_none->gP,wpAny_pyIter_tuple->gU,wpAny_pyIter_range->gV,sub_AttributeError->gW,getattributeRaised->hJ,Result->hX,wpAny_sequenceKey->ib,valueAt->ie,wpAny_forIn_list->iD,wpAny_execs_cons->iE,setFlight->iH,noteFrame->iI,noFill_tuple_add->iJ,entryFor_of_fast->iL,checkBuiltinCall->iM,wpAny_of_eq->iO,sizeLine_eq->iP,seqIndex_of->iQ,pushCells_keeps->iT,wpAny_loadPart->jv,wpAny_Name->jw,wpAny_Compare1->jx,typeIs_int->jy,newTuple->jC,getAttr?->jJ,callType_codes->jO,boundAndCalled->jP,bindL->jQ,bindC->jR,atKey->jS,swapsWithSole->j5,seq_tuple_add->j6,rangeSize_one->j',methodCallPos->kx,intBits_le_64->kA,dictSetHashed->kE,comprehension->kF,call_list_seq->kI,Code->kK,onTheHeap->kO,getMethod->kT,standAt->kX,pyIter->kY,isTrue->lg,entryFor->lU,compPost->lW,GenState->lY,preSum->l8,newExc->ma,cellOf->mw,Params->mD
open PyProof.Rows renaming boot_isinstance->aJ,envOfC->dt,AllBare->dS,subscriptTail_builtinR->fw,subscriptTail->gN,IsTup->gQ,Constant_none->gR,args_tuple_getitem->hU,IntsAre->i9,slicePart_none->jA,reads_tuple_at->jB,Subscript_->jT,tupleItemsOf_->j4,reads_list_at->j9
open PySem.Value renaming ref->Ka,none->ja,builtin->Ja,str->Ha,int->Ga,type->Kb,bool->jb,float->Jb,isStrOf->Hb
open Sum renaming inl->gb,inr->Gb
open PySem renaming mem_of_lookup->Jc,Within->Hc,call->gc
open Ne renaming symm->Ke
open PySem.Calls renaming callWith_builtin->He,evalArgs_plain->Ge,spliced_cons->kf,spliced_nil->Kf,Name_function_global->jf
open PySem.Builtin.Range renaming rangeSize->gf
open PyProof.Rows renaming slot_tuple_getitem->Gf,callWith_type1->kg
open True renaming intro->Kg
open PySem.Around renaming under_plainId->jg,under->Jg
open False renaming elim->Hg
open PySem.F renaming slot_zip_next->gg,slot_list_getattribute->Gg,slot_tuple_iterator_next->kh,plain_extend_loop->Kh,slot_dict_update->jh,args_zip_next_1->Jh,entry_zip_next->Hh,attrBase_ValueError->gh,args_tuple_add_2->Gh,plainAttrs_list->ki,entry_tuple_add->Ki,slot_tuple_add->ji,slot_dict_iter->Ji,args_tuple_iterator_next_1->Hi,entry_tuple_iterator_next->gi,slot_range_iterator_next->Gi,args_list_extend_2->Kj,entry_list_extend->jj,entry_extend_loop->Jj,slot_list_extend->Hj
open PySem.Builtin.Slice renaming slicePlaces->gj,sliceAdjust->Gj,sliceApplied->Kk
open PySem.Str renaming ofString->jk,ofString_eq_toList->Jk
open PySem.Builtin.Tuple renaming tupleHashOf->Hk,tupleExact->Gk,tupleItemsOf->Kl
open PySem.Obj renaming mapFields->jl,mapSeq->Jl,data_mapFields->Hl,isFreed_of_fields->Km,data_mapDictKeys->jm,isFreed_of_dict->Jm,data_mapDict->Hm
open PySem.Builtin.List renaming listTooLong->Jn,listExtendWith->Hn,listLengthHint->Gn,listSameRef->ko,listItems->Ko
open PySem.AutoSeq1 renaming list_extend_list_list_0->jo
open Or renaming inr->Jo
open ForInStep renaming yield->Ho
open PySem.Builtin.SmallTypes renaming nextOf->Go,ownedTupleIsFree->Kp,ownedTupleHandOut->jp
open PySem.Heap.SameBut renaming update->Jp,refl->gp
open PySem.NameKind renaming free->Gp,cell->Kq
open PySem.Builtin.Dict renaming updateFrom->jq,mergeDict->Jq,selfAndRest->Hq,addKeywords->Gq,entriesForEmpty->kr,readDirectly->Kr,showsAll->jr,quietEq->Jr,merge->Hr
open Std.Legacy.Range renaming forIn_eq_forIn_range'->Gr,size->Js
open PySem.PyData renaming eqv->Hs,depthAll->Gs,canLay0->Kt,depth->jt,canLayAll0->Jt,eqvAll->Ht
set_option maxHeartbeats 4000000
open PySem.Heap renaming get?_push_of_some->wa,lt_size->Ua,get?_push_size->xb,get?_update_other->wg,get?_update_self->xg,size_push->Xg,size_update->Vt,size_after_update->uD,get?_none_of_le->VE,SameBut->je,NewAttrErr->Je
open Bool renaming and_eq_true->Wa,false_ne_true->Xd,not_eq_true'->Wi,or_eq_true->Ui,noConfusion->wj,false_eq_true->uj,eq_iff_iff->xv,true_and->Vw,and_eq_true_iff->xz,and_eq_false_iff->WE,true_eq_false->xG,false_and->Jf,and_false->Hf
open List renaming getElem?_eq_some_iff->xa,size_toArray->Xa,replicate->va,map_cons->Va,mem_cons->Wb,lookup_cons->Xb,getElem?_append_left->ub,range->Vb,length_map->wc,getElem?_eq_getElem->xc,getElem?_map->Xc,mem_singleton->vc,length_cons->Vc,mem_map->Wd,map_append->ud,not_mem_nil->Ud,mem_cons_of_mem->Vd,getElem?_set_ne->we,mem_of_getElem?->We,length_append->ue,map_map->Ue,getElem?_append_right->Ve,mem_append_right->Wf,getElem?_set_self->uf,mem_append_left->Uf,mem_append->vf,nil_append->Vf,mem_cons_self->Ug,append_assoc->Vg,append_nil->xh,getD_eq_getElem?_getD->Uh,nodup_cons->Vh,length_nil->ui,take_length->Vi,getElem_mem->Uj,take_add_one->Vj,ext_getElem?->xk,flatMap_cons->Xk,foldl_cons->Uk,length_replicate->vk,eq_of_mem_replicate->wl,nodup_append->Wl,map_nil->Xl,length_take->Ul,all_eq_true->Vl,mem_flatMap->Wm,sum_append->Xm,mem_of_mem_take->Um,eq_nil_of_length_eq_zero->vn,replicate_succ->wo,length_pos_iff->Wo,getElem?_range->xo,mem_range->Xo,forIn_cons->Wp,sum_cons->xp,reverse_cons->Xp,getElem?_mapIdx->Up,drop_eq_getElem_cons->wq,getD->Wq,forIn_nil->Xq,mapM_cons->uq,getElem?_take_of_lt->vq,flatten_replicate_singleton->Wr,getElem?_replicate->xr,find?_cons->Xr,getElem_cons_succ->Xs,getElem_cons_zero->Us,flatten_cons->Vs,lookup->Xu,getElem_of_mem->uu,map_eq_nil_iff->Uu,of_mem_zip->uv,range_succ->Uv,length_eq_zero_iff->Ww,take_of_length_le->Uw,map_take->wx,length_drop->Wx,filter_cons->Xx,drop_length->Ux,flatMap_nil->vx,set_append_right->Vx,getElem?_eq_none->wy,eq_nil_or_concat->Wy,concat_eq_append->xy,eraseIdxIfInBounds_toArray->Xy,mem_filter->uy,getElem?_modify->uz,filterMap_cons->Uz,length_flatMap->wA,flatMap_append->WA,drop_zero->uA,contains_cons->VA,getElem?_inj->vB,getElem?_zip_eq_some->VB,ext_getElem->uC,getElem?_cons_succ->vC,getElem?_modify_eq->VC,length_zip->WD,take_left'->xD,length->XD,length_singleton->wE,getElem?_toArray->xE,take_append_drop->uE,map->wF,any_cons->WF,length_reverse->xF,drop_succ_cons->uF,mem_filterMap->vF,zip_nil_right->XG,zip_cons_cons->uG,length_range->XH,zipIdx_cons->wI,range'_succ->xI,map_reverse->XI,cons_append->uI,foldl->UI,cons->gm,zipIdx_nil->Gm,length_set->kn,nodup_nil->Kn,foldl_nil->jn
open PySem.W renaming subIn->ua,findIn->Wc,kitOne->Xe,mg_of->Wg,emptyDict->ug,keepIn->vg,instObj->Wh,kia_one->xi,fnOf->Xi,clsIn->xj,specialIn->Vm,codeIn->Uo,takesIn->Vo,typeIn->xq,mg_none_of->Vr,nsIn->ut,plainGet->Ut,looks_findIn->vt,makesIn->Xv,callWith_K->Vv,hasDictIn->xw,cellsFrom_some->Xw,mroIn->vw,kitMeta->Xz,plainGet_of->vz,lookIn->xA,excIn->xB,methodObj->uB,plainOver->UB,isFn->WC,makes_of->xC,takerIn->wD,kitCls->XE,callWith_K0->XF,codeRec_of->VF,make_core->vG,kitx_list->VG,kitx_dict->wH,kdx_alive->xH,handedIn->UH,Frag->Gc,Looks->Kd,OpenLaw->jd,InitBack->Jd,findObj->Hd,InstAt->Gd,WalkO->ke
open Option renaming bind_eq_some_iff->wb,map_eq_some_iff->Uc,map_some->uh,isSome_iff_exists->Vk,bind_some->wm,bind_eq_bind->Wv,getD_some->ux,toList_some->wB,isSome_some->wG,isSome_map->WH,getD_none->vH,some->Kc,pure_def->jc
open Nat renaming le_refl->Ub,lt_of_lt_of_le->vb,ne_of_lt->uc,le_trans->xf,ne_of_gt->vh,lt_irrefl->Wj,zero_le->xl,mod_lt->ul,lt_succ_of_lt->xn,lt_succ_self->uo,pow_le_pow_right->Vp,le_of_eq->Uq,mod_eq_of_lt->Vq,add_mul->Ws,lt_trans->wt,zero_add->Xt,mul_le_mul_right->Wu,mul_comm->ww,mul_mod->uw,div_add_mod->Uy,sub_zero->Vy,min_le_left->Wz,le_succ->vA,le_of_lt->wC,pow_succ->UC,mul_le_mul->UE,add_sub_cancel->WG,le_of_not_lt->VH,two_pow_pos->Hu
open Function renaming comp_def->Xf,comp_apply->Vz,comp->ju
open Array renaming getElem?_toList->Xj,length_toList->uk,getElem?_eq_getElem->xm,forIn_toList->ur,getElem?_eq_some_iff->xu,getElem?_push->Vu,eq_empty_of_size_eq_zero->vy,size_push->wz,isEmpty_eq_false_iff->XB,getElem?_push_lt->vD,getElem?_eq_none->VD,toList->UF,all_toList->WI
open Prod renaming snd->um,fst->wu,ext->vv,mk->Ju
open Int renaming toNat_natCast->Xn,eq_ofNat_of_zero_le->Vn,emod_lt_of_pos->vo,emod_nonneg->Ur,fdiv_eq_ediv_of_nonneg->WB,le_refl->UD,ediv_lt_of_lt_mul->vE,natAbs_natCast->UG,mul_one->uH,le_antisymm->ku,ediv_nonneg->Ku
set_option Elab.async false
set_option linter.all false
set_option tactic.hygienic false
set_option maxRecDepth 100000
set_option genSizeOf false
set_option genSizeOfSpec false
set_option bootstrap.genMatcherCode false
structure PySem.W.Fast:Prop where(tw15197810891335643371 tw12182745256122911389 tw861764856950125845 tw1047503493608480730 tw6602454530467018155 tw10779251676990353711 tw2602553800552731435 tw3602518359634736038 tw17643450902895001723 tw10273023685274731882 tw6008765466102179036 tw4458555459185068682 tw10053349398940447774 tw6050725538556192977 tw14137341528584100124 tw13732549718127984014 tw426756645907361659 tw7938072646794580420 tw1490654699941325571 tw2440989389461547987 tw3878121357713743575 tw4323080675729924625 tw13834105296751367499 tw12333131308990716592 tw17544474265881978882 tw8880682354134377062 tw8597391908995965422 tw12203886539084292173 tw14805719292055802504 tw6296413717163153879 tw3874620251019997051 tw1989077866846843220 tw4681577884344364520 tw12100673711411114861 tw1842346065387684232 tw15956720576098369055 tw3348265229946135512 tw11018581132834226390 tw13062657858805958025 tw11359222438947903772 tw14975899135092415677 tw17348853363985717282 tw14719045251994929053 tw375434083623937367 tw10433838489456509120 tw9256600491988336142 tw12077058638721854778 tw11363908761915524672 tw16090245823815833185 tw8416079500859034028 tw16098569633539045886 tw14958349658905751175 tw12545831653153720345 tw9464403543535102875 tw1687766954518759330 tw17110764140900204636 tw236985502759092257 tw9684120097764532181 tw8663546163172951407 tw10984176729438643957 tw4920253558066229387 tw13782287654996302261 tw10210873591386518111 tw7644789592281489330 tw10543463375755596681 tw17269439014387459998 tw15050063535713813640 tw15230576437035842007 tw14408119006329648109 tw17730389590282274108 tw925948737915589723 tw8159257301832107571 tw8073870080243409852 tw1837848605239354474 tw10540617065656553565 tw10216562352469530976 tw1037380516472389239 tw17633187150283393394 tw5764645272536061463 tw47194138642779740 tw7536247200063479792 tw9754313817625855323 tw5048582609333554825 tw3223861664461318039 tw15563728447641194985 tw626818006151055787 tw1721388253515823194 tw5354296271204317984 tw2138447232130984889 tw8521204915465391870 tw6683896605203125787 tw11555252799612005502 tw18382283758195120107 tw4776591973531486365 tw15069812830049828205 tw1757995197219647748 tw12478833136769632848 tw15263722233993096371 tw3265803408212616391 tw5682237418975255651 tw6975897979704849515 tw2334209200565865239 tw1973823139823645043 tw7848078190366345588 tw2843085957309679466 tw4928075189461852314 tw13822877919136436476 tw1574376568026548723 tw15847698426268109610 tw977759700468766043 tw14931080840771808327 tw10358415273313138680 tw16092287969974988546 tw5660599184719841992 tw11010588196464325499 tw1398824902379013684 tw10034746606963700178 tw11327213008333643758 tw4082097332038641492 tw13490261381205718861 tw15966635546620172195 tw10162071730001744583 tw5647336269109910031 tw9763097492212447140 tw12936849130793525462 tw9445515662748871433 tw9796535129170458630 tw11283756624226269725 tw6412190998649454412 tw1110890449817545497 tw15047146971761820450 tw723786752171625128 tw15044597971760454512 tw8152926309626884374 tw2465015158575005340 tw4316561804408495077 tw1484742535262545684 tw16816173363853266060 tw14639482883599639036 tw2901278890477120511 tw7298825762241892808 tw9878750978659392381 tw15846462210145517851 tw17543024210107904886 tw2874431327215543739 tw18296724808252684504 tw13623625667763381682 tw3338879962574510360 tw16185603074549832302 tw13365569912060687915 tw5351622888771656312 tw11390882929064838180 tw9389176312086353030 tw8639602408940474052 tw1902045029821353363 tw5253097296479956867 tw5441528562465817998 tw11723916727157376536 tw9881502188467815313 tw3865655119782233741 tw10357976700749251767 tw7980206822157101789 tw2441113878145837317 tw11066324229580718253 tw7325072899396978891 tw18083327743199583874 tw9561917442726902571 tw16812780847882127723 tw8056452671363733838 tw7147968647224639210 tw16422659910038446276 tw16211735721683907637 tw6437212202936832201 tw8994644662924840186 tw9158066215779651625 tw8274882508638783304 tw8878708287840345877 tw13741906232095554770 tw15873622962169677860 tw415590475671606290 tw8988520796262184576 tw4012055464912317036 tw13723260592276468831 tw16155008203959845513 tw15642254086972770328 tw1540700623026766233 tw7153457245418384267 tw13019952939828670962 tw13480974105177271755 tw8090933155774857699 tw897325025177479610 tw9903387468621963613 tw10463673112558678797 tw13052967701368641784 tw12331696695844487146 tw6990010248456606422 tw6979194519723248762 tw10063514892694866571 tw4171640161794076609 tw5970173000097702629 tw1190384638790686620 tw11231573848142777404 tw13270951434817476587 tw8092652512160982085 tw1886854501902019101 tw7088963194821814564 tw8228698978234178818 tw742275171201786764 tw6661768048213616599 tw7594921864771291530 tw9508154443222792677 tw5904918508134328510 tw2117164257503281908 tw5659017207746432079 tw10918070149925515238 tw14011057127149630478 tw12856903205318610340 tw11517010346260827266 tw9371117509795994880 tw10657437058670998528 tw17267682180773170667 tw2587984835530698930 tw3765149936169209546 tw18304041682759447626 tw12615153069239087513 tw3545069649439096534 tw3305598723774301538 tw1548323817635344204 tw5242365747242910859 tw6453114359025450152 tw648355208883575139 tw2389509872216133877 tw10793820698940628495 tw13462358570081768750 tw9255474561622123960 tw13656421967034316068 tw6947950724394396625 tw5418019679523800718 tw5656870092407517324 tw5593966334385697030 tw6779298103650927658 tw6167269156635737195 tw9940610827486460527 tw988294524966686623 tw11225774318800522051 tw8530502219992931334 tw14371768327969232660 tw15872788113399100418 tw3550638372571023190 tw17789613532901235025 tw12712235973136964753 tw6620700452739046326 tw3217291979287635643 tw3031594193333717673 tw10852677121194545958 tw9017209191719598434 tw12514460217033212099 tw12370909153038352791 tw17002241401581519648 tw6699500197365722601 tw2507646720167470626 tw9023384107007907952 tw12670997244421701608 tw7276203274105671364 tw8162093203349446450 tw2473927308814101850 tw14805374718165819243 tw17995344357862566411 tw10326790417151523784 tw11294368367551759642 tw11227356721834639074 tw10547296195963825018 tw17028676640458849306 tw17829226932234284654 tw16368860060254496481 tw864444193885223302 tw3052290851144042603 tw1925636330588826914 tw6223803269156727660 tw14524404123070450185 tw15331054180224073373 tw3338132069509635266 tw16323402855907731306 tw18373697149733642672 tw11496723499131569863 tw2667437583172096408 tw2739637131180809605 tw1176126892659007448 tw10448657835640056661 tw4815771826055744872 tw9853626663036165047 tw16691834971085295559 tw5291113970978793952 tw8172332207883064031 tw4103853046471147290 tw2631016284773714373 tw15362251056843993957 tw13488760078913180018 tw11292725402012748759 tw17812677862666065323 tw5262743262280018749 tw10384688442124989650 tw2114898011479521314 tw6948199111608770458 tw15377379014064719114 tw7120036059716373481 tw16023917899533799547 tw6555617465297006662 tw788200097828923312 tw17027148044235113239 tw6271660982255952278 tw7054642578710862403 tw14124400971886341099 tw11980589071129250868 tw3636013710540714034 tw9900556141239091001 tw3747950000485172038 tw2947909964844567691 tw12260813695472236062 tw6311539322202604851 tw7372198495768213049 tw3684763268235850863 tw10667217462742417501 tw14448839926719145219 tw16297206359163487871 tw10577860477312009357 tw8934844846068642854 tw16222689549241138895 tw17252778456734307525 tw11529355949312643638 tw7602773728936101070 tw17522734976884295952 tw1985441468511377860 tw11397017864818964691 tw14419754738108570672 tw15935717462738785874 tw17603422703877250035 tw3590798101130171433 tw1722710903632080118 tw10211006995977955412 tw12684636929952193378 tw5783873786479305067 tw3959393969575348732 tw9752996934018000970 tw14879764062283995080 tw4401540051094898097 tw5299396341361865242 tw5576610729018060102 tw12876202903941406494 tw14086944988654449936 tw2316027261507003110 tw1565652056437371695 tw4941719417508481641 tw9083036357816136482 tw630541596632870731 tw5344126811808150947 tw3693767556529799637 tw15006032544331482697 tw14525863534190536509 tw7517886059849615643 tw9277010414436702869 tw13854810865946811137 tw3473840174678343883 tw8743359622196212466 tw1028942859479689876:True)
theorem OB.e2{α β}{p:α->β->Prop}{G:Prop}(h:∃ a b,p a b)(k:∀ a b,p a b->G):G:=h.elim fun a h=>Exists.elim h (k a)
theorem OB.e3{α β γ}{p:α->β->γ->Prop}{G:Prop}(h:∃ a b c,p a b c)(k:∀ a b c,p a b c->G):G:=h.elim fun a h=>OB.e2 h (k a)
theorem OB.e4{α β γ δ}{p:α->β->γ->δ->Prop}{G:Prop}(h:∃ a b c d,p a b c d)(k:∀ a b c d,p a b c d->G):G:=h.elim fun a h=>OB.e3 h (k a)
theorem OB.e5{α β γ δ ε}{p:α->β->γ->δ->ε->Prop}{G:Prop}(h:∃ a b c d e,p a b c d e)(k:∀ a b c d e,p a b c d e->G):G:=h.elim fun a h=>OB.e4 h (k a)
theorem OB.e6{α β γ δ ε ζ}{p:α->β->γ->δ->ε->ζ->Prop}{G:Prop}(h:∃ a b c d e f,p a b c d e f)(k:∀ a b c d e f,p a b c d e f->G):G:=h.elim fun a h=>OB.e5 h (k a)
theorem OB.a2{A B G:Prop}(h:A/\B)(k:A->B->G):G:=k h.1 h.2
theorem OB.a3{A B C G:Prop}(h:A/\B/\C)(k:A->B->C->G):G:=OB.a2 h.2 (k h.1)
theorem OB.a4{A B C D G:Prop}(h:A/\B/\C/\D)(k:A->B->C->D->G):G:=OB.a3 h.2 (k h.1)
theorem OB.a5{A B C D E G:Prop}(h:A/\B/\C/\D/\E)(k:A->B->C->D->E->G):G:=OB.a4 h.2 (k h.1)
theorem OB.a6{A B C D E F G:Prop}(h:A/\B/\C/\D/\E/\F)(k:A->B->C->D->E->F->G):G:=OB.a5 h.2 (k h.1)
theorem OB.a7{A B C D E F H G:Prop}(h:A/\B/\C/\D/\E/\F/\H)(k:A->B->C->D->E->F->H->G):G:=OB.a6 h.2 (k h.1)
theorem OB.a8{A B C D E F H I G:Prop}(h:A/\B/\C/\D/\E/\F/\H/\I)(k:A->B->C->D->E->F->H->I->G):G:=OB.a7 h.2 (k h.1)
theorem OB.a9{A B C D E F H I J G:Prop}(h:A/\B/\C/\D/\E/\F/\H/\I/\J)(k:A->B->C->D->E->F->H->I->J->G):G:=OB.a8 h.2 (k h.1)
open Lean in
local macro_rules|`(tactic|obtain⟨$ps,*⟩:=$e:term)=>do
 let mut xs:Array Term:=#[]
 let mut po:Array (TSyntax `tactic):=#[]
 for p in ps.getElems do
  let q:=p.raw[0][0][0]
  let i:=q[0].getId
  unless p.raw[0][0].getNumArgs==1&&p.raw[1].getNumArgs==0 do Macro.throwUnsupported
  let x:=mkIdent (.mkSimple s!"o{xs.size}'")
  if q.isOfKind `Lean.Parser.Tactic.rcasesPat.ignore then xs:=xs.push x
  else if q.isOfKind `Lean.Parser.Tactic.rcasesPat.tuple then
   xs:=xs.push x
   let qs:TSyntaxArray `Lean.Parser.Tactic.rcasesPatLo:=⟨q[1].getSepArgs.toList.map (⟨·⟩)⟩
   po:=po.push (<-`(tactic|obtain⟨$qs,*⟩:=$x:ident))
  else if q.isOfKind `Lean.Parser.Tactic.rcasesPat.one&&q[0].isIdent then
   if i==`rfl then
    xs:=xs.push x
    po:=po.push (<-`(tactic|first|subst $x:ident|cases $x:ident))
   else xs:=xs.push ⟨q[0]⟩
  else Macro.throwUnsupported
 let n:=xs.size
 if e.raw.isIdent&& !xs.any (·.raw.getId==e.raw.getId) then po:=#[(<-`(tactic|try clear $(⟨e.raw⟩):ident))]++po
 let f (c:String)(k:Nat):Term:=⟨mkIdent (if c=="e"&&k==1 then `Exists.elim else .str `OB s!"{c}{k}")⟩
 let mut al:Array (TSyntax `Lean.Parser.Tactic.tacticSeq):=#[]
 for k in [0:n] do
  if k<7&&n-k<10&&1<n then
   let y:=xs.extract k n
   let t<-if k==0 then `($(f "a" n) $e fun $xs* =>?_) else if n-k==1 then `($(f "e" k) $e fun $xs* =>?_) else
    let x:=xs.extract 0 k
    `($(f "e" k) $e fun $x* r=>$(f "a" (n-k)) r fun $y* =>?_)
   al:=al.push (<-`(tacticSeq|refine $t;$[$po]*))
 al:=al.push (<-`(tacticSeq|rcases $e:term with⟨$ps,*⟩))
 `(tactic|first $[|$al]*)
section
namespace L2
open PySem PySem.Spec PyProof.Rows
noncomputable abbrev Key:=Sum Int Str
noncomputable def w4:Key->Value->Bool
 |.inl k,v=>Value.isInt k v
 |.inr x,v=>Hb x v
noncomputable def HX(w:World):Key->Int
 |.inl k=>gF k
 |.inr x=>hashStr w x
theorem zn:∀{k:Key}{v:Value},w4 k v=true->(∃ i t,k=gb i/\v=Ga i t)\/(∃ x t,k=Gb x/\v=Ha x t)
 |.inl i,v,h=>by
  obtain⟨t,e⟩:=Value.isInt_shape (k:=i) (v:=v) h;exact .inl ⟨i,t,rfl,e⟩
 |.inr x,v,h=>by
  obtain⟨t,e⟩:=Value.isStrOf_shape (x:=x) (v:=v) h;exact .inr ⟨x,t,rfl,e⟩
theorem zb2(i:Int)(t:Tok):w4 (.inl i) (.int i t)=true:=by simp[w4,Value.isInt]
theorem ybR(x:Str)(t:Tok):w4 (.inr x) (.str x t)=true:=by simp[w4,Hb]
theorem qcV(a b:Int):decide ((gb a:Key)=gb b)=(a==b):=by
 by_cases e:a=b
 ·subst e;simp
 ·have h:¬(gb a:Key)=gb b:=λq=>e (gb.inj q);rw[decide_eq_false h];exact(beq_eq_false_iff_ne.mpr e).symm
theorem Qc0(a b:Str):decide ((Gb a:Key)=Gb b)=decide (a=b):=by
 by_cases e:a=b
 ·subst e;simp
 ·have h:¬(Gb a:Key)=Gb b:=λq=>e (Gb.inj q);rw[decide_eq_false h,decide_eq_false e]
theorem YcZ(a:Int)(b:Str):decide ((gb a:Key)=Gb b)=false:=decide_eq_false (λq=>nomatch q)
theorem Zdd(a:Str)(b:Int):decide ((Gb a:Key)=gb b)=false:=decide_eq_false (λq=>nomatch q)
noncomputable def zg(prog:ak)(w:World):PySem.KeyKind prog w Key where
 is:=w4
 hash:=HX w
 inj:=λv a b ha hb=>by
  rcases zn ha with ⟨i,t,rfl,rfl⟩|⟨x,t,rfl,rfl⟩
  ·rcases zn hb with ⟨j,u,rfl,e⟩|⟨y,u,rfl,e⟩
   ·injection e with e1 _;rw[e1]
   ·exact nomatch e
  ·rcases zn hb with ⟨j,u,rfl,e⟩|⟨y,u,rfl,e⟩
   ·exact nomatch e
   ·injection e with e1 _;rw[e1]
 byValue:=λk v h=>by
  rcases zn h with ⟨i,t,rfl,rfl⟩|⟨x,t,rfl,rfl⟩ <;> rfl
 pyHash:=λhv h=>by
  rcases zn hv with ⟨i,t,rfl,rfl⟩|⟨x,t,rfl,rfl⟩
  ·exact wpAny_pyHash_int h
  ·exact wpAny_pyHash_str h
 eqBool:=λhu hv h=>by
  rcases zn hu with ⟨i,t,rfl,rfl⟩|⟨x,t,rfl,rfl⟩
  ·rcases zn hv with ⟨j,u,rfl,rfl⟩|⟨y,u,rfl,rfl⟩
   ·rw[qcV] at h;exact wpAny_eqBool_int h
   ·rw[YcZ] at h;exact SeqAt.EqAt.int_str i t y u _ _ _ _ h
  ·rcases zn hv with ⟨j,u,rfl,rfl⟩|⟨y,u,rfl,rfl⟩
   ·rw[Zdd] at h;exact SeqAt.EqAt.str_int x t j u _ _ _ _ h
   ·rw[Qc0] at h;exact wpAny_eqBool_str h
 «strs»:=λk x t v h=>by
  rcases zn h with ⟨i,u,rfl,e⟩|⟨y,u,rfl,e⟩
  ·exact nomatch e
  ·injection e with e1 _
   subst e1;cases v <;> rfl
theorem zbi(prog:ak)(w:World)(i:Int)(t:Tok):(zg prog w).is (.inl i) (.int i t)=true:=zb2 i t
theorem qbk(prog:ak)(w:World)(x:Str)(t:Tok):(zg prog w).is (.inr x) (.str x t)=true:=ybR x t
inductive V where
 |bh|bl (b:Bool)|int (i:Int)|str (x:Str)|om (b:Array UInt8)|sj (b:UInt64)|ref (a:ae)|ty (n:String)
 deriving DecidableEq
def RelV:V->Value->Prop
 |.bh,u=>u=ja
 |.bl b,u=>u=jb b
 |.int i,u=>∃ t,u=Ga i t
 |.str x,u=>∃ t,u=Ha x t
 |.om b,u=>∃ t,u=Value.bytes b t
 |.sj b,u=>∃ t,u=Jb b t
 |.ref a,u=>u=Ka a
 |.ty n,u=>u=Kb n
abbrev Vals:List V->List Value->Prop:=du RelV
theorem Vals.length{xs:List V}{us:List Value}(r:Vals xs us):xs.length=us.length:=du.length r
theorem Vals.get:∀{xs:List V}{us:List Value}{i:Nat}{x:V},Vals xs us->xs[i]?=some x->∃ u,us[i]?=some u/\RelV x u
 |_,_,_,_,.nil,e=>by simp at e
 |_,_,0,_,.cons r _,e=>by simp at e;subst e;exact⟨_,rfl,r⟩
 |_,_,i+1,x,.cons _ t,e=>by
  obtain⟨u,h1,h2⟩:=Vals.get (i:=i) (x:=x) t (by simpa using e);exact⟨u,by simpa using h1,h2⟩
theorem Vals.set{x:V}{u:Value}(r:RelV x u):∀{xs:List V}{us:List Value}(i:Nat),Vals xs us->Vals (xs.set i x) (us.set i u)
 |_,_,_,.nil=>.nil
 |_,_,0,.cons _ t=>.cons r t
 |_,_,i+1,.cons q t=>.cons q (Vals.set r i t)
theorem Vals.append:∀{xs ys:List V}{us ws:List Value},Vals xs us->Vals ys ws->Vals (xs++ys) (us++ws)
 |_,_,_,_,.nil,s=>s
 |_,_,_,_,.cons r t,s=>.cons r (Vals.append t s)
theorem Vals.take:∀{xs:List V}{us:List Value}(n:Nat),Vals xs us->Vals (xs.take n) (us.take n)
 |_,_,0,_=>.nil
 |_,_,_+1,.nil=>.nil
 |_,_,n+1,.cons r t=>.cons r (Vals.take n t)
theorem Vals.drop:∀{xs:List V}{us:List Value}(n:Nat),Vals xs us->Vals (xs.drop n) (us.drop n)
 |_,_,0,r=>r
 |_,_,_+1,.nil=>.nil
 |_,_,n+1,.cons _ t=>Vals.drop n t
def iw:Option V->Option Value->Prop
 |some v,some u=>RelV v u
 |none,none=>True
 |_,_=>False
def KV{κ:Type}:List (κ×V)->List (κ×Value)->Prop:=du λ(p:κ×V)(q:κ×Value)=>p.1=q.1/\RelV p.2 q.2
noncomputable def kV:Key->V
 |.inl i=>.int i
 |.inr x=>.str x
inductive HO where
 |lst (xs:List V)
 |tup (xs:List V)
 |dK (kvs:List (Key×V))|dT (kvs:List (List Key×V))
 |set (S:Int->Bool) (n:Nat)
 |ins (C dx:ae) (fs:List (Str×V))
 |own (x:ae)
 |xd (fs:List (Str×V))
 |met (f x:ae)
 |D8 (lo hi:Int)
 |eO (o:Obj) (u:HO)
 |rG (ps:Array Value)
 |ext (φ:Heap->Prop)
noncomputable abbrev Hp:=ae->Option HO
noncomputable def upd(H:Hp)(a:ae)(o:HO):Hp:=λb=>if b=a then some o else H b
theorem zf{H:Hp}{a:ae}{o:HO}:upd H a o a=some o:=by unfold upd;rw[if_pos rfl]
theorem Qc{H:Hp}{a b:ae}{o:HO}(h:b≠a):upd H a o b=H b:=by unfold upd;rw[if_neg h]
theorem OS{H:Hp}{a b:ae}{o u:HO}(h:H a=some o)(h':H b=some u)(d:o≠u):a≠b:=by
 intro e;subst e;rw[h] at h';exact d (Kc.inj h')
theorem Qe{H:Hp}{a b:ae}{o:HO}(h:H a=some o)(h':H b=none):a≠b:=by
 intro e;subst e;rw[h] at h';cases h'
section
variable (P:ak) (w:World)
def bI(H:Hp)(h:Heap)(a:ae):HO->Prop
 |.lst xs=>xs.length<=sizeLine/\∃(aw:List Value)(n:Nat),Vals xs aw/\h.get? a=some {cls:=.type "list",data:=.seq aw.toArray n}
 |.tup xs=>xs.length<=sizeLine/\∃ aw:List Value,Vals xs aw/\gQ h a aw.toArray
 |.dK kvs=>kvs.length<=sizeLine/\(a==bO)=false/\∃ vs,KV kvs vs/\h.DictOf (zg P w) a vs
 |.dT kvs=>kvs.length<=sizeLine/\(a==bO)=false/\∃ xs:List (List Key×ae×Value),
   du (λ(p:List Key×V)(q:List Key×ae×Value)=>p.1=q.1/\H q.2.1=some (.tup (p.1.map kV))/\RelV p.2 q.2.2) kvs xs /\
   ∃ o es ep,h.get? a=some o/\o.ExactDict/\o.data=.dict es ep/\es.toList=xs.map (en (aq (zg P w)))/\(xs.map (·.1)).Nodup
 |.set S n=>h.SetOf (intKind P w) a S n
 |.ins C dx fs=>H dx=some (.own a)/\fs.length<=1000/\dx≠a/\h.get? a=some (Wh C dx) /\
   ∃ mA,h.Ns1 dx mA/\(∀ f,iw (fs.lookup f) (mA f))/\Hc mA (fs.map (·.1))
 |.own _=>∃ o,h.get? a=some o
 |.xd fs=>∃ mA,h.Ns1 a mA/\∀ f,iw (fs.lookup f) (mA f)
 |.D8 lo hi=>∃ t u v,h.get? a=some {cls:=.type "range",data:=.fields #[.int lo t,.int hi u,.int 1 v]}
 |.eO o u=>h.get? a=some o/\bI H h a u
 |.rG ps=>h.get? a=some {cls:=.none,data:=.fields ps}
 |.met f x=>h.get? a=some (uB (.ref f) (.ref x))
 |.ext φ=>φ h/\(∃ o,h.get? a=some o)/\∀ h1 h2:Heap,φ h1->(∀ o,h1.get? a=some o->h2.get? a=some o)->φ h2
def fQ(H:Hp)(h:Heap):Prop:=∀ a o,H a=some o->bI P w H h a o
end
section
variable {P:ak} {w:World} {H H':Hp} {h h':Heap} {a:ae} {o:HO}
theorem bI.lt(x:bI P w H h a o):a<h.objs.size:=by
 cases o with
 |lst xs=>obtain⟨_,_,_,_,e⟩:=x;exact Ua e
 |tup xs=>obtain⟨_,_,_,p⟩:=x;exact p.lt
 |dK kvs=>obtain⟨_,_,_,_,o,_,_,e,_⟩:=x;exact Ua e
 |dT kvs=>obtain⟨_,_,_,_,o,_,_,e,_⟩:=x;exact Ua e
 |set S n=>obtain⟨o,_,_,_,e,_⟩:=x;exact Ua e
 |ins C dx fs=>obtain⟨_,_,_,e,_⟩:=x;exact Ua e
 |own y=>obtain⟨_,e⟩:=x;exact Ua e
 |xd fs=>obtain⟨_,⟨_,_,_,e,_⟩,_⟩:=x;exact Ua e
 |D8 lo hi=>obtain⟨_,_,_,e⟩:=x;exact Ua e
 |eO ob u=>obtain⟨e,_⟩:=x;exact Ua e
 |rG ps=>exact Ua (show h.get? a=some _ from x)
 |met f y=>exact Ua (show h.get? a=some _ from x)
 |ext φ=>obtain⟨_,⟨_,e⟩,_⟩:=x;exact Ua e
theorem du.tF{α β:Type}{F G:α->β->Prop}:∀{l₁:List α}{l₂:List β},du F l₁ l₂->(∀ a b,F a b->G a b)->du G l₁ l₂
 |_,_,.nil,_=>.nil
 |_,_,.cons r t,f=>.cons (f _ _ r) (du.tF t f)
theorem bI.kU(x:bI P w H h a o)(k:∀ b u,(b=a\/H b=some (.own a))->h.get? b=some u->h'.get? b=some u)
  (ho:∀ b,H b=some (.own a)->H' b=some (.own a)) (ht:∀ b xs,H b=some (.tup xs)->H' b=some (.tup xs)):bI P w H' h' a o:=by
 induction o with
 |lst xs=>obtain⟨z,aw,n,r,e⟩:=x;exact⟨z,aw,n,r,k _ _ (.inl rfl) e⟩
 |tup xs=>obtain⟨z,aw,r,ob,e,c⟩:=x;exact⟨z,aw,r,ob,k _ _ (.inl rfl) e,c⟩
 |dK kvs=>obtain⟨z,y,vs,r,ob,es,ep,e,c⟩:=x;exact⟨z,y,vs,r,ob,es,ep,k _ _ (.inl rfl) e,c⟩
 |dT kvs =>
  obtain⟨z,y,xs,r,ob,es,ep,e,c⟩:=x;exact⟨z,y,xs,du.tF r λp q z=>⟨z.1,ht _ _ z.2.1,z.2.2⟩,ob,es,ep,k _ _ (.inl rfl) e,c⟩
 |set S n=>obtain⟨ob,es,ep,t,e,c⟩:=x;exact⟨ob,es,ep,t,k _ _ (.inl rfl) e,c⟩
 |ins C dx fs =>
  obtain⟨d,z,ne,e,mA,⟨od,es,ep,e2,c⟩,r⟩:=x;exact⟨ho _ d,z,ne,k _ _ (.inl rfl) e,mA,⟨od,es,ep,k _ _ (.inr d) e2,c⟩,r⟩
 |own y=>obtain⟨ob,e⟩:=x;exact⟨ob,k _ _ (.inl rfl) e⟩
 |xd fs=>obtain⟨mA,⟨od,es,ep,e,c⟩,r⟩:=x;exact⟨mA,⟨od,es,ep,k _ _ (.inl rfl) e,c⟩,r⟩
 |D8 lo hi=>obtain⟨t,u,v,e⟩:=x;exact⟨t,u,v,k _ _ (.inl rfl) e⟩
 |eO ob u ih=>obtain⟨e,q⟩:=x;exact⟨k _ _ (.inl rfl) e,ih q⟩
 |rG ps =>
  have e:h.get? a=some {cls:=.none,data:=.fields ps}:=x;show h'.get? a=some {cls:=.none,data:=.fields ps};exact k a _ (.inl rfl) e
 |met f y =>
  have e:h.get? a=some (uB (.ref f) (.ref y)):=x;show h'.get? a=some (uB (.ref f) (.ref y));exact k a _ (.inl rfl) e
 |ext φ=>obtain⟨p,⟨o,e⟩,st⟩:=x;exact⟨st _ _ p λo q=>k _ _ (.inl rfl) q,⟨o,k _ _ (.inl rfl) e⟩,st⟩
theorem fQ.lt(x:fQ P w H h)(e:H a=some o):a<h.objs.size:=(x a o e).lt
theorem fQ.fresh(x:fQ P w H h)(e:h.objs.size<=a):H a=none:=by
 cases q:H a with
 |none=>rfl
 |some u=>exact absurd (vb (x.lt q) e) (Wj _)
theorem fQ.kept(x:fQ P w H h)(k:∀ b u,h.get? b=some u->h'.get? b=some u):fQ P w H h':=λa o e =>
 (x a o e).kU (λb u _ q=>k b u q) (λ_ q=>q) λ_ _ q=>q
theorem fQ.laid(x:fQ P w H h)(k:∀ b u,h.get? b=some u->h'.get? b=some u)(hp:h.objs.size<=a)(new:bI P w (upd H a o) h' a o):fQ P w (upd H a o) h':=λb u e=>by
 have hn:=x.fresh hp;by_cases hb:b=a
 ·subst hb;rw[zf] at e;cases e;exact new
 ·rw[Qc hb] at e;exact(x b u e).kU (λc v _ q=>k c v q) (λc q=>by rw[Qc (Qe q hn)];exact q) λc xs q=>by rw[Qc (Qe q hn)];exact q
end
def Rd(H:Hp)(a:ae)(u:HO):Prop:=H a=some u\/∃ o,H a=some (.eO o u)
theorem Rd.of{H:Hp}{a:ae}{u:HO}(h:H a=some u):Rd H a u:=.inl h
theorem Rd.ok{P:ak}{w:World}{H:Hp}{h:Heap}{a:ae}{u:HO}(r:Rd H a u)(x:fQ P w H h):bI P w H h a u:=by
 rcases r with r|⟨o,r⟩
 ·exact x a u r
 ·obtain⟨_,q⟩:=x a _ r;exact q
def Ds:Option HO->Prop
 |some (.lst _)=>True
 |some (.dK _)=>True
 |some (.dT _)=>True
 |some (.set _ _)=>True
 |some (.ins _ _ _)=>True
 |some (.ext _)=>True
 |_=>False
section
variable {P:ak} {w:World} {H:Hp} {h h':Heap} {x e:ae} {o':HO}
theorem fQ.write(ok:fQ P w H h)(mu:Ds (H x))(he:e=x\/H e=some (.own x))(k:∀ b u,b≠e->h.get? b=some u->h'.get? b=some u)(wO:∃ u,h'.get? e=some u)
  (new:bI P w (upd H x o') h' x o'):fQ P w (upd H x o') h':=λb u q=>by
 have nR:∀ c y,H c=some (.own y)->c≠x:=λc y r z=>by subst z;rw[r] at mu;exact mu
 have HS:∀ c xs,H c=some (.tup xs)->c≠x:=λc xs r z=>by subst z;rw[r] at mu;exact mu
 by_cases hb:b=x
 ·subst hb;rw[zf] at q;cases q;exact new
 ·rw[Qc hb] at q;by_cases uL:b=e
  ·have q':H b=some (.own x):=by
    rcases he with z|z
    ·exact absurd (uL.trans z) hb
    ·rw[uL];exact z
   rw[q] at q';cases q';obtain⟨v,hv⟩:=wO;exact⟨v,by rw[uL];exact hv⟩
  ·refine(ok b u q).kU (λc v hc r=>k c v ?_ r) (λc r=>by rw[Qc (nR c b r)];exact r) λc xs r=>by rw[Qc (HS c xs r)];exact r
   rcases hc with rfl|hc
   ·exact uL
   ·rintro rfl
    rcases he with z|z
    ·exact nR c b hc z
    ·rw[hc] at z;cases z;exact hb rfl
end
structure Un (fs ex:List ae) (H H':Hp) (h h':Heap):Prop where
 keep:∀ b o,h.get? b=some o->H b=none->b∉fs->b∉ex->h'.get? b=some o
 slot:∀ b o,h.get? b=some o->H b=none->b∈fs->b∉ex->∃ sl,h'.get? b=some {o with slots:=sl}
 free:∀ b o,h.get? b=some o->H b=none->b∉ex->H' b=none
 there:∀ b o,h.get? b=some o->b∉ex->∃ o',h'.get? b=some o'
 iF:∀ b xs,H b=some (.tup xs)->H' b=some (.tup xs)
 iU:∀ b o u,H b=some (.eO o u)->H' b=some (.eO o u)
 jz:∀ b ps,H b=some (.rG ps)->∃ more,H' b=some (.rG (ps++more))
section
variable {fs JI ex pS:List ae} {H H1 H2:Hp} {h h1 h2 h':Heap} {a x e:ae} {o:HO}
theorem Un.any(u:Un fs ex H H1 h h1){b:ae}{ob:Obj}(q:h.get? b=some ob)(n:H b=none)(hx:b∉ex):∃ sl,h1.get? b=some {ob with slots:=sl}:=by
 by_cases hb:b∈fs
 ·exact u.slot b ob q n hb hx
 ·exact⟨ob.slots,u.keep b ob q n hb hx⟩
theorem Un.kept(k:∀ b u,h.get? b=some u->h'.get? b=some u):Un fs ex H H h h' :=
 ⟨λb ob q _ _ _=>k b ob q,λb ob q _ _ _=>⟨ob.slots,k b ob q⟩,λ_ _ _ n _=>n,λb ob q _=>⟨ob,k b ob q⟩,λ_ _ q=>q,λ_ _ _ q=>q,λ_ ps q=>⟨#[],by rw[q];simp⟩⟩
theorem Un.refl:Un fs ex H H h h:=Un.kept λ_ _ q=>q
theorem Un.laid(k:∀ b u,h.get? b=some u->h'.get? b=some u)(hp:h.objs.size<=a)(hn:H a=none):Un fs ex H (upd H a o) h h' where
 keep:=λb u q _ _ _=>k b u q
 slot:=λb u q _ _ _=>⟨u.slots,k b u q⟩
 free:=λb u q n _=>by rw[Qc (uc (vb (Ua q) hp))];exact n
 there:=λb u q _=>⟨u,k b u q⟩
 iF:=λb xs q=>by rw[Qc (Qe q hn)];exact q
 iU:=λb u xs q=>by rw[Qc (Qe q hn)];exact q
 jz:=λb ps q=>⟨#[],by rw[Qc (Qe q hn),q];simp⟩
theorem Un.write(mu:Ds (H x))(he:e=x\/H e=some (.own x))(k:∀ b u,b≠e->h.get? b=some u->h'.get? b=some u)(wO:∃ u,h'.get? e=some u):Un fs ex H (upd H x o) h h':=by
 have hx:∀ b,H b=none->b≠x:=λb n z=>by subst z;rw[n] at mu;exact mu
 have hb:∀ b,H b=none->b≠e:=λb n z=>by
  subst z
  rcases he with r|r
  ·exact hx b n r
  ·rw[n] at r;cases r
 have hm:∀ b u,H b=some u->¬ Ds (some u)->b≠x:=λb u q nm z=>by subst z;rw[q] at mu;exact nm mu
 refine⟨λb u q n _ _=>k b u (hb b n) q,λb u q n _ _=>⟨u.slots,k b u (hb b n) q⟩,λb u q n _=>by rw[Qc (hx b n)];exact n,λb u q _=>?_,
  λb xs q=>by rw[Qc (hm b _ q λz=>z)];exact q,λb u xs q=>by rw[Qc (hm b _ q λz=>z)];exact q,λb ps q=>⟨#[],by rw[Qc (hm b _ q λz=>z),q];simp⟩⟩
 by_cases uL:b=e
 ·subst uL;exact wO
 ·exact⟨u,k b u uL q⟩
end
noncomputable def DV(h:Heap)(H:Hp):List ae:=(Vb h.objs.size).filter λa=>(H a).isSome
noncomputable def rn(h:Heap)(H:Hp):Heap:=PySem.W.hideAll h (DV h H)
theorem QbT(h:Heap)(H:Hp):(rn h H).objs.size=h.objs.size:=PySem.W.hideAll_size _ _
theorem zct{h:Heap}{H:Hp}{b:ae}{o:Obj}(e:h.get? b=some o)(n:H b=none):(rn h H).get? b=some o :=
 PySem.W.hideAll_get _ e λhm=>by
  have q:(H b).isSome=true:=(uy.mp hm).2;rw[n] at q;simp at q
theorem YcE{h:Heap}{H:Hp}{b:ae}{o:Obj}(e:(rn h H).get? b=some o):h.get? b=some o/\H b=none:=by
 have e':h.get? b=some o:=PySem.W.of_hideAll (DV h H) e;refine⟨e',?_⟩;cases q:H b with
 |none=>rfl
 |some x =>
  have hm:b∈DV h H:=uy.mpr ⟨Xo.mpr (Ua e'),by simp[q]⟩;have z:(rn h H).get? b=none:=PySem.W.hideAll_none (DV h H) hm;rw[z] at e;cases e
structure Mod (K:Gc) (mg:Str->Option Value) (base:Heap):Prop where
 rY:K.In base
 glob:base.Ns aC mg
 blt:∃ mb,base.Ns builtinsNs mb/\∀ x:Str,x≠"__name__"->mb x=bc x
 nolimit:base.NoLimit
structure Cx where
 prog:ak
 w:World
 K:Gc
 mg:Str->Option Value
 base:Heap
 A:Around
 N:List Str
 s₀:ag
 H₀:Hp
 env:Env
 outer:List Env
 stack:List Env
 ex:List ae
 fn:Str->Bool
 calm:Bool
 pn:List (ae×Obj)
 xe:Value->ag->Prop
noncomputable def mr(l:List Env):List ae:=l.filterMap (·.frame)
noncomputable abbrev Cx.fs(X:Cx):List ae:=mr X.outer
def Fp(sc:az)(x:Str):Prop:=sc.names.lookup x=some .local\/sc.names.lookup x=some .cell\/sc.names.lookup x=some .free
def Loc(sc:az)(x:Str):Prop:=sc.names.lookup x=some .local\/sc.names.lookup x=some .cell
def Look(env:Env)(h:Heap)(m:Str->Option Value)(x:Str)(u:Value):Prop :=
 (env.kindOf x=some .local/\m x=some u)\/((env.kindOf x=some .cell\/env.kindOf x=some .free)/\∃ c,env.cells.lookup x=some c/\h.IsCell c (some u))
structure Cx.Ok (X:Cx):Prop where
 mod:Mod X.K X.mg X.base
 kind:X.env.scope.kind=.function
 glob:X.env.globals=aC
 blt:X.env.builtins=builtinsNs
 above:X.s₀.heap.objs.size<=X.env.locals
 inj:∀ x y c,X.env.cells.lookup x=some c->X.env.cells.lookup y=some c->x=y
 has:∀ x,(X.env.kindOf x=some .cell\/X.env.kindOf x=some .free)->∃ c,X.env.cells.lookup x=some c
 uU:∀ x c,X.fn x=true->X.env.cells.lookup x=some c->X.s₀.heap.objs.size<=c
 hd:X.calm=true->X.A.handled=none
 frames:X.A.frames=some X.stack
 pq:X.stack=X.outer\/(X.stack=X.env::X.outer/\X.env.frame=some X.env.locals)
 EU:∀ b∈X.ex,b≠X.env.locals/\∀ x c,X.env.cells.lookup x=some c->c≠b
 bs:∀ b o,X.base.get? b=some o->X.s₀.heap.get? b=some o/\X.H₀ b=none
 nI:X.base.objs.size<=X.s₀.heap.objs.size
 l9:∀ b o,X.base.get? b=some o->b∉X.ex
 nq:∀ b∈X.ex,b∉X.fs
 gw:X.s₀.heap.FunFrames X.base X.outer
 oS:∀ b∈X.fs,X.H₀ b=none
structure Inv (X:Cx) (pins:List (ae×Obj)) (σ:List (Option V)) (H:Hp) (s:ag):Prop where
 ok:X.Ok
 os:s.os=X.s₀.os
 bare:dS s.gens
 base:Un X.fs X.ex X.H₀ H X.s₀.heap s.heap
 loc:∃ m,s.heap.Ns X.env.locals m/\∀(i:Nat)(x:Str)(v:V),X.N[i]?=some x->σ[i]?=some (some v)->Fp X.env.scope x->∃ u,RelV v u/\Look X.env s.heap m x u
 cell:∀ x c,X.env.cells.lookup x=some c->∃ v,s.heap.IsCell c v
 free:H X.env.locals=none
 dN:∀ x c,X.env.cells.lookup x=some c->H c=none
 pin:∀ p∈X.pn++pins,s.heap.get? p.1=some p.2/\H p.1=none/\p.1≠X.env.locals/\p.1∉X.fs/\∀ v,p.2.data≠.cell v
 aS:fQ X.prog X.w H s.heap
 len:σ.length=X.N.length
section
variable {X:Cx} {pins:List (ae×Obj)} {σ:List (Option V)} {H H':Hp} {s:ag} {h':Heap}
theorem Cx.Ok.HV(ok:X.Ok){b:ae}{o:Obj}(e:X.base.get? b=some o):b∉X.fs:=λhb=>by
 have:=(ok.gw.mem hb).1;rw[e] at this;cases this
theorem Inv.bs(I:Inv X pins σ H s):∀ b o,X.base.get? b=some o->s.heap.get? b=some o/\H b=none:=λb o e =>
 ⟨I.base.keep b o (I.ok.bs b o e).1 (I.ok.bs b o e).2 (I.ok.HV e) (I.ok.l9 b o e),I.base.free b o (I.ok.bs b o e).1 (I.ok.bs b o e).2 (I.ok.l9 b o e)⟩
theorem Inv.bk(I:Inv X pins σ H s):∀ b o,X.base.get? b=some o->s.heap.get? b=some o:=λb o e=>(I.bs b o e).1
theorem Inv.mod(I:Inv X pins σ H s):Mod X.K X.mg X.base:=I.ok.mod
theorem Inv.gO(I:Inv X pins σ H s):X.K.In s.heap:=I.ok.mod.rY.keeps I.bk
theorem Inv.lt(I:Inv X pins σ H s):X.env.locals<s.heap.objs.size:=let ⟨_,hn,_⟩:=I.loc;hn.lt
theorem Inv.sz(I:Inv X pins σ H s):X.s₀.heap.objs.size<=s.heap.objs.size:=xf I.ok.above (wC I.lt)
theorem Inv.HU(I:Inv X pins σ H s){a:ae}(h:s.heap.objs.size<=a):a∉X.fs:=λhb=>by
 obtain⟨_,o,ho,_⟩:=I.ok.gw.mem hb;exact absurd (vb (Ua ho) (xf I.sz h)) (Wj _)
theorem Inv.pX(I:Inv X pins σ H s):∀ x c,X.env.cells.lookup x=some c->c≠X.env.locals:=λx c e z=>by
 obtain⟨v,o,ho,hd⟩:=I.cell x c e;obtain⟨m,⟨o',es,ep,mn,n6,_⟩,_⟩:=I.loc;rw[z,mn] at ho;cases ho;rw[n6] at hd;cases hd
theorem Inv.gw(I:Inv X pins σ H s):s.heap.FunFrames X.base X.outer:=by
 have all:∀(l:List Env),(∀ b∈mr l,b∈X.fs)->X.s₀.heap.FunFrames X.base l->s.heap.FunFrames X.base l:=by
  intro l
  induction l with
  |nil=>intro _ _;trivial
  |cons env r ih =>
   intro hs hl;obtain⟨hk,⟨L,o,hf,hn,ho,hd⟩,hr⟩:=hl;have hL:L∈X.fs:=hs L (by unfold mr;rw[Uz,hf];exact Ug);obtain⟨sl,e⟩:=I.base.slot L o ho (I.ok.oS L hL) hL λz=>I.ok.nq L z hL;exact⟨hk,⟨L,_,hf,hn,e,hd⟩,ih (λb hb=>hs b (by unfold mr;rw[Uz,hf];exact Vd _ hb)) hr⟩
 exact all X.outer (λ_ hb=>hb) I.ok.gw
theorem Inv.stack(I:Inv X pins σ H s):s.heap.FunFrames X.base X.stack:=by
 rcases I.ok.pq with e|⟨e,hf⟩
 ·rw[e];exact I.gw
 ·rw[e];obtain⟨m,hn,_⟩:=I.loc;refine .cons (by rw[I.ok.kind];decide) hf hn ?_ I.gw;exact VE (xf I.ok.nI I.ok.above)
theorem Inv.gY(I:Inv X pins σ H s):∀ b∈mr X.stack,b∈X.env.locals::X.fs:=λb hb=>by
 rcases I.ok.pq with e|⟨e,hf⟩
 ·rw[e] at hb;exact Vd _ hb
 ·rw[e] at hb;unfold mr at hb;rw[Uz,hf] at hb;exact hb
theorem Inv.iX(I:Inv X pins σ H s):∀ b∈mr X.stack,H b=none:=λb hb=>by
 rcases Wb.mp (I.gY b hb) with e|hb
 ·rw[e];exact I.free
 ·obtain⟨_,o,ho,_⟩:=I.ok.gw.mem hb;exact I.base.free b o ho (I.ok.oS b hb) λz=>I.ok.nq b z hb
theorem Inv.step{g':Array lY}{t':Nat}{d':Drawn}{ch:List ae}(I:Inv X pins σ H s)
  (oR:∀ b∈ch,(b∈X.ex\/X.s₀.heap.objs.size<=b)/\b≠X.env.locals/\(∀ x c,X.env.cells.lookup x=some c->c≠b)/\∀ p∈X.pn++pins,p.1≠b)
  (keep:∀ b o,b≠X.env.locals->b∉X.fs->b∉ch->s.heap.get? b=some o->H b=none->h'.get? b=some o)
  (slot:∀ b o,b≠X.env.locals->b∈X.fs->b∉ch->s.heap.get? b=some o->H b=none->∃ sl,h'.get? b=some {o with slots:=sl}) (free:∀ b o,b∉ch->s.heap.get? b=some o->H b=none->H' b=none)
  (there:∀ b o,b∉ch->s.heap.get? b=some o->∃ o',h'.get? b=some o')
  (iF:∀ b xs,H b=some (.tup xs)->H' b=some (.tup xs)) (iU:∀ b o u,H b=some (.eO o u)->H' b=some (.eO o u)) (jz:∀ b ps,H b=some (.rG ps)->∃ more,H' b=some (.rG (ps++more)))
  (ns:∀ m,s.heap.Ns X.env.locals m->h'.Ns X.env.locals m) (aS:fQ X.prog X.w H' h') (hg:dS g') :
  Inv X pins σ H' {s with heap:=h',gens:=g',drawn:=d',toks:=t'}:=by
 have N8:∀ b o,X.s₀.heap.get? b=some o->b≠X.env.locals:=λb o e=>uc (vb (Ua e) I.ok.above);have Ep:∀ b o,X.s₀.heap.get? b=some o->b∉X.ex->b∉ch:=λb o e hx hb=>by
  rcases(oR b hb).1 with z|z
  ·exact hx z
  ·exact absurd (vb (Ua e) z) (Wj _)
 have cellK:∀ x c,X.env.cells.lookup x=some c->∀ v,s.heap.IsCell c v->h'.IsCell c v:=λx c e v ⟨o,ho,hd⟩=>by
  have Bt:c∉ch:=λz=>(oR c z).2.2.1 x c e rfl;by_cases hc:c∈X.fs
  ·obtain⟨sl,q⟩:=slot c o (I.pX x c e) hc Bt ho (I.dN x c e);exact⟨_,q,hd⟩
  ·exact⟨o,keep c o (I.pX x c e) hc Bt ho (I.dN x c e),hd⟩
 refine⟨I.ok,I.os,hg,⟨λb o e n hb hx=>?_,λb o e n hb hx=>?_,λb o e n hx=>?_,λb o e hx=>?_,λb xs e=>iF b xs (I.base.iF b xs e),λb o xs e=>iU b o xs (I.base.iU b o xs e),λb ps e=>?_⟩,?_,λx c e=>?_,?_,λx c e=>?_,λp hp=>?_,aS,I.len⟩
 ·exact keep b o (N8 b o e) hb (Ep b o e hx) (I.base.keep b o e n hb hx) (I.base.free b o e n hx)
 ·obtain⟨sl,e1⟩:=I.base.slot b o e n hb hx;obtain⟨D6,e2⟩:=slot b _ (N8 b o e) hb (Ep b o e hx) e1 (I.base.free b o e n hx);exact⟨D6,e2⟩
 ·obtain⟨o',e1⟩:=I.base.there b o e hx;exact free b o' (Ep b o e hx) e1 (I.base.free b o e n hx)
 ·obtain⟨o',e1⟩:=I.base.there b o e hx;exact there b o' (Ep b o e hx) e1
 ·obtain⟨m1,e1⟩:=I.base.jz b ps e;obtain⟨m2,e2⟩:=jz b _ e1;exact⟨m1++m2,by rw[e2,Array.append_assoc]⟩
 ·obtain⟨m,hn,hl⟩:=I.loc;refine⟨m,ns m hn,λi x v e1 e2 e3=>?_⟩;obtain⟨u,r,l⟩:=hl i x v e1 e2 e3;refine⟨u,r,?_⟩
  rcases l with l|⟨k,c,e,z⟩
  ·exact .inl l
  ·exact .inr ⟨k,c,e,cellK x c e _ z⟩
 ·obtain⟨v,z⟩:=I.cell x c e;exact⟨v,cellK x c e v z⟩
 ·obtain⟨m,⟨o,_,_,ho,_⟩,_⟩:=I.loc;exact free _ o (λz=>(oR _ z).2.1 rfl) ho I.free
 ·obtain⟨v,o,ho,hd⟩:=I.cell x c e;exact free c o (λz=>(oR c z).2.2.1 x c e rfl) ho (I.dN x c e)
 ·obtain⟨e,n,ne,nf,d⟩:=I.pin p hp;have Bt:p.1∉ch:=λz=>(oR p.1 z).2.2.2 p hp rfl;exact⟨keep p.1 p.2 ne nf Bt e n,free p.1 p.2 Bt e n,ne,nf,d⟩
theorem Inv.un{t':Nat}(I:Inv X pins σ H s)(u:Un X.fs [] H H' s.heap h')(aS:fQ X.prog X.w H' h'):Inv X pins σ H' {s with heap:=h',toks:=t'}:=by
 obtain⟨m,⟨o,es,ep,ho,r⟩,_⟩:=id I.loc;obtain⟨sl,hL⟩:=u.any ho I.free (by simp);exact I.step (g':=s.gens) (d':=s.drawn) (ch:=[]) (λ_ z=>nomatch z) (λb o _ hb _ e n=>u.keep b o e n hb (by simp)) (λb o _ hb _ e n=>u.slot b o e n hb (by simp)) (λb o _ e n=>u.free b o e n (by simp)) (λb o _ e=>u.there b o e (by simp)) u.iF u.iU u.jz (λm' hm=>by
  obtain⟨o',JN,JR,mn,r'⟩:=hm;rw[ho] at mn;cases mn;exact⟨_,JN,JR,hL,r'⟩) aS I.bare
theorem Inv.call{g':Array lY}{t':Nat}{d':Drawn}{ch:List ae}(I:Inv X pins σ H s)(u:Un (mr X.stack) ch H H' s.heap h')(aS:fQ X.prog X.w H' h')(hg:dS g')
  (oR:∀ b∈ch,(b∈X.ex\/X.s₀.heap.objs.size<=b)/\b≠X.env.locals/\(∀ x c,X.env.cells.lookup x=some c->c≠b)/\∀ p∈X.pn++pins,p.1≠b) :
  Inv X pins σ H' {s with heap:=h',gens:=g',drawn:=d',toks:=t'}:=by
 obtain⟨m,⟨o,es,ep,ho,r⟩,_⟩:=id I.loc;obtain⟨sl,hL⟩:=u.any ho I.free λz=>(oR _ z).2.1 rfl;exact I.step (ch:=ch) oR (λb o hL hb hc e n=>u.keep b o e n (λz=>(Wb.mp (I.gY b z)).elim hL hb) hc) (λb o _ _ hc e n=>u.any e n hc) (λb o hc e n=>u.free b o e n hc) (λb o hc e=>u.there b o e hc) u.iF u.iU u.jz (λm' hm=>by
  obtain⟨o',JN,JR,mn,r'⟩:=hm;rw[ho] at mn;cases mn;exact⟨_,JN,JR,hL,r'⟩) aS hg
theorem Inv.turned{t':Nat}{it:ae}(I:Inv X pins σ H s)(k:∀ b o,b≠it->s.heap.get? b=some o->h'.get? b=some o)(hn:H it=none)(hL:it≠X.env.locals)
  (h1:it∈X.ex\/X.s₀.heap.objs.size<=it) (h2:∀ x c,X.env.cells.lookup x=some c->c≠it) (h3:∀ p∈X.pn++pins,p.1≠it):Inv X pins σ H {s with heap:=h',toks:=t'}:=by
 have N7:∀ b u,H b=some u->b≠it:=λb u e z=>by rw[z,hn] at e;cases e
 refine I.step (g':=s.gens) (d':=s.drawn) (ch:=[it]) (λb hb=>?_) (λb o _ _ hc e _=>k b o (λz=>hc (by simp[z])) e) (λb o _ _ hc e _=>⟨o.slots,k b o (λz=>hc (by simp[z])) e⟩) (λ_ _ _ _ n=>n)
  (λb o hc e=>⟨o,k b o (λz=>hc (by simp[z])) e⟩) (λ_ _ e=>e) (λ_ _ _ e=>e) (λb ps e=>⟨#[],by rw[e];simp⟩) (λm hm=>?_) (λb u e=>?_) I.bare
 ·have e:b=it:=by simpa using hb
  subst e;exact⟨h1,hL,h2,h3⟩
 ·obtain⟨o,es,ep,ho,r⟩:=hm;exact⟨o,es,ep,k _ o (Ke hL) ho,r⟩
 ·refine(I.aS b u e).kU (λc v hc q=>k c v ?_ q) (λ_ q=>q) λ_ _ q=>q
  rcases hc with z|z
  ·rw[z];exact N7 b u e
  ·exact N7 c _ z
theorem Inv.tok(I:Inv X pins σ H s)(t:Nat):Inv X pins σ H {s with toks:=t}:=I.un (h':=s.heap) (t':=t) Un.refl I.aS
theorem Inv.kept{t':Nat}(I:Inv X pins σ H s)(k:∀ b u,s.heap.get? b=some u->h'.get? b=some u):Inv X pins σ H {s with heap:=h',toks:=t'}:=I.un (Un.kept k) (I.aS.kept k)
theorem Inv.laid{a:ae}{o:HO}{t':Nat}(I:Inv X pins σ H s)(k:∀ b u,s.heap.get? b=some u->h'.get? b=some u)(hp:s.heap.objs.size<=a)(new:bI X.prog X.w (upd H a o) h' a o) :
  Inv X pins σ (upd H a o) {s with heap:=h',toks:=t'}:=I.un (Un.laid k hp (I.aS.fresh hp)) (I.aS.laid k hp new)
theorem Inv.write{x e:ae}{o:HO}{t':Nat}(I:Inv X pins σ H s)(mu:Ds (H x))(he:e=x\/H e=some (.own x))(k:∀ b u,b≠e->s.heap.get? b=some u->h'.get? b=some u)(wO:∃ u,h'.get? e=some u)
  (new:bI X.prog X.w (upd H x o) h' x o):Inv X pins σ (upd H x o) {s with heap:=h',toks:=t'}:=I.un (Un.write mu he k wO) (I.aS.write mu he k wO new)
theorem Inv.pins_of{rS:List (ae×Obj)}(I:Inv X pins σ H s)(h:∀ p∈rS,s.heap.get? p.1=some p.2/\H p.1=none/\p.1≠X.env.locals/\p.1∉X.fs/\∀ v,p.2.data≠.cell v):Inv X rS σ H s :=
 ⟨I.ok,I.os,I.bare,I.base,I.loc,I.cell,I.free,I.dN,λp hp=>(vf.mp hp).elim (λz=>I.pin p (Uf _ z)) (h p),I.aS,I.len⟩
theorem KL{N:List Str}(hN:N.Nodup){i j:Nat}{x:Str}(a:N[i]?=some x)(b:N[j]?=some x):i=j:=by
 obtain⟨h1,e1⟩:=xa.mp a;obtain⟨h2,e2⟩:=xa.mp b;exact(List.getElem_inj hN).mp (e1.trans e2.symm)
theorem YbR{M:Model}{A:Around}{E:Value->ag->Prop}{i:Nat}{x:Str}{v:V}{u:Value}{Q:Unit->ag->Prop}(I:Inv X pins σ H s)(hN:X.N.Nodup)(hi:X.N[i]?=some x)(hx:Loc X.env.scope x)(r:RelV v u)
  (h:∀ s',Inv X pins (σ.set i (some v)) H s'->(∃ a,je a s.heap s'.heap/\(a=X.env.locals\/X.env.cells.lookup x=some a))->Q () s') (hf:X.fn x=true\/X.env.scope.names.lookup x=some .local:=by first|exact .inl rfl|exact .inr rfl|assumption):ah M A (storeName X.env x u) Q E s:=by
 obtain⟨m,hn,hl⟩:=id I.loc;have Jw:(X.env.scope.kind == .class||(X.env.scope.kind == .module&&X.env.locals != X.env.globals))=false:=by rw[I.ok.kind];rfl
 have EL:i<σ.length:=by rw[I.len];exact(xa.mp hi).1
 have pX:=I.pX;have tracked:∀{a:ae}{h':Heap},(∃ o,s.heap.get? a=some o/\H a=none)->je a s.heap h'->fQ X.prog X.w H h':=λ{a h'} ha hs b ob e=>by
  obtain⟨_,_,jF⟩:=ha;refine(I.aS b ob e).kU (λc w' hc q=>(hs.2 c ?_).trans q) (λ_ q=>q) λ_ _ q=>q;rintro rfl
  rcases hc with rfl|hc
  ·rw[jF] at e;cases e
  ·rw[jF] at hc;cases hc
 rcases hx with hk|hk
 ·refine fJ hk hn (λh' IF hs=>?_) Jw;obtain⟨oL,_,_,hoL,_⟩:=id hn;refine h _ ⟨I.ok,I.os,I.bare,⟨λb o e n hb hx=>?_,λb o e n hb hx=>?_,I.base.free,λb o e hx=>?_,I.base.iF,I.base.iU,I.base.jz⟩,⟨_,IF,λj y v' e1 e2 e3=>?_⟩,λy c e=>?_,I.free,I.dN,λp hp=>?_,tracked ⟨oL,hoL,I.free⟩ hs,by simpa using I.len⟩ ⟨_,hs,.inl rfl⟩
  ·exact(hs.2 b (uc (vb (Ua e) I.ok.above))).trans (I.base.keep b o e n hb hx)
  ·obtain⟨sl,e1⟩:=I.base.slot b o e n hb hx;exact⟨sl,(hs.2 b (uc (vb (Ua e) I.ok.above))).trans e1⟩
  ·obtain⟨o',e1⟩:=I.base.there b o e hx;exact⟨o',(hs.2 b (uc (vb (Ua e) I.ok.above))).trans e1⟩
  ·by_cases hj:j=i
   ·subst hj;rw[hi] at e1;cases e1;rw[uf EL] at e2;cases e2;exact⟨u,r,.inl ⟨hk,by simp⟩⟩
   ·rw[we (Ke hj)] at e2;obtain⟨u',r',q⟩:=hl j y v' e1 e2 e3;refine⟨u',r',?_⟩
    rcases q with ⟨k,e⟩|⟨k,c,e,z⟩
    ·refine .inl ⟨k,?_⟩;have:y≠x:=λe=>hj (KL hN e1 (e ▸ hi));simp[this,e]
    ·exact .inr ⟨k,c,e,z.sameBut hs (pX y c e)⟩
  ·obtain⟨w',z⟩:=I.cell y c e;exact⟨w',z.sameBut hs (pX y c e)⟩
  ·obtain⟨e,n,ne,nf,d⟩:=I.pin p hp;exact⟨(hs.2 p.1 ne).trans e,n,ne,nf,d⟩
 ·have IT:X.fn x=true:=by
   rcases hf with z|z
   ·exact z
   ·rw[z] at hk;cases hk
  obtain⟨c,hc⟩:=I.ok.has x (.inl hk);obtain⟨w',z⟩:=I.cell x c hc;refine wpAny_storeName_cell I.ok.kind hk hc z (λh' iz hs=>?_);obtain⟨oc,Ot,IA⟩:=id z;refine h {s with heap:=h'} ⟨I.ok,I.os,I.bare,⟨λb o e n hb hx=>?_,λb o e n hb hx=>?_,I.base.free,λb o e hx=>?_,I.base.iF,I.base.iU,I.base.jz⟩,⟨m,hn.sameBut hs (Ke (pX x c hc)),λj y v' e1 e2 e3=>?_⟩,λy c' e=>?_,I.free,I.dN,λp hp=>?_,tracked ⟨oc,Ot,I.dN x c hc⟩ hs,by simpa using I.len⟩ ⟨c,hs,.inr hc⟩
  ·exact(hs.2 b (uc (vb (Ua e) (I.ok.uU x c IT hc)))).trans (I.base.keep b o e n hb hx)
  ·obtain⟨sl,e1⟩:=I.base.slot b o e n hb hx;exact⟨sl,(hs.2 b (uc (vb (Ua e) (I.ok.uU x c IT hc)))).trans e1⟩
  ·obtain⟨o',e1⟩:=I.base.there b o e hx;exact⟨o',(hs.2 b (uc (vb (Ua e) (I.ok.uU x c IT hc)))).trans e1⟩
  ·by_cases hj:j=i
   ·subst hj;rw[hi] at e1;cases e1;rw[uf EL] at e2;cases e2;exact⟨u,r,.inr ⟨.inl hk,c,hc,iz⟩⟩
   ·rw[we (Ke hj)] at e2;obtain⟨u',r',q⟩:=hl j y v' e1 e2 e3;refine⟨u',r',?_⟩
    rcases q with q|⟨k,c',e,z'⟩
    ·exact .inl q
    ·refine .inr ⟨k,c',e,z'.sameBut hs ?_⟩;rintro rfl;exact hj (KL hN e1 (I.ok.inj _ _ _ e hc ▸ hi))
  ·by_cases n9:c'=c
   ·subst n9;exact⟨_,iz⟩
   ·obtain⟨w2,z2⟩:=I.cell y c' e;exact⟨w2,z2.sameBut hs n9⟩
  ·obtain⟨e,n,ne,nf,d⟩:=I.pin p hp;refine⟨(hs.2 p.1 ?_).trans e,n,ne,nf,d⟩;intro q;rw[q,Ot] at e;have q':oc=p.2:=Kc.inj e;exact d w' (by rw[<- q'];exact IA)
theorem KI{M:Model}{A:Around}{E:Value->ag->Prop}{i:Nat}{x:Str}{v:V}{u:Value}{Q:Unit->ag->Prop}(I:Inv X pins σ H s)(hN:X.N.Nodup)(hi:X.N[i]?=some x)(hx:Loc X.env.scope x)(r:RelV v u)
  (h:∀ s',Inv X pins (σ.set i (some v)) H s'->Q () s') (hf:X.fn x=true\/X.env.scope.names.lookup x=some .local:=by first|exact .inl rfl|exact .inr rfl|assumption):ah M A (storeName X.env x u) Q E s :=
 YbR I hN hi hx r (λs' I' _=>h s' I') hf
theorem Inv.oj{s':ag}{ch:List ae}(I:Inv X pins σ H s)(ho:s'.os=s.os)(u:Un (mr X.stack) ch H H' s.heap s'.heap)(aS:fQ X.prog X.w H' s'.heap)(hg:dS s'.gens)
  (oR:∀ b∈ch,(b∈X.ex\/X.s₀.heap.objs.size<=b)/\b≠X.env.locals/\(∀ x c,X.env.cells.lookup x=some c->c≠b)/\∀ p∈X.pn++pins,p.1≠b):Inv X pins σ H' s':=by
 obtain⟨h',g',d',t',o'⟩:=s';have e:o'=s.os:=ho;subst e;exact I.call (g':=g') (t':=t') (d':=d') u aS hg oR
end
noncomputable abbrev XK:=Value->Option ae->Hp->Prop
noncomputable abbrev St:=List (Option V)
noncomputable abbrev VK:=V->Hp->Prop
noncomputable abbrev TE:=St->Hp->VK->Prop
noncomputable abbrev TT:=St->Hp->(Bool->Hp->Prop)->Prop
noncomputable abbrev TA:=St->Hp->(List V->Hp->Prop)->Prop
structure Ends where
 nx:St->Hp->Prop
 rt:VK
 bk:St->Hp->Prop:=λ_ _=>False
 ct:St->Hp->Prop:=λ_ _=>False
noncomputable abbrev TS:=Ends->St->Hp->Prop
def EP(X:Cx)(pins:List (ae×Obj))(σ:St)(Q:VK)(u:Value)(s':ag):Prop:=∃ v H',Inv X pins σ H' s'/\RelV v u/\Q v H'
def TP(X:Cx)(pins:List (ae×Obj))(σ:St)(Q:Bool->Hp->Prop)(b:Bool)(s':ag):Prop:=∃ H',Inv X pins σ H' s'/\Q b H'
def AP(X:Cx)(pins:List (ae×Obj))(σ:St)(Q:List V->Hp->Prop)(us:List Value)(s':ag):Prop:=∃ vs H',Inv X pins σ H' s'/\Vals vs us/\Q vs H'
def SP(X:Cx)(pins:List (ae×Obj))(D:Ends)(f:Flow)(s':ag):Prop :=
 match f with
 |.next=>∃ σ' H',Inv X pins σ' H' s'/\D.nx σ' H'
 |.brk=>∃ σ' H',Inv X pins σ' H' s'/\D.bk σ' H'
 |.cont=>∃ σ' H',Inv X pins σ' H' s'/\D.ct σ' H'
 |.ret u=>∃ v σ' H',Inv X pins σ' H' s'/\RelV v u/\D.rt v H'
def PE(X:Cx)(e:Expr)(t:TE):Prop :=
 ∀(pins:List (ae×Obj)) (s:ag) (σ:St) (H:Hp) (Q:VK),Inv X pins σ H s->t σ H Q->ah (aj X.prog X.w) X.A (eval e X.env) (EP X pins σ Q) X.xe s
def PT(X:Cx)(e:Expr)(t:TT):Prop :=
 ∀(pins:List (ae×Obj)) (s:ag) (σ:St) (H:Hp) (Q:Bool->Hp->Prop),Inv X pins σ H s->t σ H Q->ah (aj X.prog X.w) X.A (lg e X.env (eval e X.env)) (TP X pins σ Q) X.xe s
def PW(X:Cx)(e:Expr)(t:TT):Prop :=
 ∀(whole:Sem Value)(pins:List (ae×Obj)) (s:ag) (σ:St) (H:Hp) (Q:Bool->Hp->Prop),Inv X pins σ H s->t σ H Q->ah (aj X.prog X.w) X.A (lg e X.env whole) (TP X pins σ Q) X.xe s
theorem PW.pt{X:Cx}{e:Expr}{t:TT}(h:PW X e t):PT X e t:=h _
def PA(X:Cx)(es:List Expr)(t:TA):Prop :=
 ∀(pos:Pos)(pins:List (ae×Obj)) (s:ag) (σ:St) (H:Hp) (Q:List V->Hp->Prop),Inv X pins σ H s->t σ H Q->ah (aj X.prog X.w) X.A (spliced (a9 pos (ao es X.env))) (AP X pins σ Q) X.xe s
def PS(X:Cx)(st:Stmt)(t:TS):Prop :=
 ∀(pins:List (ae×Obj)) (s:ag) (σ:St) (H:Hp) (D:Ends),Inv X pins σ H s->t D σ H->ah (aj X.prog X.w) X.A (exec st X.env) (SP X pins D) X.xe s
def fj(X:Cx)(st:List Stmt)(t:TS):Prop :=
 ∀(pins:List (ae×Obj)) (s:ag) (σ:St) (H:Hp) (D:Ends),Inv X pins σ H s->t D σ H->ah (aj X.prog X.w) X.A (execs st X.env) (SP X pins D) X.xe s
theorem bw{α:Type}{t:Sem α}{Q Q':α->ag->Prop}{M:Model}{A:Around}{E:Value->ag->Prop}{s:ag}(h:ah M A t Q E s)(hQ:∀ a s,Q a s->Q' a s):ah M A t Q' E s:=aU h hQ λ_ _ x=>x
section
variable {X:Cx}
theorem bin{a b:Expr}{ta tb:TE}(ha:PE X a ta)(hb:PE X b tb){pins:List (ae×Obj)}{s:ag}{σ:St}{H:Hp}{R:V->V->Hp->Prop}(I:Inv X pins σ H s)(h:ta σ H λx H1=>tb σ H1 λy H2=>R x y H2)
  {α:Type} {Q:α->ag->Prop} {f:Value->Value->Sem α}
  (hf:∀ v u s2 x y H2,Inv X pins σ H2 s2->RelV x v->RelV y u->R x y H2->ah (aj X.prog X.w) X.A (f v u) Q X.xe s2) :
  ah (aj X.prog X.w) X.A (eval a X.env) (λv s₁=>ah (aj X.prog X.w) X.A (eval b X.env) (λu s₂=>ah (aj X.prog X.w) X.A (f v u) Q X.xe s₂) X.xe s₁) X.xe s:=by
 refine bw (ha pins s σ H _ I h) λv s1 ⟨x,H1,I1,r1,q1⟩=>?_;refine bw (hb pins s1 σ H1 _ I1 q1) λu s2 ⟨y,H2,I2,r2,q2⟩=>?_;exact hf v u s2 x y H2 I2 r1 r2 q2
noncomputable def ph(i:Nat):TE:=λσ H Q=>∃ v,σ[i]?=some (some v)/\Q v H
noncomputable def tC(v:V):TE:=λ_ H Q=>Q v H
theorem Fh{i:Nat}{x:Str}{pos:Pos}(hN:X.N[i]?=some x)(hv:Fp X.env.scope x)(hd:(x==("__debug__":Str))=false:=by decide)(lR:(x==("__classdict__":Str))=false:=by decide):PE X (.Name x pos) (ph i):=by
 intro pins s σ H Q I h;obtain⟨v,e,h⟩:=h;obtain⟨m,hn,hl⟩:=I.loc;obtain⟨u,r,l⟩:=hl i x v hN e hv;have fin:EP X pins σ Q u s:=⟨v,H,I,r,h⟩
 rcases l with ⟨hk,hm⟩|⟨hk,c,hc,si⟩
 ·exact jw (wpAny_loadName_local I.ok.kind hk hn hm fin) hd
 ·rcases hk with hk|hk
  ·exact jw (wpAny_loadName_cell I.ok.kind hk hc si fin) hd
  ·exact jw (wpAny_loadName_free I.ok.kind hk hc si fin lR) hd
theorem Dj{i j pos}:PE X (.Constant (.int i) j pos) (tC (.int i)):=λ_ _ _ H _ I h=>wpAny_Constant_int ⟨.int i,H,I.tok _,⟨_,rfl⟩,h⟩
theorem A4{b j pos}:PE X (.Constant (.bool b) j pos) (tC (.bl b)):=λ_ _ _ H _ I h=>Constant_bool ⟨.bl b,H,I,rfl,h⟩
theorem yc6{j pos}:PE X (.Constant .none j pos) (tC .bh):=λ_ _ _ H _ I h=>gR ⟨.bh,H,I,rfl,h⟩
theorem Yz{x j pos}:PE X (.Constant (.str x) j pos) (tC (.str x)):=λ_ _ _ H _ I h=>Calls.Constant_str ⟨.str x,H,I.tok _,⟨_,rfl⟩,h⟩
def Gl(X:Cx)(x:Str):Prop:=X.env.kindOf x=some .globalImplicit
theorem ZQ{E:Value->ag->Prop}{pins:List (ae×Obj)}{s:ag}{σ:St}{H:Hp}{x:Str}{u:Value}{pos:Pos}{Q:Value->ag->Prop}(I:Inv X pins σ H s)(hg:Gl X x)(hm:X.mg x=some u)(h:Q u s)
  (hd:(x==("__debug__":Str))=false:=by decide):ah (aj X.prog X.w) X.A (eval (.Name x pos) X.env) Q E s :=
 jf I.ok.kind hg (Calls.loadGlobal_global (by rw[I.ok.glob];exact I.mod.glob.keeps I.bk) hm h) hd
theorem YY{E:Value->ag->Prop}{pins:List (ae×Obj)}{s:ag}{σ:St}{H:Hp}{x:Str}{u:Value}{pos:Pos}{Q:Value->ag->Prop}(I:Inv X pins σ H s)(hg:Gl X x)(hm:X.mg x=none)(hv:bc x=some u)(h:Q u s)
  (hn:x≠"__name__":=by decide) (hd:(x==("__debug__":Str))=false:=by decide):ah (aj X.prog X.w) X.A (eval (.Name x pos) X.env) Q E s:=by
 obtain⟨mb,h1,h2⟩:=I.mod.blt;exact jf I.ok.kind hg (Calls.loadGlobal_builtin (by rw[I.ok.glob];exact I.mod.glob.keeps I.bk) hm (by rw[I.ok.blt];exact h1.keeps I.bk) ((h2 x hn).trans hv) h) hd
theorem yy{x:Str}{v:V}{u:Value}{pos:Pos}(hg:Gl X x)(hm:X.mg x=some u)(r:RelV v u)(hd:(x==("__debug__":Str))=false:=by decide):PE X (.Name x pos) (tC v) :=
 λ_ _ _ H _ I h=>ZQ I hg hm ⟨v,H,I,r,h⟩ hd
theorem NL{x:Str}{v:V}{u:Value}{pos:Pos}(hg:Gl X x)(hm:X.mg x=none)(hv:bc x=some u)(r:RelV v u)(hn:x≠"__name__":=by decide)(hd:(x==("__debug__":Str))=false:=by decide):PE X (.Name x pos) (tC v) :=
 λ_ _ _ H _ I h=>YY I hg hm hv ⟨v,H,I,r,h⟩ hn hd
variable {a b:Expr} {ta tb:TE} {pos:Pos}
def PC(X:Cx)(op:dH)(a b:Expr)(t:TE):Prop :=
 ∀(pins:List (ae×Obj)) (s:ag) (σ:St) (H:Hp) (Q:VK),Inv X pins σ H s->t σ H Q ->
  ah (aj X.prog X.w) X.A (eval a X.env) (λv s₁=>ah (aj X.prog X.w) X.A (eval b X.env) (λu s₂=>ah (aj X.prog X.w) X.A (aM op v u) (EP X pins σ Q) X.xe s₂) X.xe s₁) X.xe s
theorem NC(b:Expr){op:dH}(h:op≠.In)(h2:op≠.NotIn):bf op b=false:=by
 have e1:(op==dH.In)=false:=by cases op <;> first|rfl|exact absurd rfl h
 have e2:(op==dH.NotIn)=false:=by cases op <;> first|rfl|exact absurd rfl h2
 cases b <;> simp[bf,e1,e2]
noncomputable def GJ(ta:TE):TE:=λσ H Q=>ta σ H λx H1=>Q (.bl (decide (x=.bh))) H1
noncomputable def An(ta:TE):TE:=λσ H Q=>ta σ H λx H1=>Q (.bl (!decide (x=.bh))) H1
theorem RelV.none_iff{x:V}{v:Value}(r:RelV x v):(v==ja)=decide (x=.bh):=by
 cases x with
 |bh=>cases r;rfl
 |bl _=>cases r;rfl
 |int _=>obtain⟨t,rfl⟩:=r;rfl
 |str _=>obtain⟨t,rfl⟩:=r;rfl
 |om _=>obtain⟨t,rfl⟩:=r;rfl
 |sj _=>obtain⟨t,rfl⟩:=r;rfl
 |ref _=>cases r;rfl
 |ty _=>cases r;rfl
theorem MC{j pos'}(ha:PE X a ta):PC X .Is a (.Constant .none j pos') (GJ ta):=by
 intro pins s σ H Q I h;refine bw (ha pins s σ H _ I h) λv s1 ⟨x,H1,I1,r1,q1⟩=>?_;exact gR (is_none_gen ⟨.bl _,H1,I1,by rw[r1.none_iff];rfl,q1⟩)
theorem LU{j pos'}(ha:PE X a ta):PC X .IsNot a (.Constant .none j pos') (An ta):=by
 intro pins s σ H Q I h;refine bw (ha pins s σ H _ I h) λv s1 ⟨x,H1,I1,r1,q1⟩=>?_;exact gR (isnot_none_gen ⟨.bl _,H1,I1,by rw[r1.none_iff];rfl,q1⟩)
noncomputable def tB(t:TE):TT:=λσ H Q=>t σ H λx H1=>∃ c,x=.bl c/\Q c H1
theorem KP{op:dH}{t:TE}(h:PC X op a b t)(h1:bf op b=false:=by first|exact NC _ (by decide) (by decide)|rfl):PE X (.Compare a [op] [b] pos) t:=λpins s σ H Q I hw=>jx (h pins s σ H Q I hw) h1
theorem KY{op:dH}{t:TE}(h:PC X op a b t)(h1:bf op b=false:=by first|exact NC _ (by decide) (by decide)|rfl):PT X (.Compare a [op] [b] pos) (tB t):=by
 intro pins s σ H Q I hw;refine fL (bw (h pins s σ H _ I hw) λv s1 h1=>bw h1 λu s2 h2=>bw h2 λc s3 ⟨x,H1,I1,r1,q1⟩=>?_) h1;obtain⟨d,rfl,q⟩:=q1;cases r1;exact aP ⟨H1,I1,q⟩
theorem KA{e:Expr}{t:TE}(h:PE X e t)(he:∀ whole,lg e X.env whole=(do let v<-whole;kX e.pos;dP [v] (truthy v)):=by intro _;rfl):PT X e (tB t):=by
 intro pins s σ H Q I hw;refine isTrue_plain (bw (h pins s σ H _ I hw) λv s1 ⟨x,H1,I1,r1,q1⟩=>?_) (he _);obtain⟨d,rfl,q⟩:=q1;cases r1;exact aP ⟨H1,I1,q⟩
variable {tA DZ:TT} {rest:List Expr}
noncomputable def GO(t u:TT):TT:=λσ H Q=>t σ H λc H1=>if c=true then u σ H1 Q else Q false H1
noncomputable def tOr(t u:TT):TT:=λσ H Q=>t σ H λc H1=>if c=true then Q true H1 else u σ H1 Q
noncomputable def GH(t:TT):TT:=λσ H Q=>t σ H λc H1=>Q (!c) H1
theorem ZcJ(ha:PT X a tA):PW X (.BoolOp .And [a] pos) tA:=by
 intro wh pins s σ H Q I h;refine isTrue_and (bw (ha pins s σ H Q I h) λc s1 e=>?_);cases c with
 |true=>exact isTrue_and_nil e
 |false=>exact e
theorem Ml(ha:PT X a tA):PW X (.BoolOp .Or [a] pos) tA:=by
 intro wh pins s σ H Q I h;refine isTrue_or (bw (ha pins s σ H Q I h) λc s1 e=>?_);cases c with
 |false=>exact isTrue_or_nil e
 |true=>exact e
theorem ydb(ha:PT X a tA)(hb:PW X (.BoolOp .And (b::rest) pos) DZ):PW X (.BoolOp .And (a::b::rest) pos) (GO tA DZ):=by
 intro wh pins s σ H Q I h;refine isTrue_and (bw (ha pins s σ H _ I h) λc s1 ⟨H1,I1,q1⟩=>?_);cases c with
 |true=>exact hb wh pins s1 σ H1 Q I1 q1
 |false=>exact⟨H1,I1,q1⟩
theorem Pr(ha:PT X a tA)(hb:PW X (.BoolOp .Or (b::rest) pos) DZ):PW X (.BoolOp .Or (a::b::rest) pos) (tOr tA DZ):=by
 intro wh pins s σ H Q I h;refine isTrue_or (bw (ha pins s σ H _ I h) λc s1 ⟨H1,I1,q1⟩=>?_);cases c with
 |true=>exact⟨H1,I1,q1⟩
 |false=>exact hb wh pins s1 σ H1 Q I1 q1
theorem Mi(ha:PT X a tA):PT X (.UnaryOp .Not a pos) (GH tA):=by
 intro pins s σ H Q I h;exact isTrue_not (ha pins s σ H (λc H1=>Q (!c) H1) I h)
noncomputable def Aq(ta tb:TE):TE:=λσ H Q=>ta σ H λx H1=>∃ c,x=.bl c/\if c=true then tb σ H1 Q else Q (.bl false) H1
noncomputable def GG(ta tb:TE):TE:=λσ H Q=>ta σ H λx H1=>∃ c,x=.bl c/\if c=true then Q (.bl true) H1 else tb σ H1 Q
noncomputable def Am(ta:TE):TE:=λσ H Q=>ta σ H λx H1=>∃ c,x=.bl c/\Q (.bl (!c)) H1
theorem Mj{op}{t:TE}(h:PE X a t):PE X (.BoolOp op [a] pos) t:=λpins s σ H Q I hw=>BoolOp_one (h pins s σ H Q I hw)
theorem qcY(ha:PE X a ta)(hb:PE X (.BoolOp .And (b::rest) pos) tb):PE X (.BoolOp .And (a::b::rest) pos) (Aq ta tb):=by
 intro pins s σ H Q I h;refine BoolOp_and (bw (ha pins s σ H _ I h) λv s1 ⟨x,H1,I1,r1,q1⟩=>?_);obtain(⟨c,rfl,q1⟩):=q1;cases r1;refine aP ?_;cases c with
 |true=>exact hb pins s1 σ H1 Q I1 q1
 |false=>exact⟨.bl false,H1,I1,rfl,q1⟩
theorem A2(ha:PE X a ta)(hb:PE X (.BoolOp .Or (b::rest) pos) tb):PE X (.BoolOp .Or (a::b::rest) pos) (GG ta tb):=by
 intro pins s σ H Q I h;refine BoolOp_or (bw (ha pins s σ H _ I h) λv s1 ⟨x,H1,I1,r1,q1⟩=>?_);obtain(⟨c,rfl,q1⟩):=q1;cases r1;refine aP ?_;cases c with
 |false=>exact hb pins s1 σ H1 Q I1 q1
 |true=>exact⟨.bl true,H1,I1,rfl,q1⟩
theorem YcU(ha:PE X a ta):PE X (.UnaryOp .Not a pos) (Am ta):=by
 intro pins s σ H Q I h;refine UnaryOp_ (bw (ha pins s σ H _ I h) λv s1 ⟨x,H1,I1,r1,q1⟩=>?_);obtain(⟨c,rfl,q1⟩):=q1;cases r1;exact not_of (aP ⟨.bl (!c),H1,I1,rfl,q1⟩)
noncomputable def tIf(t:TT)(ta tb:TE):TE:=λσ H Q=>t σ H λc H1=>if c=true then ta σ H1 Q else tb σ H1 Q
theorem Qb9{c:Expr}(hc:PT X c tA)(ha:PE X a ta)(hb:PE X b tb):PE X (.IfExp c a b pos) (tIf tA ta tb):=by
 intro pins s σ H Q I h;refine wpAny_IfExp (bw (hc pins s σ H _ I h) λd s1 ⟨H1,I1,q1⟩=>?_);cases d with
 |true=>exact ha pins s1 σ H1 Q I1 q1
 |false=>exact hb pins s1 σ H1 Q I1 q1
end
def fR(K:Gc)(H:Hp)(a:ae)(xs:List V):Prop :=
 Rd H a (.lst xs) \/
  ∃(o:Obj)(aw:Array Value)(n:Nat),K.lookup a=some o/\o.cls=.type "list"/\o.dict=none/\o.data=.seq aw n/\aw.size<=sizeLine/\Vals xs aw.toList
def ir(K:Gc)(H:Hp)(a:ae)(xs:List V):Prop :=
 Rd H a (.tup xs) \/
  ∃(o:Obj)(aw:Array Value)(n:Nat),K.lookup a=some o/\o.cls=.type "tuple"/\o.data=.seq aw n/\aw.size<=sizeLine/\Vals xs aw.toList
noncomputable def J6:Value->Option V
 |.none=>some .bh
 |.bool b=>some (.bl b)
 |.int i _=>some (.int i)
 |.str x _=>some (.str x)
 |.bytes b _=>some (.om b)
 |.float b _=>some (.sj b)
 |.ref a=>some (.ref a)
 |.type n=>some (.ty n)
 |_=>none
theorem RelV.abs{x:V}{u:Value}(r:RelV x u):J6 u=some x:=by
 cases x with
 |bh=>cases r;rfl
 |bl _=>cases r;rfl
 |int _=>obtain⟨t,rfl⟩:=r;rfl
 |str _=>obtain⟨t,rfl⟩:=r;rfl
 |om _=>obtain⟨t,rfl⟩:=r;rfl
 |sj _=>obtain⟨t,rfl⟩:=r;rfl
 |ref _=>cases r;rfl
 |ty _=>cases r;rfl
theorem RelV.inj{x y:V}{u:Value}(r:RelV x u)(q:RelV y u):x=y:=Kc.inj (r.abs.symm.trans q.abs)
theorem Vals.inj:∀{xs ys:List V}{us:List Value},Vals xs us->Vals ys us->xs=ys
 |_,_,_,.nil,.nil=>rfl
 |_,_,_,.cons r t,.cons r' t'=>by rw[r.inj r',Vals.inj t t']
section
variable {X:Cx} {pins:List (ae×Obj)} {σ:St} {H:Hp} {s:ag} {a:ae} {xs ys:List V}
theorem fR.of{K:Gc}(h:H a=some (.lst xs)):fR K H a xs:=.inl (.inl h)
theorem ir.of{K:Gc}(h:H a=some (.tup xs)):ir K H a xs:=.inl (.inl h)
theorem Inv.list(I:Inv X pins σ H s)(h:fR X.K H a xs):∃ aw:List Value,Vals xs aw/\PlainL s.heap a aw.toArray/\xs.length<=sizeLine:=by
 rcases h with h|⟨o,aw,n,hk,hc,hd,hs,hz,r⟩
 ·obtain⟨z,aw,n,r,e⟩:=h.ok I.aS;exact⟨aw,r,⟨_,n,e,rfl,rfl,rfl⟩,z⟩
 ·refine⟨aw.toList,r,⟨o,n,I.gO a o hk,hc,hd,by simpa using hs⟩,?_⟩;have e:=r.length;simp only[uk] at e
  lia
theorem Inv.tuple(I:Inv X pins σ H s)(h:ir X.K H a xs):∃ aw:List Value,Vals xs aw/\gQ s.heap a aw.toArray/\xs.length<=sizeLine:=by
 rcases h with h|⟨o,aw,n,hk,hc,hs,hz,r⟩
 ·obtain⟨z,aw,r,p⟩:=h.ok I.aS;exact⟨aw,r,p,z⟩
 ·refine⟨aw.toList,r,⟨o,I.gO a o hk,hc,n,by simpa using hs⟩,?_⟩;have e:=r.length;simp only[uk] at e
  lia
theorem Inv.list_inj(I:Inv X pins σ H s)(h:fR X.K H a xs)(h':fR X.K H a ys):xs=ys:=by
 obtain⟨aw,r,⟨o,n,e,_,_,d⟩,_⟩:=I.list h;obtain⟨its',r',⟨o',n',e',_,_,d'⟩,_⟩:=I.list h';rw[e] at e';cases e';rw[d] at d';injection d' with d1 _
 have:aw=its':=by simpa using congrArg UF d1
 subst this;exact r.inj r'
theorem Inv.tuple_inj(I:Inv X pins σ H s)(h:ir X.K H a xs)(h':ir X.K H a ys):xs=ys:=by
 obtain⟨aw,r,⟨o,e,_,n,d⟩,_⟩:=I.tuple h;obtain⟨its',r',⟨o',e',_,n',d'⟩,_⟩:=I.tuple h';rw[e] at e';cases e';rw[d] at d';injection d' with d1 _
 have:aw=its':=by simpa using congrArg UF d1
 subst this;exact r.inj r'
end
section
variable {X:Cx} {st:Stmt} {rest:List Stmt} {t u:TS} {e:Expr} {te:TE} {pos:Pos}
noncomputable def Pw:TS:=λD σ H=>D.nx σ H
noncomputable def GD(t u:TS):TS:=λD σ H=>t {D with nx:=u D} σ H
theorem K4:fj X [] Pw:=λ_ _ σ H _ I h=>cP ⟨σ,H,I,h⟩
theorem qF(h1:PS X st t)(h2:fj X rest u):fj X (st::rest) (GD t u):=by
 intro pins s σ H D I h;refine iE (bw (h1 pins s σ H {D with nx:=u D} I h) λf s1 q=>?_);cases f with
 |next =>
  obtain⟨σ',H',I',q⟩:=q;exact h2 pins s1 σ' H' D I' q
 |ret v=>exact q
 |brk=>exact q
 |cont=>exact q
theorem C9(h1:PS X st t):fj X [st] t:=by
 intro pins s σ H D I h;refine iE (bw (h1 pins s σ H D I h) λf s1 q=>?_);cases f with
 |next=>exact cP q
 |ret v=>exact q
 |brk=>exact q
 |cont=>exact q
theorem QcL:PS X (.Pass pos) Pw:=λ_ _ σ H _ I h=>wpAny_Pass ⟨σ,H,I,h⟩
theorem Inv.quiet{pins:List (ae×Obj)}{σ:St}{H:Hp}{s:ag}(I:Inv X pins σ H s):interactive X.env=false:=by simp[interactive,I.ok.kind]
noncomputable def Ap(te:TE):TS:=λD σ H=>te σ H λ_ H1=>D.nx σ H1
theorem YcG(he:PE X e te)(hs:bq e none pos.line X.env=pure false:=by rfl):PS X (.Expr e pos) (Ap te):=by
 intro pins s σ H D I h;exact wpAny_Expr_any (bw (he pins s σ H _ I h) λv s1 ⟨x,H1,I1,r1,q1⟩=>⟨σ,H1,I1,q1⟩) I.quiet hs
noncomputable def GF(te:TE):TS:=λD σ H=>te σ H D.rt
theorem KW(he:PE X e te):PS X (.Return (some e) pos) (GF te):=by
 intro pins s σ H D I h;exact wpAny_Return_some (bw (he pins s σ H _ I h) λv s1 ⟨x,H1,I1,r1,q1⟩=>⟨x,σ,H1,I1,r1,q1⟩)
noncomputable def GK(c:TT)(t u:TS):TS:=λD σ H=>c σ H λb H1=>if b=true then t D σ H1 else u D σ H1
theorem Mp{c:Expr}{a b:List Stmt}{tc:TT}(hc:PT X c tc)(ha:fj X a t)(hb:fj X b u):PS X (.If c a b pos) (GK tc t u):=by
 intro pins s σ H D I h;refine wpAny_If (bw (hc pins s σ H _ I h) λd s1 ⟨H1,I1,q1⟩=>?_);cases d with
 |true=>exact ha pins s1 σ H1 D I1 q1
 |false=>exact hb pins s1 σ H1 D I1 q1
end
noncomputable abbrev TG:=V->St->Hp->(St->Hp->Prop)->Prop
noncomputable abbrev sC:=List V->St->Hp->(St->Hp->Prop)->Prop
def PG(X:Cx)(target:Expr)(t:TG):Prop :=
 ∀(pins:List (ae×Obj)) (s:ag) (σ:St) (H:Hp) (v:V) (u:Value) (Q:St->Hp->Prop),Inv X pins σ H s->RelV v u->t v σ H Q ->
  ah (aj X.prog X.w) X.A (dh target X.env u) (λ_ s'=>∃ σ' H',Inv X pins σ' H' s'/\Q σ' H') X.xe s
def oY(X:Cx)(ts:List Expr)(t:sC):Prop :=
 ∀(pins:List (ae×Obj)) (s:ag) (σ:St) (H:Hp) (vs:List V) (us:List Value) (Q:St->Hp->Prop),Inv X pins σ H s->Vals vs us->t vs σ H Q ->
  ah (aj X.prog X.w) X.A (assignInOrder ((bP ts X.env).map (·.2)) us) (λ_ s'=>∃ σ' H',Inv X pins σ' H' s'/\Q σ' H') X.xe s
noncomputable abbrev u9:=V->V->V->Hp->(Hp->Prop)->Prop
def Dr(X:Cx)(t:u9):Prop :=
 ∀(pins:List (ae×Obj)) (s:ag) (σ:St) (H:Hp) (o i v:V) (ov iv u:Value) (Q:Hp->Prop),Inv X pins σ H s->RelV o ov->RelV i iv->RelV v u->t o i v H Q ->
  ah (aj X.prog X.w) X.A (setItem ov iv u) (λ_ s'=>∃ H',Inv X pins σ H' s'/\Q H') X.xe s
section
variable {X:Cx} {pos:Pos}
noncomputable def rQ(i:Nat):TG:=λv σ H Q=>Q (σ.set i (some v)) H
theorem Fg{i:Nat}{x:Str}(hN:X.N.Nodup)(hi:X.N[i]?=some x)(hx:Loc X.env.scope x)(hf:X.fn x=true\/X.env.scope.names.lookup x=some .local:=by first|exact .inl rfl|exact .inr rfl|assumption):PG X (.Name x pos) (rQ i):=by
 intro pins s σ H v u Q I r h;exact wpAny_assign_Name (KI I hN hi hx r (λs' I'=>⟨_,H,I',h⟩) hf)
noncomputable def JH:sC:=λvs σ H Q=>vs=[]/\Q σ H
noncomputable def Co(t:TG)(u:sC):sC:=λvs σ H Q=>∃ v r,vs=v::r/\t v σ H λσ' H'=>u r σ' H' Q
theorem zcB:oY X [] JH:=by
 intro pins s σ H vs us Q I r h;obtain(⟨e,h⟩):=h;subst e;cases r;exact assignInOrder_nil ⟨σ,H,I,h⟩
theorem ycp{e:Expr}{es:List Expr}{t:TG}{u:sC}(h1:PG X e t)(h2:oY X es u)
  (hs:(bP (e::es) X.env).map (·.2)=dh e X.env::(bP es X.env).map (·.2):=by rfl):oY X (e::es) (Co t u):=by
 intro pins s σ H vs us Q I r h;obtain(⟨v,vr,e1,h⟩):=h;subst e1;cases r with
 |cons r rr =>
  rw[hs];refine assignInOrder_cons (bw (h1 pins s σ H _ _ _ I r h) λ_ s1 ⟨σ1,H1,I1,q1⟩=>?_);exact h2 pins s1 σ1 H1 _ _ Q I1 rr q1
noncomputable def JF(K:Gc)(n:Nat)(t:sC):TG:=λv σ H Q=>∃ a xs,v=.ref a/\ir K H a xs/\xs.length=n/\t xs σ H Q
theorem Ydc{es:List Expr}{k:Nat}{t:sC}{n:Nat}(hc:X.calm=true)(h:oY X es t)
  (hn:(bP es X.env).length=n:=by rfl) (nh:(bP es X.env).findIdx? (·.1)=none:=by rfl):PG X (.Tuple es k pos) (JF X.K n t):=by
 intro pins s σ H v u Q I r hw;obtain(⟨a,xs,e1,hq,hl,hw⟩):=hw;subst e1;cases r;obtain(⟨aw,rv,ht,hz⟩):=I.tuple hq;refine assign_Tuple_tuple (I.ok.hd hc) ht (by simp[hn,<- hl,rv.length]) nh λh' hx=>?_;have I1:Inv X pins σ H {s with heap:=h'}:=I.kept (t':=s.toks) λb o e=>hx b o (uc (Ua e)) e;exact h pins _ σ H xs _ Q I1 (by simpa using rv) hw
noncomputable def JG(to ti:TE)(t:u9):TG:=λv σ H Q=>to σ H λo H1=>ti σ H1 λi H2=>t o i v H2 λH3=>Q σ H3
theorem ycU{o i:Expr}{to ti:TE}{t:u9}(ho:PE X o to)(hi:PE X i ti)(hs:Dr X t)
  (ha:∀ v,dh (.Subscript o i pos) X.env v=(do
   let ov<-dP [v] (eval o X.env)
   let iv<-dP [v,ov] (eval i X.env)
   kX pos
   dP [v,ov,iv] (setItem ov iv v)
   release [v,ov,iv] []):=by intro _;rfl):PG X (.Subscript o i pos) (JG to ti t):=by
 intro pins s σ H v u Q I r h;rw[ha];refine aa (av (bw (ho pins s σ H _ I h) λov s1 ⟨x,H1,I1,r1,q1⟩=>?_));refine aa (av (bw (hi pins s1 σ H1 _ I1 q1) λiv s2 ⟨y,H2,I2,r2,q2⟩=>?_));refine aa (dw (aa (av (bw (hs pins s2 σ H2 x y v ov iv u _ I2 r1 r2 r q2) λ_ s3 ⟨H3,I3,q3⟩=>?_))));exact wpAny_release ⟨σ,H3,I3,q3⟩
noncomputable def vO(te:TE)(g:TG):TS:=λD σ H=>te σ H λx H1=>g x σ H1 D.nx
theorem Rg{tg e:Expr}{te:TE}{g:TG}(he:PE X e te)(hg:PG X tg g)(hs:j5 [tg] e pos.line X.env=pure false:=by rfl)(hw:gM [tg] e X.env=pure none:=by rfl)
  (h1:(bP [tg] X.env).map (·.2)=[dh tg X.env]:=by rfl):PS X (.Assign [tg] e pos) (vO te g):=by
 intro pins s σ H D I h;refine wpAny_Assign_stores (bw (he pins s σ H _ I h) λv s1 ⟨x,H1,I1,r1,q1⟩=>?_) hs hw;rw[h1];exact bw (hg pins s1 σ H1 x v _ I1 r1 q1) λ_ s2 q=>q
theorem tw{i:Nat}{x:Str}{e:Expr}{te:TE}{pos':Pos}(hN:X.N.Nodup)(hi:X.N[i]?=some x)(hx:Loc X.env.scope x)(he:PE X e te)(hs:bq e (some (.Name x pos')) pos.line X.env=pure false:=by rfl)(hf:X.fn x=true\/X.env.scope.names.lookup x=some .local:=by first|exact .inl rfl|exact .inr rfl|assumption) :
  PS X (.Assign [.Name x pos'] e pos) (vO te (rQ i)):=by
 intro pins s σ H D I h;refine wpAny_Assign_Name (bw (he pins s σ H _ I h) λv s1 ⟨y,H1,I1,r1,q1⟩=>?_) hs;exact KI I1 hN hi hx r1 (λs2 I2=>⟨_,H1,I2,q1⟩) hf
end
section
variable {X:Cx} {pos:Pos}
noncomputable def zc2(c:TT)(tb:TS):TS:=λD σ H=>∃ W:Nat->St->Hp->Prop,(∃ m,W m σ H)/\∀ m σ H,W m σ H ->
 c σ H λb H1=>if b=true then ∃ N:St->Hp->Prop,(∀ σ' H',N σ' H'->∃ m',m'<m/\W m' σ' H')/\tb {D with nx:=N,ct:=N,bk:=D.nx} σ H1 else D.nx σ H1
theorem Ycf{c:Expr}{body:List Stmt}{tc:TT}{tb:TS}(hp:gG (aj X.prog X.w) X.A X.env X.xe)(hc:PT X c tc)(hb:fj X body tb):PS X (.While c body [] pos) (zc2 tc tb):=by
 intro pins s σ H D I h;obtain⟨W,⟨m0,w0⟩,turn⟩:=h;refine wpAny_While (codeAny_whileLoop (λn s'=>∃ σ' H',Inv X pins σ' H' s'/\W n σ' H') ?_ m0 ⟨σ,H,I,w0⟩);rintro n s1 ⟨σ1,H1,I1,w1⟩;refine bz hp (bw (hc pins s1 σ1 H1 _ I1 (turn n σ1 H1 w1)) λb s2 ⟨H2,I2,q2⟩=>?_);cases b with
 |true =>
  obtain⟨N,hN,q2⟩:=q2;rw[if_pos rfl];refine bz hp (bw (hb pins s2 σ1 H2 _ I2 q2) λf s3 q3=>?_);cases f with
  |next =>
   obtain⟨σ3,H3,I3,n3⟩:=q3;obtain⟨m',hm,w3⟩:=hN σ3 H3 n3;exact⟨m',hm,σ3,H3,I3,w3⟩
  |cont =>
   obtain⟨σ3,H3,I3,n3⟩:=q3;obtain⟨m',hm,w3⟩:=hN σ3 H3 n3;exact⟨m',hm,σ3,H3,I3,w3⟩
  |brk=>exact q3
  |ret v=>exact q3
 |false =>
  rw[if_neg Xd];exact cP ⟨σ1,H2,I2,q2⟩
end
structure It where
 go:Nat->Hp->Prop
 mU:Nat->Hp->V->Hp->Prop
 stop:Nat->Hp->Prop
def ZS(X:Cx)(pins:List (ae×Obj))(H:Hp)(b:ae):Prop :=
 H b=none/\b≠X.env.locals/\b∉X.fs/\(b∈X.ex\/X.s₀.heap.objs.size<=b)/\(∀ x c,X.env.cells.lookup x=some c->c≠b)/\∀ p∈X.pn++pins,p.1≠b
theorem Inv.kB{X:Cx}{pins:List (ae×Obj)}{σ:St}{H H':Hp}{s:ag}{b:ae}(I:Inv X pins σ H s)(hb:s.heap.objs.size<=b)(hn:H' b=none):ZS X pins H' b:=by
 refine⟨hn,vh (vb I.lt hb),I.HU hb,.inr (xf I.sz hb),λx c e z=>?_,λp hp z=>?_⟩
 ·obtain⟨v,q⟩:=I.cell x c e;exact absurd (vb q.lt (by rw[z];exact hb)) (Wj _)
 ·exact absurd (vb (Ua (I.pin p hp).1) (by rw[z];exact hb)) (Wj _)
structure Turn (P:ak) (w:World) (K:Gc) (tg:Expr) (J:It) (fp:List ae) (it:ae) (tn:Nat->Heap->Prop):Prop where
 mem:it∈fp
 obj:∀ i h,tn i h->∀ b∈fp,∃ o,h.get? b=some o/\∀ v,o.data≠.cell v
 keep:∀ i h h',tn i h->(∀ b∈fp,∀ o,h.get? b=some o->h'.get? b=some o)->tn i h'
 item:∀(X:Cx),X.prog=P->X.w=w->X.K=K->X.calm=true->∀(i:Nat)(pins:List (ae×Obj)) (s:ag) (σ:St) (H:Hp) (E:Value->ag->Prop),Inv X pins σ H s->(∀ b∈fp,ZS X pins H b)->tn i s.heap->J.go i H ->
  ah (aj P w) X.A (bU (.ref it)) (λr s1=>∃ u,r=some u /\
   ah (aj P w) X.A (cQ tg (.ref it) u) (λ_ s2=>∃ x H',Inv X pins σ H' s2/\RelV x u/\J.mU i H x H'/\tn (i+1) s2.heap/\∀ b∈fp,H' b=none) E s1) E s
 done:∀(X:Cx),X.prog=P->X.w=w->X.K=K->X.calm=true->∀(i:Nat)(pins:List (ae×Obj)) (s:ag) (σ:St) (H:Hp) (E:Value->ag->Prop),Inv X pins σ H s->(∀ b∈fp,ZS X pins H b)->tn i s.heap->J.stop i H ->
  ah (aj P w) X.A (bU (.ref it)) (λr s1=>r=none/\Inv X pins σ H s1) E s
 self:∀(A:Around)(i:Nat)(s:ag)(Q:Value->ag->Prop)(E:Value->ag->Prop),tn i s.heap->Q (.ref it) s->ah (aj P w) A (kY (.ref it)) Q E s
noncomputable abbrev TI:=St->Hp->(It->Hp->Prop)->Prop
def RX(X:Cx)(pins:List (ae×Obj))(σ:St)(tg:Expr)(R:It->Hp->Prop)(EA:Value)(s2:ag):Prop :=
 ∃(it:ae)(fp:List ae)(tn:Nat->Heap->Prop)(J:It)(H':Hp),EA=.ref it/\Inv X pins σ H' s2/\Turn X.prog X.w X.K tg J fp it tn/\tn 0 s2.heap/\(∀ b∈fp,ZS X pins H' b)/\R J H'
def PI(X:Cx)(tg iter:Expr)(wi:TI):Prop :=
 ∀(pins:List (ae×Obj)) (s:ag) (σ:St) (H:Hp) (R:It->Hp->Prop),Inv X pins σ H s->wi σ H R ->
  ah (aj X.prog X.w) X.A (eval iter X.env) (λv s1=>ah (aj X.prog X.w) X.A (kY v) (RX X pins σ tg R) X.xe s1) X.xe s
theorem Eb {M:Model} {A:Around} {E:Value→ag→Prop} {s:ag} {tg:Expr} {it:ae} {u:Value} {o:Obj} {n:String} {vs:Array Value} {Q:Unit→ag→Prop} (ho:s.heap.get? it=some o) (hc:o.cls=.type n) (hd:o.data=.fields vs)
    (hn:["enumerate","zip","dict_itemiterator","dict_reverseitemiterator","odict_iterator","itertools.zip_longest","itertools.pairwise"].contains n=false) (hQ:Q () s):ah M A (cQ tg (.ref it) u) Q E s:=by
  unfold cQ
  cases tg <;> first
    | exact af hQ
    | (cases u <;> first
        | exact af hQ
        | (refine aa (wpAny_load ho ?_)
           rw [hc,hd]
           show ah M A (if (["enumerate","zip","dict_itemiterator","dict_reverseitemiterator","odict_iterator","itertools.zip_longest","itertools.pairwise"].contains n&&vs[0]? == some (a8 _))=true then _ else _) Q E s
           rw [if_neg (by intro h; rw [hn,Jf] at h; cases h)]
           exact af hQ))
noncomputable def RZ(K:Gc)(a:ae):It :=
 ⟨λi H=>∃ xs x,fR K H a xs/\xs[i]?=some x,λi H x H'=>H'=H/\∀ xs,fR K H a xs->xs[i]?=some x,λi H=>∃ xs,fR K H a xs/\xs.length<=i⟩
noncomputable def RY(K:Gc)(a:ae):It :=
 ⟨λi H=>∃ xs x,ir K H a xs/\xs[i]?=some x,λi H x H'=>H'=H/\∀ xs,ir K H a xs->xs[i]?=some x,λi H=>∃ xs,ir K H a xs/\xs.length<=i⟩
noncomputable def vM(lo:Int)(n:Nat):It:=⟨λi _=>i<n,λi H x H'=>H'=H/\x=.int (lo+i),λi _=>n<=i⟩
theorem ybZ{P:ak}{w:World}{K:Gc}{tg:Expr}(a it:ae):Turn P w K tg (RZ K a) [it] it (λi h=>h.IsListIter it a i) where
 mem:=by simp
 obj:=λi h st b hb=>by
  have e:b=it:=by simpa using hb
  subst e;obtain⟨o,e,c,d⟩:=st;exact⟨o,e,λv z=>by rw[d] at z;cases z⟩
 keep:=λi h h' st k=>st.at λo e=>k it (by simp) o e
 item:=by
  intro X hP hw hK hc i pins s σ H E I hf st hg;subst hP hw hK;obtain⟨xs,x,hq,hx⟩:=hg;obtain⟨aw,rv,p,hz⟩:=I.list hq;obtain⟨u,hu,ru⟩:=rv.get hx;obtain⟨f0,f1,f2,f3,f4,f5⟩:=hf it (by simp);refine fm st p.isList (x:=u) (by simpa using hu) λh' mW sb=>?_;have I1:Inv X pins σ H {s with heap:=h'}:=I.turned (t':=s.toks) (λb o hb e=>(sb.2 b hb).trans e) f0 f1 f3 f4 f5;obtain⟨o,e,c,d⟩:=id mW;exact⟨u,rfl,Eb (s:={s with heap:=h'}) e c d (by decide) ⟨x,H,I1,ru,⟨rfl,λys hy=>by rw[I.list_inj hy hq];exact hx⟩,mW,λb hb=>(hf b hb).1⟩⟩
 done:=by
  intro X hP hw hK hc i pins s σ H E I hf st hg;subst hP hw hK;obtain⟨xs,hq,hx⟩:=hg;obtain⟨aw,rv,p,hz⟩:=I.list hq;obtain⟨f0,f1,f2,f3,f4,f5⟩:=hf it (by simp);have hl:=rv.length;exact fK (I.ok.hd hc) st p.isList (by simp;lia) λh' eb=>⟨rfl,I.turned (t':=s.toks) (λb o hb e=>eb b o hb e) f0 f1 f3 f4 f5⟩
 self:=λ_ _ _ _ _ st h=>wpAny_pyIter_listiter st h
theorem ybI{P:ak}{w:World}{K:Gc}{tg:Expr}(a it:ae):Turn P w K tg (RY K a) [it] it (λi h=>h.IsTupleIter it a i) where
 mem:=by simp
 obj:=λi h st b hb=>by
  have e:b=it:=by simpa using hb
  subst e;obtain⟨o,e,c,d⟩:=st;exact⟨o,e,λv z=>by rw[d] at z;cases z⟩
 keep:=λi h h' st k=>st.at λo e=>k it (by simp) o e
 item:=by
  intro X hP hw hK hc i pins s σ H E I hf st hg;subst hP hw hK;obtain⟨xs,x,hq,hx⟩:=hg;obtain⟨aw,rv,p,hz⟩:=I.tuple hq;obtain⟨u,hu,ru⟩:=rv.get hx;obtain⟨f0,f1,f2,f3,f4,f5⟩:=hf it (by simp);refine eX st (show s.heap.IsTuple a aw.toArray from p) (x:=u) (by simpa using hu) λh' mW sb=>?_;have I1:Inv X pins σ H {s with heap:=h'}:=I.turned (t':=s.toks) (λb o hb e=>(sb.2 b hb).trans e) f0 f1 f3 f4 f5;obtain⟨o,e,c,d⟩:=id mW;exact⟨u,rfl,Eb (s:={s with heap:=h'}) e c d (by decide) ⟨x,H,I1,ru,⟨rfl,λys hy=>by rw[I.tuple_inj hy hq];exact hx⟩,mW,λb hb=>(hf b hb).1⟩⟩
 done:=by
  intro X hP hw hK hc i pins s σ H E I hf st hg;subst hP hw hK;obtain⟨xs,hq,hx⟩:=hg;obtain⟨aw,rv,p,hz⟩:=I.tuple hq;obtain⟨f0,f1,f2,f3,f4,f5⟩:=hf it (by simp);have hl:=rv.length;exact fk (I.ok.hd hc) st (show s.heap.IsTuple a aw.toArray from p) (by simp;lia) λh' eb=>⟨rfl,I.turned (t':=s.toks) (λb o hb e=>eb b o hb e) f0 f1 f3 f4 f5⟩
 self:=λ_ _ _ _ _ st h=>fo st h
theorem ybt{P:ak}{w:World}{K:Gc}{tg:Expr}(it:ae)(lo:Int)(n:Nat):Turn P w K tg (vM lo n) [it] it (λi h=>cx h it (lo+(i:Nat)*1) ((n:Int)-(i:Nat)) 1) where
 mem:=by simp
 obj:=λi h st b hb=>by
  have e:b=it:=by simpa using hb
  subst e;exact⟨_,st,λv z=>by
   have z':Data.fields _=Data.cell v:=z;cases z'⟩
 keep:=λi h h' st k=>k it (by simp) _ st
 item:=by
  intro X hP hw hK hc i pins s σ H E I hf st hg;subst hP hw hK;obtain⟨f0,f1,f2,f3,f4,f5⟩:=hf it (by simp);have W:=Walks.range (prog:=X.prog) (w:=X.w) (I.ok.hd hc) it lo 1 n;refine W.item i s _ _ hg st λv h' tk hv mW kk=>?_;obtain⟨t,rfl⟩:=hv;have I1:Inv X pins σ H {s with heap:=h',toks:=tk}:=I.turned (λb o hb e=>kk b o (by simpa using hb) e) f0 f1 f3 f4 f5;refine⟨_,rfl,Eb (s:={s with heap:=h',toks:=tk}) (n:="range_iterator") mW rfl rfl (by decide) ⟨.int (lo+i),H,I1,⟨t,?_⟩,⟨rfl,rfl⟩,mW,λb hb=>(hf b hb).1⟩⟩;rw[uH]
 done:=by
  intro X hP hw hK hc i pins s σ H E I hf st hg;subst hP hw hK;obtain⟨f0,f1,f2,f3,f4,f5⟩:=hf it (by simp);exact wpAny_pyNext_range_end (I.ok.hd hc) st (by have:n<=i:=hg;lia) λh' eb=>⟨rfl,I.turned (t':=s.toks) (λb o hb e=>eb b o hb e) f0 f1 f3 f4 f5⟩
 self:=λ_ _ _ _ _ st h=>fq st h
section
variable {X:Cx} {tg:Expr}
theorem qcl{pins:List (ae×Obj)}{σ:St}{H:Hp}{s:ag}{R:It->Hp->Prop}{E:Value->ag->Prop}{lo hi:Int}{t u v:Tok}{tk:Nat}(I:Inv X pins σ H s)(h1:-(2^62)<=lo)(h2:lo<2^62)(h3:-(2^62)<=hi)(h4:hi<2^62)
  (q:R (vM lo (hi-lo).toNat) H):ah (aj X.prog X.w) X.A (kY (.ref s.heap.objs.size)) (RX X pins σ tg R) E {s with heap:=s.heap.push {cls:=.type "range",data:=.fields #[.int lo t,.int hi u,.int 1 v]},toks:=tk}:=by
 refine gV (IsRange.new ..) (small_one h1 h2 h3 h4) ?_;have I1:Inv X pins σ H {s with heap:=s.heap.push {cls:=.type "range",data:=.fields #[.int lo t,.int hi u,.int 1 v]},toks:=tk}:=I.kept λb o e=>wa _ e;refine⟨(s.heap.push {cls:=.type "range",data:=.fields #[.int lo t,.int hi u,.int 1 v]}).objs.size,[(s.heap.push {cls:=.type "range",data:=.fields #[.int lo t,.int hi u,.int 1 v]}).objs.size],_,_,H,rfl,
  I1.kept (t':=tk) λb o e=>wa _ e,ybt _ lo (hi-lo).toNat,?_,λb hb=>?_,q⟩
 ·have e1:lo+((0:Nat):Int)*1=lo:=by simp
  have e2:(((hi-lo).toNat:Nat):Int)-((0:Nat):Int)=gf lo hi 1:=by rw[j'];split <;> lia
  show cx _ _ (lo+((0:Nat):Int)*1) ((((hi-lo).toNat:Nat):Int)-((0:Nat):Int)) 1;rw[e1,e2];exact xb _ rfl
 ·have e:b=(s.heap.push {cls:=.type "range",data:=.fields #[.int lo t,.int hi u,.int 1 v]}).objs.size:=by simpa using hb
  subst e;exact I1.kB (Ub _) (I1.aS.fresh (Ub _))
noncomputable def Px(ta:TA):TI:=λσ H R=>ta σ H λvs H1=>∃ j:Int,vs=[.int j]/\-(2^62)<=j/\j<2^62/\R (vM 0 j.toNat) H1
theorem QbU{a:Expr}{ta:TA}{p pos:Pos}(hg:Gl X "range")(hm:X.mg "range"=none)(ha:PA X [a] ta)(hs:ao [a] X.env=[(false,eval a X.env)]:=by rfl):PI X tg (.Call (.Name "range" p) [a] [] pos) (Px ta):=by
 intro pins s σ H R I h;refine Call_ (YY I hg hm boot_range (kg (bw (ha pos pins s σ H _ I h) λus s1 ⟨vs,H1,I1,r1,q1⟩=>?_) hs rfl));obtain(⟨j,e,q1,q2,q⟩):=q1;subst e;cases r1 with
 |cons r rr =>
  cases rr;obtain(⟨t,rfl⟩):=r;exact call_range_1 (qcl I1 (by lia) (by lia) q1 q2 (by simpa using q))
noncomputable def GL(wi:TI)(g:TG)(tb:TS):TS:=λD σ H=>wi σ H λJ H1=>∃ W:Nat->Nat->St->Hp->Prop,(∃ m,W 0 m σ H1)/\∀ i m σ H,W i m σ H ->
 (J.stop i H/\D.nx σ H)\/(J.go i H/\∃ N:St->Hp->Prop,(∀ σ' H',N σ' H'->∃ m',m'<m/\W (i+1) m' σ' H')/\∀ x H',J.mU i H x H'->g x σ H' λσ2 H2=>tb {D with nx:=N,ct:=N,bk:=D.nx} σ2 H2)
noncomputable def xJ(fp:List ae)(h:Heap):List (ae×Obj):=fp.filterMap λb=>(h.get? b).map λo=>(b,o)
theorem qq{fp:List ae}{h:Heap}{b:ae}{o:Obj}(hb:b∈fp)(e:h.get? b=some o):(b,o)∈xJ fp h:=vF.mpr ⟨b,hb,by rw[e];rfl⟩
theorem Qb0{fp:List ae}{h:Heap}{p:ae×Obj}(hp:p∈xJ fp h):p.1∈fp/\h.get? p.1=some p.2:=by
 obtain⟨b,hb,e⟩:=vF.mp hp;cases q:h.get? b with
 |none=>rw[q] at e;cases e
 |some o =>
  rw[q] at e;have e':(b,o)=p:=Kc.inj e;subst e';exact⟨hb,q⟩
theorem Inv.pinned{pins:List (ae×Obj)}{σ:St}{H:Hp}{s:ag}{fp:List ae}(I:Inv X pins σ H s)(hf:∀ b∈fp,ZS X pins H b)(ho:∀ b∈fp,∃ o,s.heap.get? b=some o/\∀ v,o.data≠.cell v):Inv X (pins++xJ fp s.heap) σ H s :=
 I.pins_of λp hp=>(vf.mp hp).elim (λz=>I.pin p (Wf _ z)) λz=>by
  obtain⟨hb,e⟩:=Qb0 z;obtain⟨f0,f1,f2,_⟩:=hf p.1 hb;obtain⟨o,e',d⟩:=ho p.1 hb;rw[e] at e';cases e';exact⟨e,f0,f1,f2,d⟩
theorem Inv.fV{pins pl:List (ae×Obj)}{σ:St}{H:Hp}{s:ag}(I:Inv X (pins++pl) σ H s):Inv X pins σ H s:=I.pins_of λp hp=>I.pin p (Wf _ (Uf _ hp))
theorem zc9{iter:Expr}{body:List Stmt}{wi:TI}{g:TG}{tb:TS}{pos:Pos}(hp:gG (aj X.prog X.w) X.A X.env X.xe)(hc:X.calm=true)(hi:PI X tg iter wi)(hg:PG X tg g)(hb:fj X body tb)
  (hs:∀ x,bX iter X.env x=pure x:=by intro _;rfl):PS X (.For tg iter body [] pos) (GL wi g tb):=by
 intro pins s σ H D I h;refine wpAny_For (bw (hi pins s σ H _ I h) λv s1 h1=>bw h1 λEA s2 h2=>?_) hs;obtain⟨it,fp,tn,J,H2,e,I2,T,nE,f2,W,⟨m0,w0⟩,turn⟩:=h2;subst e
 -- what stays true of pf mf objects through pf loop
 have sO:∀{H':Hp},(∀ b∈fp,H' b=none)->∀ b∈fp,ZS X pins H' b:=λhn b hb=>⟨hn b hb,(f2 b hb).2⟩;refine codeAny_forLoop_any (λn s'=>∃ i σ' H',Inv X pins σ' H' s'/\tn i s'.heap/\(∀ b∈fp,H' b=none)/\W i n σ' H') ?_ m0 ⟨0,σ,H2,I2,nE,λb hb=>(f2 b hb).1,w0⟩;rintro n s3 ⟨i,σ3,H3,I3,M',OE,w3⟩
 rcases turn i n σ3 H3 w3 with ⟨stop,qn⟩|⟨go,N,hN,step⟩
 ·refine bz hp (bw (T.done X rfl rfl rfl hc i pins s3 σ3 H3 X.xe I3 (sO OE) M' stop) λr s4 ⟨hr,I4⟩=>?_);subst hr;exact cP ⟨σ3,H3,I4,qn⟩
 ·refine bz hp (bw (T.item X rfl rfl rfl hc i pins s3 σ3 H3 X.xe I3 (sO OE) M' go) λr s4 ⟨u,hr,h4⟩=>?_);subst hr;refine bz hp (bw h4 λ_ s5 ⟨x,H5,I5,r5,y5,GQ,fr5⟩=>?_);have I5':=I5.pinned (sO fr5) (T.obj _ _ GQ);refine bz hp (bw (hg _ s5 σ3 H5 x u _ I5' r5 (step x H5 y5)) λ_ s6 ⟨σ6,H6,I6,q6⟩=>?_);refine bz hp (bw (hb _ s6 σ6 H6 _ I6 q6) λf s7 q7=>?_);have again:∀{σ7:St}{H7:Hp},Inv X (pins++xJ fp s5.heap) σ7 H7 s7->N σ7 H7->∃ m,m<n/\∃ i σ' H',Inv X pins σ' H' s7/\tn i s7.heap/\(∀ b∈fp,H' b=none)/\W i m σ' H':=λ{σ7 H7} I7 n7=>by
   obtain⟨m',hm,w7⟩:=hN σ7 H7 n7;refine⟨m',hm,i+1,σ7,H7,I7.fV,T.keep _ _ _ GQ λb hb o e=>(I7.pin (b,o) (Wf _ (Wf _ (qq hb e)))).1,λb hb=>?_,w7⟩;obtain⟨o,e,d⟩:=T.obj _ _ GQ b hb;exact(I7.pin (b,o) (Wf _ (Wf _ (qq hb e)))).2.1
  cases f with
  |next=>obtain⟨σ7,H7,I7,n7⟩:=q7;exact again I7 n7
  |cont=>obtain⟨σ7,H7,I7,n7⟩:=q7;exact again I7 n7
  |brk=>obtain⟨σ7,H7,I7,q7⟩:=q7;exact⟨σ7,H7,I7.fV,q7⟩
  |ret v=>obtain⟨x7,σ7,H7,I7,r7,q7⟩:=q7;exact⟨x7,σ7,H7,I7.fV,r7,q7⟩
end
noncomputable abbrev R2:=V->V->Hp->VK->Prop
def cY(X:Cx)(f:Value->Value->Sem Value)(r:R2):Prop :=
 ∀(pins:List (ae×Obj)) (s:ag) (σ:St) (H:Hp) (x y:V) (v u:Value) (Q:VK),Inv X pins σ H s->RelV x v->RelV y u->r x y H Q ->
  ah (aj X.prog X.w) X.A (f v u) (EP X pins σ Q) X.xe s
def K6(X:Cx)(f:Value->Sem Value)(r:V->Hp->VK->Prop):Prop :=
 ∀(pins:List (ae×Obj)) (s:ag) (σ:St) (H:Hp) (x:V) (v:Value) (Q:VK),Inv X pins σ H s->RelV x v->r x H Q ->
  ah (aj X.prog X.w) X.A (f v) (EP X pins σ Q) X.xe s
def aO(X:Cx)(f:Value)(r:List V->Hp->VK->Prop):Prop :=
 ∀(pins:List (ae×Obj)) (s:ag) (σ:St) (H:Hp) (xs:List V) (us:List Value) (Q:VK),Inv X pins σ H s->Vals xs us->r xs H Q ->
  ah (aj X.prog X.w) X.A (call f us) (EP X pins σ Q) X.xe s
noncomputable def DY(r:R2)(ta tb:TE):TE:=λσ H Q=>ta σ H λx H1=>tb σ H1 λy H2=>r x y H2 Q
noncomputable def tUn(r:V->Hp->VK->Prop)(ta:TE):TE:=λσ H Q=>ta σ H λx H1=>r x H1 Q
noncomputable def rI(C:Int->Int->Prop)(g:Int->Int->V):R2:=λx y H Q=>∃ i j,x=.int i/\y=.int j/\C i j/\Q (g i j) H
noncomputable def rP(g:Int->Int->V):R2:=λx y H Q=>∃ i j,x=.int i/\y=.int j/\Q (g i j) H
def rU(g:Int->V):V->Hp->VK->Prop:=λx H Q=>∃ i,x=.int i/\Q (g i) H
section
variable {X:Cx} {a b c:Expr} {ta tb tc:TE} {pos:Pos}
theorem uV(ha:PE X a ta)(hb:PE X b tb){pins:List (ae×Obj)}{s:ag}{σ:St}{H:Hp}{R:V->V->Hp->Prop}(I:Inv X pins σ H s)
  (h:ta σ H λx H1=>tb σ H1 λy H2=>R x y H2) {Q:Value->ag->Prop} {f:Value->Value->Sem Value}
  (hf:∀ v u s2 x y H2,Inv X pins σ H2 s2->RelV x v->RelV y u->R x y H2->ah (aj X.prog X.w) X.A (f v u) Q X.xe s2) :
  ah (aj X.prog X.w) X.A (eval a X.env) (λv s₁=>ah (aj X.prog X.w) X.A (eval b X.env) (λu s₂=>ah (aj X.prog X.w) X.A (f v u) Q X.xe s₂) X.xe s₁) X.xe s:=by
 refine bw (ha pins s σ H _ I h) λv s1 ⟨x,H1,I1,r1,q1⟩=>?_;refine bw (hb pins s1 σ H1 _ I1 q1) λu s2 ⟨y,H2,I2,r2,q2⟩=>?_;exact hf v u s2 x y H2 I2 r1 r2 q2
theorem K'{op:Operator}{r:R2}(ho:cY X (a7 op) r)(ha:PE X a ta)(hb:PE X b tb):PE X (.BinOp a op b pos) (DY r ta tb):=by
 intro pins s σ H Q I h;exact wpAny_BinOp (uV ha hb I h λv u s2 x y H2 I2 rx ry q=>ho pins s2 σ H2 x y v u Q I2 rx ry q)
theorem OU{op:UnaryOp}{r:V->Hp->VK->Prop}(ho:K6 X (unaryOp op) r)(ha:PE X a ta):PE X (.UnaryOp op a pos) (tUn r ta):=by
 intro pins s σ H Q I h;exact UnaryOp_ (bw (ha pins s σ H _ I h) λv s1 ⟨x,H1,I1,r1,q1⟩=>ho pins s1 σ H1 x v Q I1 r1 q1)
theorem Be{f:Value->Value->Sem Value}{C:Int->Int->Prop}{g:Int->Int->Int}
  (rule:∀(i j:Int)(t u:Tok)(s:ag)(Q:Value->ag->Prop)(E:Value->ag->Prop),C i j->Q (.int (g i j) s.toks) {s with toks:=s.toks+1}->ah (aj X.prog X.w) X.A (f (.int i t) (.int j u)) Q E s) :
  cY X f (rI C λi j=>.int (g i j)):=by
 intro pins s σ H x y v u Q I rx ry h;obtain⟨i,j,rfl,rfl,hc,q⟩:=h;obtain⟨t,rfl⟩:=rx;obtain⟨t',rfl⟩:=ry;exact rule i j t t' s _ _ hc ⟨.int (g i j),H,I.tok _,⟨_,rfl⟩,q⟩
theorem Bd{f:Value->Value->Sem Value}{g:Int->Int->Int}
  (rule:∀(i j:Int)(t u:Tok)(s:ag)(Q:Value->ag->Prop)(E:Value->ag->Prop),Q (.int (g i j) s.toks) {s with toks:=s.toks+1}->ah (aj X.prog X.w) X.A (f (.int i t) (.int j u)) Q E s) :
  cY X f (rP λi j=>.int (g i j)):=by
 intro pins s σ H x y v u Q I rx ry h;obtain⟨i,j,rfl,rfl,q⟩:=h;obtain⟨t,rfl⟩:=rx;obtain⟨t',rfl⟩:=ry;exact rule i j t t' s _ _ ⟨.int (g i j),H,I.tok _,⟨_,rfl⟩,q⟩
theorem pF{f:Value->Value->Sem Value}{g:Int->Int->Bool}
  (rule:∀(i j:Int)(t u:Tok)(s:ag)(Q:Value->ag->Prop)(E:Value->ag->Prop),Q (.bool (g i j)) s->ah (aj X.prog X.w) X.A (f (.int i t) (.int j u)) Q E s) :
  cY X f (rP λi j=>.bl (g i j)):=by
 intro pins s σ H x y v u Q I rx ry h;obtain⟨i,j,rfl,rfl,q⟩:=h;obtain⟨t,rfl⟩:=rx;obtain⟨t',rfl⟩:=ry;exact rule i j t t' s _ _ ⟨.bl (g i j),H,I,rfl,q⟩
def Lu(i j:Int):Prop:=0<j/\j<1073741824
def Ls(i j:Int):Prop:=0<=j/\j<=1000000/\i.natAbs<2^64
theorem ycZ:cY X (a7 .Add) (rP λi j=>.int (i+j)):=Bd λ_ _ _ _ _ _ _ q=>add_int q
theorem QcY:cY X (a7 .Sub) (rP λi j=>.int (i-j)):=Bd λ_ _ _ _ _ _ _ q=>sub_int q
theorem El:cY X (a7 .FloorDiv) (rI Lu λi j=>.int (i/j)):=Be λi j _ _ _ _ _ hc q=>by
 have h1:(0:Int)<j:=hc.1;have h2:j<1073741824:=hc.2;exact floordiv_int (by lia) (by rw[WB i (by lia)];exact q) (.inl (PyProof.noPylong_small (by lia)))
theorem ZcV:cY X (a7 .Mod) (rI (λ_ j=>0<j) λi j=>.int (i%j)):=Be λi j _ _ _ _ _ hc q=>by
 have h1:(0:Int)<j:=hc;exact mod_int' (by lia) (by rw[Int.fmod_eq_emod_of_nonneg i (by lia)];exact q)
theorem QcT:cY X (a7 .Pow) (rI Ls λi j=>.int (i^j.toNat)):=Be λ_ _ _ _ _ _ _ hc q=>pow_int_small hc.1 hc.2.1 hc.2.2 q
theorem unI{f:Value->Sem Value}{g:Int->Int}
  (rule:∀(i:Int)(t:Tok)(s:ag)(Q:Value->ag->Prop)(E:Value->ag->Prop),Q (.int (g i) s.toks) {s with toks:=s.toks+1}->ah (aj X.prog X.w) X.A (f (.int i t)) Q E s) :
  K6 X f (rU λi=>.int (g i)):=by
 intro pins s σ H x v Q I rx h;obtain⟨i,rfl,q⟩:=h;obtain⟨t,rfl⟩:=rx;exact rule i t s _ _ ⟨.int (g i),H,I.tok _,⟨_,rfl⟩,q⟩
theorem Nj:K6 X (unaryOp .USub) (rU λi=>.int (-i)):=unI λ_ _ _ _ _ q=>neg_int q
end
noncomputable def GU:V->V->Bool
 |.bh,.bh=>true | .bh,.int _=>true | .int _,.bh=>true | .bh,.bl _=>true | .bl _,.bh=>true | .bh,.str _=>true | .str _,.bh=>true
 |.int _,.int _=>true | .bl _,.bl _=>true | .str _,.str _=>true | .om _,.om _=>true
 |.int _,.str _=>true | .str _,.int _=>true | .bl _,.str _=>true | .str _,.bl _=>true
 |_,_=>false
noncomputable def rNe:R2:=λx y H Q=>GU x y=true/\Q (.bl (!decide (x=y))) H
theorem ZcK{i j:Int}:decide (V.int i=V.int j)=(i==j):=by
 rw[xv];simp
theorem QcU{i j:Bool}:decide (V.bl i=V.bl j)=(i==j):=by
 rw[xv];simp
theorem QcG{i j:Str}:decide (V.str i=V.str j)=(i==j):=by
 rw[xv];simp
theorem qcz{i j:Array UInt8}:decide (V.om i=V.om j)=(i.toList==j.toList):=by
 rw[xv];cases i;cases j;simp
section
variable {X:Cx} {a b c:Expr} {ta tb tc:TE} {pos:Pos}
theorem Qu{pins:List (ae×Obj)}{σ:St}{H:Hp}{s:ag}{Q:VK}{k k':Bool}(I:Inv X pins σ H s)(q:Q (.bl k) H)(e:k=k'):EP X pins σ Q (.bool k') s:=by
 subst e;exact⟨.bl k,H,I,rfl,q⟩
theorem A8:cY X (aM .NotEq) rNe:=by
 intro pins s σ H x y v u Q I rx ry h;obtain⟨hs,q⟩:=h;cases x with
 |bh =>
  cases rx;cases y with
  |bh=>cases ry;exact PySem.EqNone.ne_none_none (Qu I q (by simp))
  |bl j=>cases ry;exact PySem.EqNone.ne_none_bool (Qu I q (by simp))
  |int j=>obtain⟨t',rfl⟩:=ry;exact PySem.EqNone.ne_none_int (Qu I q (by simp))
  |str j=>obtain⟨t',rfl⟩:=ry;exact PySem.EqNone.ne_none_str (Qu I q (by simp))
  |_=>exact absurd (show false=true from hs) Xd
 |bl i =>
  cases rx;cases y with
  |bh=>cases ry;exact PySem.EqNone.ne_bool_none (Qu I q (by simp))
  |bl j=>cases ry;exact ne_bool (Qu I q (congrArg not QcU))
  |str j=>obtain⟨t',rfl⟩:=ry;exact PySem.EqMixed.ne_bool_str (Qu I q (by simp))
  |_=>exact absurd (show false=true from hs) Xd
 |int i =>
  obtain⟨t,rfl⟩:=rx;cases y with
  |bh=>cases ry;exact PySem.EqNone.ne_int_none (Qu I q (by simp))
  |int j=>obtain⟨t',rfl⟩:=ry;exact ne_int (Qu I q (congrArg not ZcK))
  |str j=>obtain⟨t',rfl⟩:=ry;exact PySem.EqMixed.ne_int_str (Qu I q (by simp))
  |_=>exact absurd (show false=true from hs) Xd
 |str i =>
  obtain⟨t,rfl⟩:=rx;cases y with
  |bh=>cases ry;exact PySem.EqNone.ne_str_none (Qu I q (by simp))
  |bl j=>cases ry;exact PySem.EqMixed.ne_str_bool (Qu I q (by simp))
  |int j=>obtain⟨t',rfl⟩:=ry;exact PySem.EqMixed.ne_str_int (Qu I q (by simp))
  |str j=>obtain⟨t',rfl⟩:=ry;exact ne_str (Qu I q (congrArg not QcG))
  |_=>exact absurd (show false=true from hs) Xd
 |om i =>
  obtain⟨t,rfl⟩:=rx;cases y with
  |om j=>obtain⟨t',rfl⟩:=ry;exact PySem.W.ne_bytes (Qu I q (congrArg not qcz))
  |_=>exact absurd (show false=true from hs) Xd
 |_=>cases y <;> exact absurd (show false=true from hs) Xd
theorem A9:cY X (aM .Lt) (rP λi j=>.bl (decide (i<j))):=pF λ_ _ _ _ _ _ _ q=>lt_int q
theorem Ba:cY X (aM .LtE) (rP λi j=>.bl (decide (i<=j))):=pF λ_ _ _ _ _ _ _ q=>le_int q
theorem Bb:cY X (aM .Gt) (rP λi j=>.bl (decide (j<i))):=pF λ_ _ _ _ _ _ _ q=>gt_int q
theorem Bc:cY X (aM .GtE) (rP λi j=>.bl (decide (j<=i))):=pF λ_ _ _ _ _ _ _ q=>ge_int q
theorem Qc6(b:Expr){op:dH}(h:op≠.In:=by decide)(h2:op≠.NotIn:=by decide):bf op b=false:=by
 have e1:(op==dH.In)=false:=by cases op <;> first|rfl|exact absurd rfl h
 have e2:(op==dH.NotIn)=false:=by cases op <;> first|rfl|exact absurd rfl h2
 cases b <;> simp[bf,e1,e2]
theorem zcJ{op:dH}{r:R2}(ho:cY X (aM op) r)(ha:PE X a ta)(hb:PE X b tb)(hm:bf op b=false):PE X (.Compare a [op] [b] pos) (DY r ta tb):=by
 intro pins s σ H Q I h;exact jx (uV ha hb I h λv u s2 x y H2 I2 rx ry q=>ho pins s2 σ H2 x y v u Q I2 rx ry q) hm
noncomputable def FW(t:TE):TT:=λσ H Q=>t σ H λx H'=>∃ k,x=.bl k/\Q k H'
theorem MB{op:dH}{r:R2}(ho:cY X (aM op) r)(ha:PE X a ta)(hb:PE X b tb)(hm:bf op b=false):PT X (.Compare a [op] [b] pos) (FW (DY r ta tb)):=by
 intro pins s σ H Q I h;refine fL (bw (ha pins s σ H _ I h) λv s1 ⟨x,H1,I1,r1,q1⟩=>bw (hb pins s1 σ H1 _ I1 q1) λu s2 ⟨y,H2,I2,r2,q2⟩ =>
  bw (ho pins s2 σ H2 x y v u _ I2 r1 r2 q2) λc s3 ⟨z,H3,I3,r3,k,e,q3⟩=>?_) hm
 subst e;cases r3;exact aP ⟨H3,I3,q3⟩
noncomputable def LC(r r':R2)(ta tb tc:TE):TE:=λσ H Q=>ta σ H λx H1=>tb σ H1 λy H2=>r x y H2 λz H3=>∃ k,z=.bl k /\
 (if k=true then tc σ H3 λw' H4=>r' y w' H4 Q else Q (.bl false) H3)
theorem zcl{op kZ:dH}{r r':R2}(ho:cY X (aM op) r)(mn:cY X (aM kZ) r')(ha:PE X a ta)(hb:PE X b tb)(hc:PE X c tc)
  (hm:lastMarks [op,kZ] [b,c]=false:=by with_unfolding_all rfl):PE X (.Compare a [op,kZ] [b,c] pos) (LC r r' ta tb tc):=by
 intro pins s σ H Q I h;refine Compare_chain (bw (ha pins s σ H _ I h) λv s1 ⟨x,H1,I1,r1,q1⟩=>chain_link (bw (hb pins s1 σ H1 _ I1 q1) λu s2 ⟨y,H2,I2,r2,q2⟩ =>
  bw (ho pins s2 σ H2 x y v u _ I2 r1 r2 q2) λd s3 ⟨z,H3,I3,r3,k,e,q3⟩=>?_)) hm
 subst e;cases r3;refine aP ?_;cases k with
 |false=>exact ite_ff ⟨.bl false,H3,I3,rfl,q3⟩
 |true=>exact ite_tt (chain_last (bw (hc pins s3 σ H3 _ I3 q3) λw' s4 ⟨z',H4,I4,r4,q4⟩=>mn pins s4 σ H4 y z' u w' Q I4 r2 r4 q4))
theorem Qch{op kZ:dH}{r r':R2}(ho:cY X (aM op) r)(mn:cY X (aM kZ) r')(ha:PE X a ta)(hb:PE X b tb)(hc:PE X c tc)
  (hm:lastMarks [op,kZ] [b,c]=false:=by with_unfolding_all rfl):PT X (.Compare a [op,kZ] [b,c] pos) (FW (LC r r' ta tb tc)):=by
 intro pins s σ H Q I h;refine isTrue_chain (bw (ha pins s σ H _ I h) λv s1 ⟨x,H1,I1,r1,q1⟩=>test_link (bw (hb pins s1 σ H1 _ I1 q1) λu s2 ⟨y,H2,I2,r2,q2⟩ =>
  bw (ho pins s2 σ H2 x y v u _ I2 r1 r2 q2) λd s3 ⟨z,H3,I3,r3,k,e,q3⟩=>?_)) hm
 subst e;cases r3;refine aP ?_;cases k with
 |false =>
  obtain⟨k',e',q'⟩:=q3;cases e';exact ite_ff ⟨H3,I3,q'⟩
 |true =>
  refine ite_tt (test_last (bw (hc pins s3 σ H3 _ I3 q3) λw' s4 ⟨z',H4,I4,r4,q4⟩=>bw (mn pins s4 σ H4 y z' u w' _ I4 r2 r4 q4) λd' s5 ⟨z2,H5,I5,r5,k2,e2,q5⟩=>?_));subst e2;cases r5;exact aP ⟨H5,I5,q5⟩
theorem D':(sizeLine:Nat)<2^63:=by rw[iP];decide
theorem C8{x:V}{us:List Value}(r:Vals [x] us):∃ u,us=[u]/\RelV x u:=by
 cases r with
 |cons r1 r2=>cases r2;exact⟨_,rfl,r1⟩
theorem Mr{x y:V}{us:List Value}(r:Vals [x,y] us):∃ u w',us=[u,w']/\RelV x u/\RelV y w':=by
 cases r with
 |cons r1 r2 =>
  cases r2 with
  |cons r3 r4=>cases r4;exact⟨_,_,rfl,r1,r3⟩
theorem QbR(hc:X.calm=true):aO X (.builtin "max") (λxs H Q=>∃ i j,xs=[.int i,.int j]/\Q (.int (if j>i then j else i)) H):=by
 intro pins s σ H xs us Q I r h;obtain⟨i,j,rfl,q⟩:=h;obtain⟨u,w',rfl,⟨t,rfl⟩,⟨t',rfl⟩⟩:=Mr r;refine max_two_ints (I.ok.hd hc) λh' tk k=>⟨_,H,I.kept k,?_,q⟩;by_cases hj:j>i
 ·rw[if_pos hj,if_pos hj];exact⟨_,rfl⟩
 ·rw[if_neg hj,if_neg hj];exact⟨_,rfl⟩
theorem zbX(hc:X.calm=true):aO X (.builtin "min") (λxs H Q=>∃ i j,xs=[.int i,.int j]/\Q (.int (if j<i then j else i)) H):=by
 intro pins s σ H xs us Q I r h;obtain⟨i,j,rfl,q⟩:=h;obtain⟨u,w',rfl,⟨t,rfl⟩,⟨t',rfl⟩⟩:=Mr r;refine min_two_ints (I.ok.hd hc) λh' tk k=>⟨_,H,I.kept k,?_,q⟩;by_cases hj:j<i
 ·rw[if_pos hj,if_pos hj];exact⟨_,rfl⟩
 ·rw[if_neg hj,if_neg hj];exact⟨_,rfl⟩
theorem Zb3:aO X (.type "int") (λxs H Q=>(∃ i,xs=[.int i]/\Q (.int i) H)\/∃ k,xs=[.bl k]/\Q (.int (if k then 1 else 0)) H):=by
 intro pins s σ H xs us Q I r h
 rcases h with ⟨i,rfl,q⟩|⟨k,rfl,q⟩
 ·obtain⟨u,rfl,t,rfl⟩:=C8 r;exact call_int_int ⟨.int i,H,I,⟨_,rfl⟩,q⟩
 ·obtain⟨u,rfl,r1⟩:=C8 r;cases r1;exact call_int_bool ⟨.int (if k then 1 else 0),H,I.tok _,⟨_,rfl⟩,q⟩
end
structure mE (h:Heap) (x dx C:ae) (mA:Str->Option Value):Prop where
 obj:h.get? x=some (Wh C dx)
 ns:h.Ns1 dx mA
 ne:dx≠x
theorem ZbS{h:Heap}{dx:ae}{mA:Str->Option Value}(n:h.Ns1 dx mA):∃ od,h.get? dx=some od/\∀ name,xA name od=some (mA name):=by
 obtain⟨o,es,ep,ho,hd,hk,_,hm⟩:=n;refine⟨o,ho,λname=>?_⟩;have e:=hm name;unfold nsFind findBy at e;rw[<- Array.find?_toList] at e;unfold xA;rw[hd];dsimp only;split
 ·rename_i y q;rw[q] at e;exact congrArg some e
 ·rename_i q;rw[q] at e;have a:es.toList.any (·.refKey)=false:=by
   rw[List.any_eq_false];intro y hy;obtain⟨z,t,IJ⟩:=hk y (Array.mem_toList_iff.mp hy);simp[fc.refKey,IJ]
  have a':¬ es.toList.any (·.refKey)=true:=by rw[a];exact Xd
  rw[if_neg a'];exact congrArg some e
theorem mE.look{h:Heap}{x dx C:ae}{mA:Str->Option Value}(I:mE h x dx C mA):∃ od,Gd h x (Wh C dx) C (some od)/\∀ name,xA name od=some (mA name) :=
 let ⟨od,ho,hl⟩:=ZbS I.ns
 ⟨od,⟨I.obj,rfl,rfl,ho⟩,hl⟩
section
variable {prog:ak} {w:World} {A:Around} {E:Value->ag->Prop} {s:ag} {K:Gc} {x dx C f:ae} {mA:Str->Option Value} {name:Str} {v:Value}
theorem YcO{expr:Bool}{Q:Value->ag->Prop}(X:K.In s.heap)(I:mE s.heap x dx C mA)(hg:Ut K C name=true)(hh:xw K C=true)
  (ha:Wc K (.ref C) name=some none) (hv:mA name=some v) (hv':UH v=true) (h:Q v {s with toks:=s.toks+1}) :
  ah (aj prog w) A (getAttr (.ref x) name expr) Q E s:=by
 obtain⟨od,J,hl⟩:=I.look;exact PySem.W.get_value X J (vz hg).1 (PySem.W.findObj_own hh ha rfl (by rw[hl,hv])) hv' h
theorem ycf{pl:Sem Bool}{Q:Value×List Value->ag->Prop}(X:K.In s.heap)(I:mE s.heap x dx C mA)(hg:Ut K C name=true)
  (hf:Wc K (.ref C) name=some (some (.ref f))) (ht:WC K (.ref f)=true) (hv:mA name=none) (h:Q (.ref f,[.ref x]) s) :
  ah (aj prog w) A (kT (.ref x) name pl) Q E s:=by
 obtain⟨od,J,hl⟩:=I.look;exact PySem.W.method_fn X J (vz hg).1 (vz hg).2 hf (beq_iff_eq.mp ht) (by show(xA name od).map (·.isSome)=some false;rw[hl,hv];rfl) h
theorem ZcI{ns:List Str}{Q:Unit->ag->Prop}(X:K.In s.heap)(I:mE s.heap x dx C mA)
  (hs:Wc K (.ref C) "__setattr__"=some (some (.builtin "object.__setattr__"))) (hp:UB K C=true) (ht:wD K C name=some none) (hh:xw K C=true)
  (hw:Hc mA ns) (hsz:ns.length<=sizeLine)
  (h:∀ h',mE h' x dx C (λy=>if y=name then some v else mA y)->je dx s.heap h'->Q () {s with heap:=h',toks:=s.toks+2}) :
  ah (aj prog w) A (setAttr (.ref x) name v) Q E s:=by
 obtain⟨od,J,hl⟩:=I.look;refine PySem.W.set_plain X J hs (PySem.W.osa_open (s:={s with toks:=s.toks+1}) (r:=none) X J hp ht λb=>?_);obtain⟨cd,hc,n6⟩:=PySem.W.any_some hh;have hx:s.heap.get? x=some ⟨.ref C,some dx,.plain,#[]⟩:=I.obj;refine aa (af (aa (aa (jv hx (aa (PySem.W.Looks.here (s:={s with toks:=s.toks+1}) (PySem.W.looks_clsIn X hc) ?_))))));rw[n6];refine af (a:=some dx) (aa (af (aa ?_)));refine wpAny_nsSet1 (s:={s with toks:=s.toks+1}) I.ns λh' EK kR=>?_;obtain⟨oD,esD,epD,hoD,hdD,hcD⟩:=EK.count (PySem.Within.cons name v hw);refine aa (wpAny_lookBehind hoD (by rw[hdD];exact pastItsLine_dict (xf hcD (by rw[Vc];lia))) ?_);exact af (h _ ⟨(kR.2 _ (Ke I.ne)).trans I.obj,EK,I.ne⟩ kR)
theorem Qcr{R:hX->ag->Prop}{vs:List Value}{kw:List (Str×Value)}(X:K.In s.heap)(hm:Xv K C=true)
  (hi:Wc K (.ref C) "__init__"=some (some (.ref f))) (hf:xq K (.ref f)=some (.type "function"))
  (h:bG (aj prog w) (A.under (.builtin "type.__call__" ⟨.ref C::vs,kw⟩)) (.call (.ref f) ⟨.ref (s.heap.objs.size+1)::vs,kw⟩) (Jd (s.heap.objs.size+1) R)
   {s with heap:=(s.heap.push ug).push (Wh C s.heap.objs.size)}) :
  bG (aj prog w) A (.call (.ref C) ⟨vs,kw⟩) R s:=by
 obtain⟨hh,g,d,t,os⟩:=s;exact vG (xC X hm) (vt X hi) (λself=>PySem.W.bind_fn X self hf) (.inl rfl) h
theorem qb0{R:hX->ag->Prop}(X:K.In s.heap)(hm:Xv K C=true)
  (hi:Wc K (.ref C) "__init__"=some (some (.builtin "object.__init__")))
  (hb:∀ self,Kd (aj prog w) s.heap (bindSpecial (.builtin "object.__init__") self) (.builtin "object.__init__",[self]))
  (h:bG (aj prog w) (A.under (.builtin "type.__call__" ⟨[.ref C],[]⟩)) (.call (.builtin "object.__init__") ⟨[.ref (s.heap.objs.size+1)],[]⟩) (Jd (s.heap.objs.size+1) R)
   {s with heap:=(s.heap.push ug).push (Wh C s.heap.objs.size)}) :
  bG (aj prog w) A (.call (.ref C) ⟨[],[]⟩) R s:=by
 obtain⟨hh,g,d,t,os⟩:=s;exact vG (xC X hm) (vt X hi) hb (.inr ⟨rfl,rfl⟩) h
end
noncomputable def ZN(f:Str)(v:V):List (Str×V)->List (Str×V)
 |[]=>[(f,v)]
 |(g,x)::r=>if g=f then(g,v)::r else(g,x)::ZN f v r
theorem RB(f g:Str)(v:V):∀ fs:List (Str×V),(ZN f v fs).lookup g=if g=f then some v else fs.lookup g
 |[]=>by
  show Xu g [(f,v)]=_;by_cases h:g=f
  ·have hb:(g==f)=true:=beq_iff_eq.mpr h;simp only[Xu,hb,if_pos h]
  ·have hb:(g==f)=false:=beq_eq_false_iff_ne.mpr h;simp only[Xu,hb,if_neg h]
 |(k,x)::r=>by
  have ih:=RB f g v r;rw[show ZN f v ((k,x)::r)=(if k=f then(k,v)::r else(k,x)::ZN f v r) from rfl];by_cases hk:k=f
  ·rw[if_pos hk];by_cases h:g=k
   ·have hb:(g==k)=true:=beq_iff_eq.mpr h;simp only[Xu,hb,if_pos (h.trans hk)]
   ·have hb:(g==k)=false:=beq_eq_false_iff_ne.mpr h;simp only[Xu,hb,if_neg (λe:g=f=>h (e.trans hk.symm))]
  ·rw[if_neg hk];by_cases h:g=k
   ·have hb:(g==k)=true:=beq_iff_eq.mpr h;simp only[Xu,hb,if_neg (λe:g=f=>hk (h.symm.trans e))]
   ·have hb:(g==k)=false:=beq_eq_false_iff_ne.mpr h;simp only[Xu,hb];exact ih
theorem HF(f:Str)(v:V):∀ fs:List (Str×V),f∈(ZN f v fs).map (·.1)/\∀ g,g∈fs.map (·.1)->g∈(ZN f v fs).map (·.1)
 |[]=>⟨by simp[ZN],λg h=>by simp at h⟩
 |(k,x)::r=>by
  obtain⟨i1,i2⟩:=HF f v r;rw[show ZN f v ((k,x)::r)=(if k=f then(k,v)::r else(k,x)::ZN f v r) from rfl];by_cases hk:k=f
  ·rw[if_pos hk];subst hk;exact⟨by simp,λg h=>by simpa using h⟩
  ·rw[if_neg hk];refine⟨?_,λg h=>?_⟩
   ·rw[Va];exact Vd _ i1
   ·rw[Va] at h ⊢
    rcases Wb.mp h with e|e
    ·exact Wb.mpr (.inl e)
    ·exact Vd _ (i2 g e)
theorem NO(f:Str)(v:V):∀ fs:List (Str×V),(ZN f v fs).length<=fs.length+1
 |[]=>by simp[ZN]
 |(k,x)::r=>by
  have ih:=NO f v r;rw[show ZN f v ((k,x)::r)=(if k=f then(k,v)::r else(k,x)::ZN f v r) from rfl];by_cases hk:k=f
  ·rw[if_pos hk,Vc,Vc];lia
  ·rw[if_neg hk,Vc,Vc];lia
theorem iw.some_of{v:V}{o:Option Value}(r:iw (some v) o):∃ u,o=some u/\RelV v u:=by
 cases o with
 |none=>exact(show False from r).elim
 |some u=>exact⟨u,rfl,r⟩
theorem iw.none_of{o:Option Value}(r:iw none o):o=none:=by
 cases o with
 |none=>rfl
 |some u=>exact(show False from r).elim
theorem zb3{v:V}{u:Value}(r:RelV v u):UH u=true:=by
 cases v with
 |bh=>cases(show u=ja from r);rfl
 |bl b=>cases(show u=jb b from r);rfl
 |int i=>obtain⟨t,e⟩:=(show ∃ t,u=Ga i t from r);cases e;rfl
 |str x=>obtain⟨t,e⟩:=(show ∃ t,u=Ha x t from r);cases e;rfl
 |om b=>obtain⟨t,e⟩:=(show ∃ t,u=Value.bytes b t from r);cases e;rfl
 |sj b=>obtain⟨t,e⟩:=(show ∃ t,u=Jb b t from r);cases e;rfl
 |ref a=>cases(show u=Ka a from r);rfl
 |ty n=>cases(show u=Kb n from r);rfl
section
variable {P:ak} {w:World} {H H':Hp} {h h':Heap} {a C dx:ae} {fs JI:List (Str×V)}
theorem DL(aS:fQ P w H h)(e:H a=some (.ins C dx fs)):∃ mA,mE h a dx C mA/\(∀ f,iw (fs.lookup f) (mA f))/\Hc mA (fs.map (·.1))/\fs.length<=1000/\H dx=some (.own a):=by
 obtain⟨d,z,ne,ob,mA,n,r,q⟩:=(show bI P w H h a (.ins C dx fs) from aS a _ e);exact⟨mA,⟨ob,n,ne⟩,r,q,z,d⟩
end
structure lZ (K:Gc) (C:ae):Prop where
 pg:Ut K C Str.empty=true
 hd:xw K C=true
 po:UB K C=true
 sa:Wc K (.ref C) "__setattr__"=some (some (.builtin "object.__setattr__"))
theorem lZ.get{K:Gc}{C:ae}(c:lZ K C)(f:Str):Ut K C f=true:=c.pg
def gA(K:Gc)(C:ae)(f:Str):Prop:=Wc K (.ref C) f=some none
theorem gA.Ag{K:Gc}{C:ae}{f:Str}(n:gA K C f):wD K C f=some none:=by
 unfold wD;rw[show Wc K (.ref C) f=some none from n];rfl
structure Meth (K:Gc) (C:ae) (m:Str) (f:ae):Prop where
 at_:Wc K (.ref C) m=some (some (.ref f))
 fn:WC K (.ref f)=true
 kp:vg K (.ref f)=true
section
variable {X:Cx} {pins:List (ae×Obj)} {σ:St} {H:Hp} {s:ag} {a C dx:ae} {fs:List (Str×V)} {f:Str} {v:V} {A:Around} {E:Value->ag->Prop}
theorem zbt{b:Bool}{Q:Value->ag->Prop}(I:Inv X pins σ H s)(e:H a=some (.ins C dx fs))(c:lZ X.K C)(n:gA X.K C f)(l:fs.lookup f=some v)
  (h:∀ u s',Inv X pins σ H s'->RelV v u->Q u s'):ah (aj X.prog X.w) A (getAttr (.ref a) f b) Q E s:=by
 obtain⟨mA,O,r,_,_,_⟩:=DL I.aS e;obtain⟨u,hu,ru⟩:=iw.some_of (v:=v) (o:=mA f) (by rw[<- l];exact r f);exact YcO I.gO O (c.get f) c.hd n hu (zb3 ru) (h u _ (I.tok _) ru)
theorem MW{m:Str}{g:ae}{pl:Sem Bool}{Q:Value×List Value->ag->Prop}(I:Inv X pins σ H s)(e:H a=some (.ins C dx fs))(c:lZ X.K C)(k:Meth X.K C m g)(l:fs.lookup m=none)
  (h:Q (.ref g,[.ref a]) s):ah (aj X.prog X.w) A (kT (.ref a) m pl) Q E s:=by
 obtain⟨mA,O,r,_,_,_⟩:=DL I.aS e;have hn:mA m=none:=iw.none_of (by rw[<- l];exact r m);exact ycf I.gO O (c.get m) k.at_ k.fn hn h
theorem qbD{y:V}{u:Value}{Q:Unit->ag->Prop}(I:Inv X pins σ H s)(e:H a=some (.ins C dx fs))(c:lZ X.K C)(n:gA X.K C f)(hl:fs.length<1000)(ry:RelV y u)
  (h:∀ s',Inv X pins σ (upd H a (.ins C dx (ZN f y fs))) s'->Q () s'):ah (aj X.prog X.w) A (setAttr (.ref a) f u) Q E s:=by
 obtain⟨mA,O,r,wi,_,ho⟩:=DL I.aS e;have hz:(fs.map (·.1)).length<=sizeLine:=by rw[wc,iP];lia
 refine ZcI I.gO O c.sa c.po n.Ag c.hd wi hz λh' O' sb=>h _ ?_;have hd:∃ o,h'.get? dx=some o:=let ⟨o,_,_,e',_⟩:=O'.ns;⟨o,e'⟩;refine I.write (x:=a) (e:=dx) (by rw[e];exact Kg) (.inr ho) (λb q hb z=>(sb.2 b hb).trans z) hd ?_;refine⟨by rw[Qc O.ne];exact ho,?_,O.ne,O'.obj,_,O'.ns,λg=>?_,λg hg=>?_⟩
 ·have:=NO f y fs;lia
 ·show iw ((ZN f y fs).lookup g) (if g=f then some u else mA g);rw[RB];by_cases q:g=f
  ·rw[if_pos q,if_pos q];exact ry
  ·rw[if_neg q,if_neg q];exact r g
 ·by_cases q:g=f
  ·rw[q];exact(HF f y fs).1
  ·refine(HF f y fs).2 g (wi g λz=>hg ?_);show(if g=f then some u else mA g)=none;rw[if_neg q];exact z
theorem Inv.made(I:Inv X pins σ H s):Inv X pins σ (upd (upd H s.heap.objs.size (.own (s.heap.objs.size+1))) (s.heap.objs.size+1) (.ins C s.heap.objs.size []))
  {s with heap:=(s.heap.push ug).push (Wh C s.heap.objs.size)}:=by
 have e1:(s.heap.push ug).get? s.heap.objs.size=some ug:=xb s.heap rfl;have e2:((s.heap.push ug).push (Wh C s.heap.objs.size)).get? (s.heap.objs.size+1)=some (Wh C s.heap.objs.size):=by
  have:=xb (s.heap.push ug) (o:=Wh C s.heap.objs.size) rfl
  rwa [Xg] at this
 have e3:(s.heap.push ug).Ns s.heap.objs.size (λ_=>none):=⟨ug,#[],_,e1,rfl,(λe he=>absurd he (by simp)),λ_=>rfl⟩;have I1:=I.laid (a:=s.heap.objs.size) (o:=.own (s.heap.objs.size+1)) (h':=s.heap.push ug) (t':=s.toks) (λb u q=>wa _ q) (Ub _) ⟨_,e1⟩;refine I1.laid (a:=s.heap.objs.size+1) (o:=.ins C s.heap.objs.size []) (t':=s.toks) (λb u q=>wa _ q) (Uq (Xg _ _)) ?_;have ne:s.heap.objs.size≠s.heap.objs.size+1:=uc (uo _);refine⟨by rw[Qc ne,zf],xl _,ne,e2,λ_=>none,(Heap.Ns1.of_empty e3).at λo q=>wa _ q,λ_=>Kg,λy hy=>absurd rfl hy⟩
theorem zcO{prog:ak}{w:World}{env:Env}{e:Expr}{f:Str}{pos:Pos}{s:ag}{Q:Value->ag->Prop}(hb:aZ e f env (eval e env)=eval e env)
  (h:ah (aj prog w) A (eval e env) (λo s₁=>ah (aj prog w) A (getAttr o f true) Q E s₁) E s):ah (aj prog w) A (eval (.Attribute e f pos) env) Q E s :=
 Attribute_any_ h (by rw[arm_eval_Attribute,hb])
end
noncomputable def Ao(K:Gc)(ta:TE)(f:Str):TE:=λσ H Q=>ta σ H λx H1=>∃ a C dx fs v,x=.ref a/\H1 a=some (.ins C dx fs)/\lZ K C/\gA K C f/\fs.lookup f=some v/\Q v H1
noncomputable def GW(K:Gc)(ta tv:TE)(f:Str):TS:=λD σ H=>tv σ H λy H1=>ta σ H1 λx H2=>∃ a C dx fs,x=.ref a/\H2 a=some (.ins C dx fs)/\lZ K C/\gA K C f/\fs.length<1000 /\
 D.nx σ (upd H2 a (.ins C dx (ZN f y fs)))
section
variable {X:Cx} {o e value:Expr} {f:Str} {pos pos' Gy:Pos} {ta tv:TE}
theorem ydd(he:PE X e ta)(hb:aZ e f X.env (eval e X.env)=eval e X.env):PE X (.Attribute e f pos) (Ao X.K ta f):=by
 intro pins s σ H Q I h;refine zcO hb (bw (he pins s σ H _ I h) λu s1 ⟨x,H1,I1,rx,a,C,dx,fs,v,ex,ea,c,n,l,q⟩=>?_);subst ex;obtain rfl:u=Ka a:=rx;exact zbt I1 ea c n l λu' s2 I2 ru=>⟨v,H1,I2,ru,q⟩
theorem Yc3(ha:PE X o ta)(hv:PE X value tv)(hs:bq value (some (.Attribute o f pos')) pos.line X.env=pure false):PS X (.Assign [.Attribute o f pos'] value pos) (GW X.K ta tv f):=by
 intro pins s σ H D I h;refine plainObj_wpAny_Assign_Attribute (bw (hv pins s σ H _ I h) λu s1 ⟨y,H1,I1,ry,q⟩=>bw (ha pins s1 σ H1 _ I1 q) λov s2 ⟨x,H2,I2,rx,a,C,dx,fs,ex,ea,c,n,l,q2⟩=>?_) hs;subst ex;obtain rfl:ov=Ka a:=rx;exact qbD I2 ea c n l ry λs3 I3=>⟨σ,_,I3,q2⟩
end
section
variable {X:Cx} {pins:List (ae×Obj)} {σ:St} {H:Hp} {s:ag} {A:Around} {E:Value->ag->Prop} {Q:Value->ag->Prop} {c:Value} {b:Bool}
inductive hV (K:Gc) (H:Hp):V->Value->Prop where
 |bh:hV K H .bh (.type "NoneType")
 |bl (x:Bool):hV K H (.bl x) (.type "bool")
 |int (i:Int):hV K H (.int i) (.type "int")
 |str (x:Str):hV K H (.str x) (.type "str")
 |sj (x:UInt64):hV K H (.sj x) (.type "float")
 |lst {a:ae} {xs:List V} (e:H a=some (.lst xs)):hV K H (.ref a) (.type "list")
 |eO {a:ae} {o:Obj} {xs:List V} (e:H a=some (.eO o (.lst xs))):hV K H (.ref a) (.type "list")
 |tup {a:ae} {xs:List V} (e:H a=some (.tup xs)):hV K H (.ref a) (.type "tuple")
 |dK {a:ae} {kvs:List (Key×V)} (e:H a=some (.dK kvs)):hV K H (.ref a) (.type "dict")
 |dT {a:ae} {kvs:List (List Key×V)} (e:H a=some (.dT kvs)):hV K H (.ref a) (.type "dict")
 |ins {a C dx:ae} {fs:List (Str×V)} (e:H a=some (.ins C dx fs)) (cl:lZ K C) (ha:Wc K (.ref C) "__class__"=some (some (.builtin "object.__class__")))
   (hn:Vm K (.builtin "object.__class__") "__get__"=some (some (.builtin "getset_descriptor.__get__"))) (Oo:Vo K (.builtin "object.__class__")=some true)
   (hm:vw K C (.type "object")=some true):hV K H (.ref a) (.ref C)
theorem zbT{x:V}{u t:Value}(I:Inv X pins σ H s)(rx:RelV x u)(ty:hV X.K H x t)(e:Xe X.K t c=some b)(h:∀ tk,Q (.bool b) {s with toks:=tk}) :
  ah (aj X.prog X.w) A (call (.builtin "isinstance") [u,c]) Q E s:=by
 cases ty with
 |bh=>cases(show u=ja from rx);exact xi PySem.W.kitx_none I.gO Kg e (λz=>nomatch z) h
 |bl y=>cases(show u=jb y from rx);exact xi PySem.W.kitx_bool I.gO Kg e (λz=>nomatch z) h
 |int i=>obtain⟨t,q⟩:=(show ∃ t,u=Ga i t from rx);cases q;exact xi PySem.W.kitx_int I.gO Kg e (λz=>nomatch z) h
 |str y=>obtain⟨t,q⟩:=(show ∃ t,u=Ha y t from rx);cases q;exact xi PySem.W.kitx_str I.gO Kg e (λz=>nomatch z) h
 |sj y=>obtain⟨t,q⟩:=(show ∃ t,u=Jb y t from rx);cases q;exact xi PySem.W.kitx_float I.gO Kg e (λz=>nomatch z) h
 |@lst a xs ea =>
  cases(show u=Ka a from rx);obtain⟨_,_,n,_,h1⟩:=(show bI X.prog X.w H s.heap a (.lst xs) from I.aS a _ ea);exact xi VG I.gO ⟨_,h1,rfl⟩ e (λz=>nomatch z) h
 |@eO a ob xs ea =>
  cases(show u=Ka a from rx);obtain⟨_,_,_,n,_,h1⟩:=(show bI X.prog X.w H s.heap a (.eO ob (.lst xs)) from I.aS a _ ea);exact xi VG I.gO ⟨_,h1,rfl⟩ e (λz=>nomatch z) h
 |@tup a xs ea =>
  cases(show u=Ka a from rx);obtain⟨_,_,_,p⟩:=(show bI X.prog X.w H s.heap a (.tup xs) from I.aS a _ ea);obtain⟨o,h1,h2,_⟩:=p;exact xi PySem.W.kitx_tuple I.gO ⟨o,h1,h2⟩ e (λz=>nomatch z) h
 |@dK a kvs ea =>
  cases(show u=Ka a from rx);obtain⟨_,_,vs,_,p⟩:=(show bI X.prog X.w H s.heap a (.dK kvs) from I.aS a _ ea);obtain⟨o,es,ep,h1,h2,_⟩:=p;exact xi wH I.gO ⟨o,h1,h2.1⟩ e (λz=>nomatch z) h
 |@dT a kvs ea =>
  cases(show u=Ka a from rx);obtain⟨_,_,xs,_,o,es,ep,h1,h2,_⟩:=(show bI X.prog X.w H s.heap a (.dT kvs) from I.aS a _ ea);exact xi wH I.gO ⟨o,h1,h2.1⟩ e (λz=>nomatch z) h
 |@ins a C dx fs ea cl ha hn Oo hm =>
  cases(show u=Ka a from rx);obtain⟨mA,O,_⟩:=DL I.aS ea;obtain⟨od,J,_⟩:=O.look;exact xi (PySem.W.kitx_own (cl.get _) cl.hd ha hn Oo hm) I.gO J e (λz=>nomatch z) h
end
structure df (k:Nat) (A:Around):Prop where
 hd:A.handled=none
 dp:A.depth+3*k+5<f'
 un:A.units+16*k+200<dn
theorem df.mono{j k:Nat}{A:Around}(r:df k A)(h:j<=k):df j A:=⟨r.hd,by have:=r.dp;lia,by have:=r.un;lia⟩
theorem df.deeper{k:Nat}{A:Around}(r:df (k+1) A)(env:Env):df k (A.deeper env) :=
 ⟨r.hd,by have:=r.dp;show A.depth+1+3*k+5<_;lia,by have:=r.un;show A.units+3+16*k+200<_;lia⟩
theorem Zbt{A:Around}{C:ae}{us:List Value}{kw:List (Str×Value)}:(A.under (.builtin "type.__call__" ⟨.ref C::us,kw⟩)).depth=A.depth+1:=by
 first|rfl|simp[Jg,kK.weight,kK.isCreation,kK.isGuard,kK.isCaller,kK.frames,kK.isFrame,guardIds]
theorem ZbB{A:Around}{C:ae}{us:List Value}{kw:List (Str×Value)}:(A.under (.builtin "type.__call__" ⟨.ref C::us,kw⟩)).units=A.units+1:=by
 first|rfl|simp[Jg,kK.cUnits,kK.frames,kK.isFrame]
theorem df.make{k:Nat}{A:Around}(r:df (k+1) A)(C:ae)(us:List Value)(kw:List (Str×Value)):df k (A.under (.builtin "type.__call__" ⟨.ref C::us,kw⟩)) :=
 ⟨r.hd,by have:=r.dp;rw[Zbt];lia,by have:=r.un;rw[ZbB];lia⟩
theorem df.depth{k:Nat}{A:Around}(r:df k A):A.depth<f':=by have:=r.dp;lia
noncomputable def Df:TA:=λ_ H Q=>Q [] H
noncomputable def Dm(ta:TE)(tr:TA):TA:=λσ H Q=>ta σ H λx H1=>tr σ H1 λxs H2=>Q (x::xs) H2
section
variable {X:Cx} {e:Expr} {es:List Expr} {te:TE} {t:TA} {pos:Pos}
theorem yk:PA X [] Df:=λ_ _ _ _ H Q I h=>Kf ⟨[],H,I,.nil,h⟩
theorem Zb(ha:PE X e te)(hr:PA X es t)(hs:ao (e::es) X.env=(false,eval e X.env)::ao es X.env:=by rfl):PA X (e::es) (Dm te t):=by
 intro pos pins s σ H Q I h;rw[hs];show ah _ _ (spliced ((false,eval e X.env)::a9 pos (ao es X.env))) _ _ s;refine kf (bw (ha pins s σ H _ I h) λu s1 ⟨x,H1,I1,r1,q1⟩=>?_);exact bw (hr pos pins s1 σ H1 _ I1 q1) λus s2 ⟨xs,H2,I2,r2,q2⟩=>⟨x::xs,H2,I2,.cons r1 r2,q2⟩
noncomputable def Aj(t:TA):TE:=λσ H Q=>t σ H λxs H1=>xs.length<=sizeLine/\∀ p,H1 p=none->Q (.ref p) (upd H1 p (.tup xs))
noncomputable def GI(t:TA):TE:=λσ H Q=>t σ H λxs H1=>xs.length<=sizeLine/\∀ p,H1 p=none->Q (.ref p) (upd H1 p (.lst xs))
theorem Nq{x1}(h:PA X es t):PE X (.Tuple es x1 pos) (Aj t):=by
 intro pins s σ H Q I hq;refine wpAny_Tuple_spliced (bw (h pos pins s σ H _ I hq) λus s1 ⟨xs,H1,I1,r,z,q⟩=>⟨by rw[<- r.length];exact z,?_⟩);have hf:H1 s1.heap.objs.size=none:=I1.aS.fresh (Ub _);refine⟨.ref s1.heap.objs.size,upd H1 s1.heap.objs.size (.tup xs),I1.laid (t':=s1.toks) (λb u e=>wa _ e) (Ub _) ?_,rfl,q _ hf⟩;exact⟨z,us,r,⟨_,xb _ rfl,rfl,_,rfl⟩⟩
theorem xX(h:PA X es t):PE X (.List es pos) (GI t):=by
 intro pins s σ H Q I hq;refine wpAny_List_spliced (bw (h pos pins s σ H _ I hq) λus s1 ⟨xs,H1,I1,r,z,q⟩=>⟨by rw[<- r.length];exact z,?_⟩);have hf:H1 s1.heap.objs.size=none:=I1.aS.fresh (Ub _);refine⟨.ref s1.heap.objs.size,upd H1 s1.heap.objs.size (.lst xs),I1.laid (t':=s1.toks) (λb u e=>wa _ e) (Ub _) ?_,rfl,q _ hf⟩;exact⟨z,us,0,r,xb _ rfl⟩
end
noncomputable abbrev Sp:=List V->Hp->VK->XK->Prop
noncomputable abbrev mG:=List Env->Hp->ag->XK->Value->ag->Prop
structure lh (P:ak) (w:World) (K:Gc) (mg:Str->Option Value) (base:Heap) (A:Around) (outer:List Env) (s:ag) (H:Hp):Prop where
 frames:A.frames=some outer
 mod:Mod K mg base
 bs:∀ b o,base.get? b=some o->s.heap.get? b=some o/\H b=none
 nI:base.objs.size<=s.heap.objs.size
 gw:s.heap.FunFrames base outer
 oS:∀ b∈mr outer,H b=none
 aS:fQ P w H s.heap
 bare:dS s.gens
def CE(outer:List Env)(P:ak)(w:World)(H:Hp)(s:ag)(Q:VK)(u:Value)(s':ag):Prop :=
 ∃ v H',s'.os=s.os/\dS s'.gens/\Un (mr outer) [] H H' s.heap s'.heap/\fQ P w H' s'.heap/\RelV v u/\Q v H'
def CR(CX:mG)(outer:List Env)(P:ak)(w:World)(H:Hp)(s:ag)(Q:VK)(E:XK)(r:hX)(s':ag):Prop :=
 match r with
 |.ok (.ret u)=>CE outer P w H s Q u s'
 |.ok _=>False
 |.error e=>CX outer H s E e s'
structure fF (P:ak) (w:World) (K:Gc) (mg:Str->Option Value) (base:Heap) (CX:mG) (k:Nat) (f:ae) (fd:bu) (ps:List Str) (sp:Sp):Prop where
 len:∀ vs H Q E,sp vs H Q E->vs.length=ps.length
 run:∀(A:Around)(outer:List Env)(s:ag)(H:Hp)(args:Args) (us:List Value) (vs:List V) (Q:VK) (E:XK),df k A->lh P w K mg base A outer s H->gH s fd args (ps.zip us)->Vals vs us->sp vs H Q E ->
  bG (aj P w) A (.call (.ref f) args) (CR CX outer P w H s Q E) s
theorem fF.imp{P:ak}{w:World}{K:Gc}{mg:Str->Option Value}{base:Heap}{CX:mG}{k:Nat}{f:ae}{fd:bu}{ps:List Str}{sp Av:Sp}(F:fF P w K mg base CX k f fd ps sp)
  (h:∀ vs H Q E,Av vs H Q E->sp vs H Q E):fF P w K mg base CX k f fd ps Av :=
 ⟨λvs H Q E q=>F.len vs H Q E (h _ _ _ _ q),λA outer s H args us vs Q E hr he hb hv hs=>F.run A outer s H args us vs Q E hr he hb hv (h _ _ _ _ hs)⟩
theorem lh.make{P:ak}{w:World}{K:Gc}{mg:Str->Option Value}{base:Heap}{A:Around}{outer:List Env}{s:ag}{H:Hp}(e:lh P w K mg base A outer s H)(C:ae)(us:List Value)(kw:List (Str×Value)) :
  lh P w K mg base (A.under (.builtin "type.__call__" ⟨.ref C::us,kw⟩)) outer s H:=⟨by first|exact e.frames|(simpa[Jg,kK.envs,kK.isFrame,pushEnvs] using e.frames),e.mod,e.bs,e.nI,e.gw,e.oS,e.aS,e.bare⟩
section
variable {X:Cx} {pins:List (ae×Obj)} {σ:St} {H:Hp} {s s':ag}
theorem Inv.uQ(I:Inv X pins σ H s):lh X.prog X.w X.K X.mg X.base X.A X.stack s H :=
 ⟨I.ok.frames,I.ok.mod,I.bs,xf I.ok.nI I.sz,I.stack,I.iX,I.aS,I.bare⟩
theorem Inv.after{Q:VK}{u:Value}(I:Inv X pins σ H s)(h:CE X.stack X.prog X.w H s Q u s'):EP X pins σ Q u s':=by
 obtain⟨v,H',os,bare,un,aS,r,q⟩:=h;obtain⟨hh,g,d,t,os'⟩:=s';obtain rfl:os'=s.os:=os;exact⟨v,H',I.call (h':=hh) (g':=g) (d':=d) (t':=t) (ch:=[]) un aS bare (λb z=>absurd z (by simp)),r,q⟩
end
noncomputable def DK(sp:Sp)(dvs:List V)(E:XK)(t:TA):TE:=λσ H Q=>t σ H λvs H1=>sp (vs++dvs) H1 Q E
def Binds(K:Gc)(fd:bu)(ps:List Str)(ds:List Value):Prop :=
 ∀(s:ag)(us:List Value),K.In s.heap->(us++ds).length=ps.length->gH s fd ⟨us,[]⟩ (ps.zip (us++ds))
theorem Binds.all{K:Gc}{fd:bu}{ps:List Str}(h:∀ us:List Value,us.length=ps.length->bindArgs fd ⟨us,[]⟩=pure (ps.zip us)):Binds K fd ps []:=λs us _ hl=>by
 rw[xh] at hl ⊢;exact .of_eq (h us hl)
def Qdd(CX:mG)(X:Cx)(E:XK):Prop:=∀(pins:List (ae×Obj)) (σ:St) (H:Hp) (s:ag) (e:Value) (s':ag),Inv X pins σ H s->CX X.stack H s E e s'->X.xe e s'
section
variable {X:Cx} {CX:mG} {k:Nat} {f C:ae} {fd:bu} {ps:List Str} {sp:Sp} {dvs:List V} {ds:List Value} {E:XK} {x m:Str} {p pos apos:Pos} {e o:Expr} {es:List Expr} {ta:TE} {t:TA}
structure Mk (K:Gc) (C f:ae):Prop where
 makes:Xv K C=true
 init:Wc K (.ref C) "__init__"=some (some (.ref f))
 fn:WC K (.ref f)=true
 kp:vg K (.ref C)=true
end
structure fE (N P:List Str) (sc:az):Prop where
 kind:sc.kind=.function
 co:sc.isCoroutine=false
 gen:sc.isGenerator=false
 nd:N.Nodup
 pre:N.take P.length=P
 par:∀ x∈P,sc.names.lookup x=some .local\/sc.names.lookup x=some .cell
 tE:∀ y∈sc.names,y.2≠.free
theorem MY{kindOf:Str->Option NameKind}{x:Str}:∀{binds:List (Str×Value)} {m:Str->Option Value},(∀ v,(x,v)∉binds)->jQ kindOf binds m x=m x
 |[],_,_=>rfl
 |(n,v)::r,m,h=>by
  unfold jQ;rw[MY λw hw=>h w (Vd _ hw)];split
  ·have:x≠n:=by rintro rfl;exact h v Ug
   simp[this]
  ·rfl
theorem RT{kindOf:Str->Option NameKind}{x:Str}:∀{binds:List (Str×Value)} {m:Str->Option Value},(∀ v,(x,v)∉binds)->jR kindOf binds m x=m x
 |[],_,_=>rfl
 |(n,v)::r,m,h=>by
  unfold jR;rw[RT λw hw=>h w (Vd _ hw)];split
  ·rfl
  ·have:x≠n:=by rintro rfl;exact h v Ug
   simp[this]
theorem NW{kindOf:Str->Option NameKind}{x:Str}{v:Value}:∀{P:List Str}{vs:List Value}{i:Nat}{m:Str->Option Value},P.Nodup->P[i]?=some x->vs[i]?=some v->kindOf x=some .local ->
  jQ kindOf (P.zip vs) m x=some v
 |[],_,_,_,_,h,_,_=>by simp at h
 |_::_,[],_,_,_,_,h,_=>by simp at h
 |p::P,w::vs,0,m,nd,h1,h2,hk=>by
  simp at h1 h2;subst h1;subst h2;show jQ kindOf ((p,w)::P.zip vs) m p=_;unfold jQ;rw[MY λv hv=>(Vh.mp nd).1 (uv hv).1,if_pos hk];simp
 |p::P,w::vs,i+1,m,nd,h1,h2,hk=>by
  show jQ kindOf ((p,w)::P.zip vs) m x=_;unfold jQ;exact NW (i:=i) (Vh.mp nd).2 (by simpa using h1) (by simpa using h2) hk
theorem P4{kindOf:Str->Option NameKind}{x:Str}{v:Value}:∀{P:List Str}{vs:List Value}{i:Nat}{m:Str->Option Value},P.Nodup->P[i]?=some x->vs[i]?=some v->kindOf x≠some .local ->
  jR kindOf (P.zip vs) m x=some v
 |[],_,_,_,_,h,_,_=>by simp at h
 |_::_,[],_,_,_,_,h,_=>by simp at h
 |p::P,w::vs,0,m,nd,h1,h2,hk=>by
  simp at h1 h2;subst h1;subst h2;show jR kindOf ((p,w)::P.zip vs) m p=_;unfold jR;rw[RT λv hv=>(Vh.mp nd).1 (uv hv).1,if_neg hk];simp
 |p::P,w::vs,i+1,m,nd,h1,h2,hk=>by
  show jR kindOf ((p,w)::P.zip vs) m x=_;unfold jR;exact P4 (i:=i) (Vh.mp nd).2 (by simpa using h1) (by simpa using h2) hk
noncomputable def start(N:List Str)(vs:List V):St:=vs.map some++va (N.length-vs.length) none
noncomputable def mM(CX:mG)(P:ak)(w:World)(K:Gc)(mg:Str->Option Value)(base:Heap)(N:List Str)(qual:Str)(scope:az)(f:ae)(cd:Value)(A:Around)(outer:List Env)(s:ag)(H:Hp)(E:XK):Cx where
 prog:=P
 w:=w
 K:=K
 mg:=mg
 base:=base
 A:=A.deeper (dt qual scope s.heap.objs.size f cd)
 N:=N
 s₀:=s
 H₀:=H
 env:=dt qual scope s.heap.objs.size f cd
 outer:=outer
 stack:=dt qual scope s.heap.objs.size f cd::outer
 ex:=[]
 calm:=true
 fn:=λ_=>true
 pn:=[]
 xe:=λe s'=>ah (aj P w) (A.deeper (dt qual scope s.heap.objs.size f cd)) (leaving (dt qual scope s.heap.objs.size f cd) e) (λ_ GY=>CX outer H s E e GY) (λe' GY=>CX outer H s E e' GY) s'
theorem Ro{sc:az}{n:Nat}{x:Str}(h:sc.names.lookup x=some .cell):∃ c,(aE n sc.names []).lookup x=some c:=by
 have q:=Xw sc.names n [] (.inl h);exact Vk.mp q
theorem RK{CX:mG}{P:ak}{w:World}{K:Gc}{mg:Str->Option Value}{base:Heap}{N ps:List Str}{qual:Str}{scope:az}{f:ae}{cd:Value}{A:Around}{outer:List Env}{s s1:ag}{H:Hp}{E:XK}{us:List Value}{vs:List V}
  (S:fE N ps scope) (hd:A.handled=none) (e0:lh P w K mg base A outer s H) (hl:vs.length=ps.length) (r:Vals vs us)
  (x:InCallC s s.heap.objs.size (jQ (dt qual scope s.heap.objs.size f cd).kindOf (ps.zip us) λ_=>none) (aE (s.heap.objs.size+1) scope.names []) (jR (dt qual scope s.heap.objs.size f cd).kindOf (ps.zip us) λ_=>none) s1) :
  Inv (mM CX P w K mg base N qual scope f cd A outer s H E) [] (start N vs) H s1:=by
 have cC:ps.length<=N.length:=by have:=congrArg XD S.pre;rw[Ul] at this;lia
 obtain⟨h1,tk,rfl,hk⟩:=x.done;have Br:∀ b:ae,b∉(mM CX P w K mg base N qual scope f cd A outer s H E).ex:=λb z=>absurd (show b∈([]:List ae) from z) (by simp);refine⟨⟨e0.mod,S.kind,rfl,rfl,Ub _,λy z c h1 h2=>?_,λy hy=>?_,λy c _ h=>?_,λ_=>hd,Around.frames_deeper e0.frames,.inr ⟨rfl,rfl⟩,λb z=>absurd z (Br b),e0.bs,e0.nI,λb _ _=>Br b,λb z=>absurd z (Br b),e0.gw,e0.oS⟩,
  rfl,e0.bare,Un.kept hk,⟨_,x.toInCall.ns,λi y v h1 h2 h3=>?_⟩,λy c h=>⟨_,x.cell y c h⟩,e0.aS.fresh (Ub _),λy c h=>?_,λp hp=>absurd (show p∈([]:List (ae×Obj)) from hp) (by simp),e0.aS.kept hk,?_⟩
 ·exact name_of_addr x.apart (Jc h1) (Jc h2)
 ·have hy:scope.names.lookup y=some .cell\/scope.names.lookup y=some .free:=hy
  rcases hy with hy|hy
  ·exact Ro hy
  ·exact absurd rfl (S.tE _ (Jc hy))
 ·exact wC (x.above y c (Jc h))
 ·have hi:i<vs.length:=by
   unfold start at h2;by_cases hi:i<vs.length
   ·exact hi
   ·rw[Ve (by simpa using hi)] at h2;rw[xr] at h2;split at h2 <;> cases h2
  have ha:vs[i]?=some v:=by
   unfold start at h2;rw[ub (by simpa using hi),Xc] at h2;cases e:vs[i]? with
   |none=>rw[e] at h2;cases h2
   |some a=>rw[e] at h2;cases h2;rfl
  obtain⟨u,hu,rv⟩:=r.get ha;have hp:ps[i]?=some y:=by
   rw[<- S.pre,vq (by lia)];exact h1
  have N9:ps.Nodup:=by rw[<- S.pre];exact S.nd.sublist (List.take_sublist _ _)
  refine⟨u,rv,?_⟩
  rcases S.par y (We hp) with k|k
  ·exact .inl ⟨k,NW N9 hp hu k⟩
  ·obtain⟨c,e⟩:=Ro (n:=s.heap.objs.size+1) k;refine .inr ⟨.inl k,c,e,?_⟩;have q:=x.cell y c e;rw[P4 N9 hp hu (by show scope.names.lookup y≠_;rw[k];decide)] at q;exact q
 ·exact e0.aS.fresh (wC (x.above y c (Jc h)))
 ·unfold start;show _=N.length;rw[ue,wc,vk]
  lia
theorem FF{CX:mG}{P:ak}{w:World}{K:Gc}{mg:Str->Option Value}{base:Heap}{k:Nat}{f:ae}{name qual:Str}{params:Arguments}{body:List Stmt}{scope:az}{dV kV doc pm cU ct oc:Value}{an od:Option ae}
  {lj:Array (Option Value)} {N ps:List Str} {sp:Sp} (lk:K.lookup f=some ⟨oc,od,.func (Xi name qual params body scope dV kV doc pm an cU ct),lj⟩) (lR:Uo K cU qual=true) (S:fE N ps scope)
  (len:∀ vs H Q E,sp vs H Q E->vs.length=ps.length)
  (jH:∀(A:Around)(outer:List Env)(s:ag)(H:Hp)(vs:List V) (Q:VK) (E:XK),df k (A.deeper (dt qual scope s.heap.objs.size f cU))->sp vs H Q E ->
   ∃ t,fj (mM CX P w K mg base N qual scope f cU A outer s H E) body t/\t {nx:=λ_ H'=>Q .bh H',rt:=Q} (start N vs) H) :
  fF P w K mg base CX (k+1) f (Xi name qual params body scope dV kV doc pm an cU ct) ps sp:=by
 refine⟨len,λA outer s H args us vs Q E hr e0 hb r jD=>?_⟩;have hl:=len _ _ _ _ jD;have KX:K.In s.heap:=e0.mod.rY.keeps λb o e=>(e0.bs b o e).1;have lim:s.heap.NoLimit:=e0.mod.nolimit.keeps λb o e=>(e0.bs b o e).1;have nW:∀ y∈ps.zip us,scope.names.lookup y.1=some .local\/(scope.names.lookup y.1=some .cell/\((aE (s.heap.objs.size+1) scope.names []).lookup y.1).isSome=true):=λ⟨n,v⟩ hy=>by
  rcases S.par n (uv hy).1 with q|q
  ·exact .inl q
  ·exact .inr ⟨q,Xw _ _ _ (.inl q)⟩
 refine fP hr.depth (KX _ _ lk) rfl S.co S.gen rfl (VF KX lR) (hb _ _ _ _ ?_);refine dU S.kind nW λenv he s1 x=>?_;subst he;refine⟨lim.keeps x.toInCall.keep,codeAny_func ?_⟩;obtain⟨t,ht,hq⟩:=jH A outer s H vs Q E (hr.deeper _) jD;have I:Inv (mM CX P w K mg base N qual scope f cU A outer s H E) [] (start N vs) H s1:=RK S hr.hd e0 hl r x;refine aU (ht [] s1 (start N vs) H _ I hq) (λfl s' hs=>?_) λe s' hs=>hs;have fin:∀{σ':St}{H':Hp}{v:V}{u:Value},Inv (mM CX P w K mg base N qual scope f cU A outer s H E) [] σ' H' s'->RelV v u->Q v H'->CE outer P w H s Q u s' :=
  λ{σ' H' v u} J rv q=>⟨v,H',J.os,J.bare,J.base,J.aS,rv,q⟩
 cases fl with
 |ret u =>
  obtain⟨v,σ',H',J,rv,q⟩:=hs;exact fin J rv q
 |next =>
  obtain⟨σ',H',J,q⟩:=hs;exact fin (v:=V.bh) (u:=ja) J rfl q
 |brk =>
  obtain⟨_,_,_,q⟩:=hs;exact Hg q
 |cont =>
  obtain⟨_,_,_,q⟩:=hs;exact Hg q
section
variable {X:Cx} {x:Str} {p pos:Pos} {e:Expr} {es:List Expr} {t:TA} {id T:String} {r:List V->Hp->VK->Prop}
noncomputable def M7(r:List V->Hp->VK->Prop)(t:TA):TE:=λσ H Q=>t σ H λvs H1=>r vs H1 Q
theorem Qm(hc:aO X (.builtin id) r)(hg:Gl X x)(hm:X.mg x=none)(hv:bc x=some (.builtin id))(ha:PA X (e::es) t)(hn:x≠"__name__":=by decide)(kS:(x==("__debug__":Str))=false:=by decide)
  (he:ao (e::es) X.env=(false,eval e X.env)::ao es X.env:=by rfl) (cC:(a9 pos (ao es X.env)).any (·.1)=false:=by rfl):PE X (.Call (.Name x p) (e::es) [] pos) (M7 r t):=by
 intro pins s σ H Q I h;refine aV (YY I hg hm hv ?_ hn kS);exact PyProof.Rows.callWith_builtin1 (bw (ha pos pins s σ H _ I h) λus s1 ⟨vs,H1,I1,r1,q1⟩=>hc pins s1 σ H1 vs us Q I1 r1 q1) he cC
theorem Pc(hc:aO X (.type T) r)(hg:Gl X x)(hm:X.mg x=none)(hv:bc x=some (.type T))(ha:PA X (e::es) t)(hn:x≠"__name__":=by decide)(kS:(x==("__debug__":Str))=false:=by decide)
  (he:ao (e::es) X.env=(false,eval e X.env)::ao es X.env:=by rfl) (cC:(a9 pos (ao es X.env)).any (·.1)=false:=by rfl):PE X (.Call (.Name x p) (e::es) [] pos) (M7 r t):=by
 intro pins s σ H Q I h;refine aV (YY I hg hm hv ?_ hn kS);exact kg (bw (ha pos pins s σ H _ I h) λus s1 ⟨vs,H1,I1,r1,q1⟩=>hc pins s1 σ H1 vs us Q I1 r1 q1) he cC
end
end L2
namespace HT
open PySem PyProof.Rows
section
variable {prog:ak} {w:World} {A:Around} {E:Value->ag->Prop} {s:ag}
theorem p9{t b:ae}{vs ws:List Value}{Q:Value->ag->Prop}(ht:gQ s.heap t vs.toArray)(hb:gQ s.heap b ws.toArray)(hv:vs≠[])
  (h1:ws=[]->Q (.ref t) s) (h2:ws≠[]->Q (.ref s.heap.objs.size) {s with heap:=s.heap.push {cls:=.type "tuple",data:=.seq (vs++ws).toArray}})
  (hsz:vs.length+ws.length<=sizeLine):ah (aj prog w) A (a7 .Add (.ref t) (.ref b)) Q E s:=by
 obtain⟨⟨cls,dd,data,sl⟩,ho,hc,n,hd⟩:=id ht;obtain⟨⟨cls2,OI,data2,pA⟩,sf,Oy,n2,hd2⟩:=id hb;simp only at hc hd Oy hd2;subst hc hd Oy hd2;have e:vs.toArray++ws.toArray=(vs++ws).toArray:=by simp
 by_cases hw:ws=[]
 ·exact concat_meets ⟨_,ho,rfl⟩ ⟨_,sf,rfl⟩ iJ j6 ji Ki (Gh _ _)
   (tuple_addW1 t b vs.toArray ws.toArray n n2 dd OI sl pA (by simpa using hv) (by simp[hw])) ⟨ho,sf,h1 hw⟩
 ·refine concat_meets ⟨_,ho,rfl⟩ ⟨_,sf,rfl⟩ iJ j6 ji Ki (Gh _ _)
   (tuple_addW2 t b vs.toArray ws.toArray n n2 dd OI sl pA (by simpa using hv) (by simpa using hw) (by rw[Xa,Xa];exact hsz)) ⟨ho,sf,?_⟩
  rw[e];exact h2 hw
noncomputable def cy(n d:Nat):Option Int->Nat
 |none=>d
 |some v=>if v<0 then(v+(n:Int)).toNat else min v.toNat n
theorem Zc5(n d:Nat)(hd:d<=n)(o:Option Int):cy n d o<=n:=by
 cases o with
 |none=>exact hd
 |some v =>
  show(if v<0 then(v+(n:Int)).toNat else min v.toNat n)<=n;by_cases hv:v<0
  ·rw[if_pos hv];lia
  ·rw[if_neg hv];exact Nat.min_le_right _ _
theorem O3(v:Int)(n d:Nat):(if v<0 then max (v+(n:Int)) 0 else min v (n:Int))=((cy n d (some v):Nat):Int):=by
 show(if v<0 then max (v+(n:Int)) 0 else min v (n:Int))=(((if v<0 then(v+(n:Int)).toNat else min v.toNat n):Nat):Int);by_cases hv:v<0
 ·simp only[if_pos hv];lia
 ·simp only[if_neg hv];lia
theorem QbB(lo hi:Option Int)(n:Nat):Gj lo hi 1 (n:Int)=(((cy n 0 lo:Nat):Int),((cy n n hi:Nat):Int)):=by
 have h1:¬((1:Int)<0):=by lia
 unfold Gj;simp only[h1,if_false];refine vv ?_ ?_
 ·cases lo with
  |none=>rfl
  |some v=>exact O3 v n 0
 ·cases hi with
  |none=>rfl
  |some v=>exact O3 v n n
theorem Ybu(i j:Nat):gj (i:Int) (j:Int) 1=j-i:=by
 unfold gj;have h1:(1:Int)>0:=by lia
 simp only[h1,if_true,Int.ediv_one];split <;> lia
theorem P'{v:Value}{o:Option Int}{Q:Option Int->ag->Prop}(p:fB v o)(h:Q o s):ah (aj prog w) A (Builtin.Slice.slicePartIndex v) Q E s:=by
 cases p with
 |none=>exact jA h
 |int i t=>exact slicePart_int h
theorem qO{sl:ae}{vl vu:Value}{lo hi:Option Int}{n:Nat}{Q:Int×Int×Nat->ag->Prop}(hs:s.heap.IsSliceOf sl vl vu .none)(pl:fB vl lo)(pu:fB vu hi)
  (h:Q (((cy n 0 lo:Nat):Int),1,cy n n hi-cy n 0 lo) s):ah (aj prog w) A (Kk (.ref sl) (pure (n:Int))) Q E s:=by
 obtain⟨os,tT,pQ,Cf⟩:=id hs;unfold Kk Builtin.Slice.sliceFields;refine aa (aa (au tT Cf (x:=vl) rfl (aa (au tT Cf (x:=vu) rfl (aa (au tT Cf (x:=.none) rfl (af ?_)))))));refine aa (jA ?_);show ah _ _ (if((1:Int)==0)=true then _ else _) _ _ s;rw[if_neg (by decide)];refine aa (P' pl (aa (P' pu (aa (af ?_)))));show ah _ _ (match Gj lo hi 1 (n:Int) with|(lo,hi)=>pure (lo,(1:Int),gj lo hi 1)) _ _ s;rw[QbB lo hi n];show ah _ _ (pure (((cy n 0 lo:Nat):Int),(1:Int),gj ((cy n 0 lo:Nat):Int) ((cy n n hi:Nat):Int) 1)) _ _ s;rw[Ybu];exact af h
theorem qco(xs:Array Value)(i k:Nat):((Vb k).filterMap λ(m:Nat)=>xs[((i:Int)+(m:Int)*1).toNat]?).toArray=((xs.toList.drop i).take k).toArray:=by
 have e:(λ(m:Nat)=>xs[((i:Int)+(m:Int)*1).toNat]?)=λm=>xs[i+m]?:=by
  funext m;have:((i:Int)+(m:Int)*1).toNat=i+m:=by lia
  rw[this]
 rw[e];have:=pick_run xs i k;rw[List.filterMap_map] at this;have e2:((λx=>xs[x]?)∘λx=>i+x)=λm=>xs[i+m]?:=rfl;rw[e2] at this;rw[this]
theorem il{t sl:ae}{items:Array Value}{vl vu:Value}{lo hi:Option Int}{Q:Value->ag->Prop}(ht:gQ s.heap t items)(hs:s.heap.IsSliceOf sl vl vu .none)(pl:fB vl lo)(pu:fB vu hi)
  (hw:¬(cy items.size 0 lo=0/\cy items.size items.size hi=items.size))
  (h:Q (.ref s.heap.objs.size) {s with heap:=s.heap.push {cls:=.type "tuple",data:=.seq ((items.toList.drop (cy items.size 0 lo)).take (cy items.size items.size hi-cy items.size 0 lo)).toArray}})
  (hsz:items.size<=sizeLine):ah (aj prog w) A (getItem (.ref t) (.ref sl)) Q E s:=by
 have mP:sizeOk (.seq ((items.toList.drop (cy items.size 0 lo)).take (cy items.size items.size hi-cy items.size 0 lo)).toArray):=by
  show((items.toList.drop (cy items.size 0 lo)).take (cy items.size items.size hi-cy items.size 0 lo)).toArray.size<=sizeLine;rw[Xa,Ul,Wx,uk]
  lia
 have hj:cy items.size items.size hi<=items.size:=Zc5 _ _ (Ub _) hi;obtain⟨os,tT,pQ,Cf⟩:=id hs;have JB:s.TypeIs (.ref sl) "slice":=⟨os,tT,pQ⟩;unfold getItem
 try with_reducible refine av ?_
 first|refine aa (af ?_)|skip
 refine aa (ib ht.typeIs (by decide) ?_);refine aa (aA (name:=jk "__getitem__") ht.typeIs Gf
  (aL Gf ht.typeIs entry_tuple_getitem ?_ (hU _ _)))
 show ah _ _ (Kl (.ref t) >>= _) _ _ s;refine aa (j4 ht ?_);refine aa (bN JB ?_);rw[if_pos (by decide)];refine aa (qO hs pl pu ?_);have hno:¬((((cy items.size 0 lo:Nat):Int)==0&&(1:Int)==1&&(cy items.size items.size hi-cy items.size 0 lo)==items.size)=true):=by
  intro q;rw[Wa,Wa] at q;have q1:((cy items.size 0 lo:Nat):Int)=0:=eq_of_beq q.1.1;have q2:cy items.size items.size hi-cy items.size 0 lo=items.size:=eq_of_beq q.2;exact hw ⟨by lia,by lia⟩
 show ah _ _ (if(((cy items.size 0 lo:Nat):Int)==0&&(1:Int)==1&&(cy items.size items.size hi-cy items.size 0 lo)==items.size)=true then _ else _) _ _ s;rw[if_neg hno,qco]
 first
  |exact aa (m:=Gk _) (aQ (af ⟨_,rfl,af h⟩) mP)
  |exact aa (m:=Gk _) (aQ (aa (af (af ⟨_,rfl,af h⟩))) mP)
  |exact aa (aa (m:=Gk _) (aQ (af (af ⟨_,rfl,af h⟩)) mP))
  |exact aa (aa (m:=Gk _) (aQ (af ⟨_,rfl,af h⟩) mP))
end
end HT
namespace L2
open PySem PySem.Spec PyProof.Rows
noncomputable abbrev TO:=St->Hp->(Option Int->Hp->Prop)->Prop
def PO(X:Cx)(e:Option Expr)(t:TO):Prop :=
 ∀(pins:List (ae×Obj)) (s:ag) (σ:St) (H:Hp) (Q:Option Int->Hp->Prop),Inv X pins σ H s->t σ H Q ->
  ah (aj X.prog X.w) X.A (evalPart e X.env) (λu s'=>∃ o H',Inv X pins σ H' s'/\fB u o/\Q o H') X.xe s
noncomputable def ycC:TO:=λ_ H Q=>Q none H
noncomputable def Al(t:TE):TO:=λσ H Q=>t σ H λx H1=>∃ i,x=.int i/\Q (some i) H1
section
variable {X:Cx} {e:Expr} {te:TE} {lo hi:Option Expr} {tl th:TO} {pos p2:Pos}
theorem qcK:PO X none ycC:=by
 intro pins s σ H Q I h;rw[gP];exact af ⟨none,H,I,.none,h⟩
theorem Mx(h:PE X e te):PO X (some e) (Al te):=by
 intro pins s σ H Q I hw;rw[evalPart_some];refine bw (h pins s σ H _ I hw) λu s1 ⟨x,H1,I1,r1,q1⟩=>?_;obtain⟨i,rfl,q⟩:=q1;obtain⟨t,rfl⟩:=r1;exact⟨some i,H1,I1,.int i t,q⟩
def Fq(X:Cx)(r:V->Option Int->Option Int->Hp->VK->Prop):Prop :=
 ∀(pins:List (ae×Obj)) (s:ag) (σ:St) (H:Hp) (x:V) (v vl vu:Value) (lo hi:Option Int) (sl:ae) (Q:VK),Inv X pins σ H s->RelV x v->s.heap.IsSliceOf sl vl vu .none->fB vl lo->fB vu hi->r x lo hi H Q ->
  ∃ T id,fu (.type T) "__getitem__"=pure (some (.builtin id))/\s.TypeIs v T/\ah (aj X.prog X.w) X.A (getItem v (.ref sl)) (EP X pins σ Q) X.xe s
noncomputable def tSl(r:V->Option Int->Option Int->Hp->VK->Prop)(te:TE)(tl th:TO):TE:=λσ H Q=>te σ H λx H1=>tl σ H1 λl H2=>th σ H2 λu H3=>r x l u H3 Q
theorem Zco{r:V->Option Int->Option Int->Hp->VK->Prop}(hr:Fq X r)(he:PE X e te)(hl:PO X lo tl)(hu:PO X hi th):PE X (.Subscript e (.Slice lo hi none p2) pos) (tSl r te tl th):=by
 intro pins s σ H Q I h;refine jT (bw (he pins s σ H _ I h) λv s1 ⟨x,H1,I1,r1,q1⟩=>?_);refine wpAny_Slice (bw (hl pins s1 σ H1 _ I1 q1) λvl s2 ⟨l,H2,I2,pl,q2⟩=>bw (hu pins s2 σ H2 _ I2 q2) λvu s3 ⟨u,H3,I3,pu,q3⟩=>?_);rw[gP];refine af ?_;have I4:Inv X pins σ H3 {s3 with heap:=s3.heap.push {cls:=.type "slice",data:=.fields #[vl,vu,.none]}}:=I3.kept (t':=s3.toks) λb ob q=>wa _ q;obtain⟨T,id,hT,ht,hg⟩:=hr pins {s3 with heap:=s3.heap.push {cls:=.type "slice",data:=.fields #[vl,vu,.none]}} σ H3 x v vl vu l u s3.heap.objs.size Q I4 r1 (Heap.IsSliceOf.new ..) pl pu q3;show ah (aj X.prog X.w) X.A (gN e (.Slice lo hi none p2) v (.ref s3.heap.objs.size)) (EP X pins σ Q) X.xe {s3 with heap:=s3.heap.push {cls:=.type "slice",data:=.fields #[vl,vu,.none]}};exact tail_any (ops:=[.ref s3.heap.objs.size,v]) ht hT hg (by with_unfolding_all rfl)
noncomputable def rA(xs:List V)(lo hi:Option Int):List V:=(xs.drop (HT.cy xs.length 0 lo)).take (HT.cy xs.length xs.length hi-HT.cy xs.length 0 lo)
theorem MF(xs:List V)(lo hi:Option Int):(rA xs lo hi).length<=xs.length:=by
 unfold rA;rw[Ul,Wx]
 lia
def G5(K:Gc):V->Option Int->Option Int->Hp->VK->Prop:=λx lo hi H Q=>∃ a xs,x=.ref a/\ir K H a xs /\
 ¬(HT.cy xs.length 0 lo=0/\HT.cy xs.length xs.length hi=xs.length)/\∀ p,H p=none->Q (.ref p) (upd H p (.tup (rA xs lo hi)))
theorem QcW:Fq X (G5 X.K):=by
 intro pins s σ H x v vl vu lo hi sl Q I rx hs pl pu h;obtain⟨a,xs,rfl,hx,hw,q⟩:=h;cases rx;obtain⟨aw,r,ht,hz⟩:=I.tuple hx;have hlen:aw.toArray.size=xs.length:=by rw[Xa];exact r.length.symm
 refine⟨"tuple",_,Gf.lookup,ht.typeIs,?_⟩;refine HT.il ht hs pl pu (by rw[hlen];exact hw) ?_ (by rw[hlen];exact hz);rw[hlen];refine⟨.ref s.heap.objs.size,_,I.laid (t':=s.toks) (o:=.tup (rA xs lo hi)) (λb ob q=>wa _ q) (Ub _) ?_,rfl,q _ (I.aS.fresh (Ub _))⟩;exact⟨xf (MF xs lo hi) hz,_,(r.drop (HT.cy xs.length 0 lo)).take (HT.cy xs.length xs.length hi-HT.cy xs.length 0 lo),gQ.new _ _⟩
noncomputable def AQ(K:Gc):R2:=λx y H Q=>∃ a b xs ys,x=.ref a/\y=.ref b/\ir K H a xs/\ir K H b ys/\xs≠[]/\xs.length+ys.length<=sizeLine /\
 (ys=[]->Q (.ref a) H)/\(ys≠[]->∀ p,H p=none->Q (.ref p) (upd H p (.tup (xs++ys))))
theorem Vals.nil_iff{xs:List V}{us:List Value}(r:Vals xs us):us=[]↔xs=[]:=by
 cases r with
 |nil=>simp
 |cons _ _=>simp
theorem QcJ:cY X (a7 .Add) (AQ X.K):=by
 intro pins s σ H x y v u Q I rx ry h;obtain⟨a,b,xs,ys,rfl,rfl,ha,hb,hx,hz,q1,q2⟩:=h;cases rx;cases ry;obtain⟨aw,r1,p1,_⟩:=I.tuple ha;obtain⟨dJ,r2,p2,_⟩:=I.tuple hb;refine HT.p9 p1 p2 (λz=>hx (r1.nil_iff.mp z)) (λz=>⟨.ref a,H,I,rfl,q1 (r2.nil_iff.mp z)⟩) (λz=>?_) (by rw[<- r1.length,<- r2.length];exact hz);refine⟨.ref s.heap.objs.size,_,I.laid (t':=s.toks) (o:=.tup (xs++ys)) (λb ob q=>wa _ q) (Ub _) ?_,rfl,q2 (λw=>z (r2.nil_iff.mpr w)) _ (I.aS.fresh (Ub _))⟩;exact⟨by rw[ue];exact hz,_,r1.append r2,gQ.new _ _⟩
end
noncomputable def r8(n:Nat)(i:Int):Option Nat:=if 0<=i then(if i<n then some i.toNat else none) else if -(n:Int)<=i then some (i+n).toNat else none
noncomputable def oU{α:Type}(xs:List α)(i:Int):Option α:=(r8 xs.length i).bind λj=>xs[j]?
theorem Ry{n:Nat}{i:Int}{j:Nat}(h:r8 n i=some j):gE i n=some j/\j<n/\-(n:Int)<=i/\i<n:=by
 unfold r8 at h;by_cases h0:0<=i
 ·rw[if_pos h0] at h;by_cases h1:i<n
  ·rw[if_pos h1] at h;have e:i.toNat=j:=Kc.inj h;exact⟨by rw[iQ h0 h1,e],by lia,by lia,h1⟩
  ·rw[if_neg h1] at h;cases h
 ·rw[if_neg h0] at h;by_cases h1:-(n:Int)<=i
  ·rw[if_pos h1] at h;have e:(i+n).toNat=j:=Kc.inj h;exact⟨by rw[seqIndex_neg (by lia) h1,e],by lia,h1,by lia⟩
  ·rw[if_neg h1] at h;cases h
theorem PK{α:Type}{xs:List α}{i:Int}{v:α}(h:oU xs i=some v):∃ j,gE i xs.length=some j/\xs[j]?=some v/\j<xs.length/\-(xs.length:Int)<=i/\i<xs.length:=by
 unfold oU at h;cases e:r8 xs.length i with
 |none=>rw[e] at h;cases h
 |some j =>
  rw[e] at h;obtain⟨h1,h2,h3,h4⟩:=Ry e;exact⟨j,h1,h,h2,h3,h4⟩
theorem Rr{α:Type}{xs:List α}{j:Nat}{v:α}(h:xs[j]?=some v):oU xs (j:Int)=some v:=by
 have hj:j<xs.length:=(xa.mp h).1;have e:r8 xs.length (j:Int)=some j:=by
  unfold r8;rw[if_pos (by lia),if_pos (by lia)];simp
 unfold oU;rw[e];exact h
def Rx(b:Expr):Prop:=∀ o i,subscripted b false o i=operate [o,i] (getItem o i)
def xM(X:Cx)(r:R2):Prop :=
 ∀(value slice:Expr)(pins:List (ae×Obj)) (s:ag) (σ:St) (H:Hp) (x y:V) (v u:Value) (Q:VK),Inv X pins σ H s->RelV x v->RelV y u->r x y H Q ->
  subscripted slice false v u=operate [v,u] (getItem v u)->ah (aj X.prog X.w) X.A (gN value slice v u) (EP X pins σ Q) X.xe s
def jZ(X:Cx)(id:String)(r:V->List V->Hp->VK->Prop):Prop :=
 ∀(pins:List (ae×Obj)) (s:ag) (σ:St) (H:Hp) (x:V) (xs:List V) (v:Value) (us:List Value) (Q:VK),Inv X pins σ H s->RelV x v->Vals xs us->r x xs H Q ->
  ah (aj X.prog X.w) X.A (call (.builtin id) (v::us)) (EP X pins σ Q) X.xe s
section
variable {X:Cx} {a b:Expr} {ta tb:TE} {pos:Pos}
theorem Fc{r:R2}(hr:xM X r)(ha:PE X a ta)(hb:PE X b tb)(hs:Rx b):PE X (.Subscript a b pos) (DY r ta tb):=by
 intro pins s σ H Q I h;exact jT (uV ha hb I h λv u s2 x y H2 I2 rx ry q=>hr a b pins s2 σ H2 x y v u Q I2 rx ry q (hs _ _))
noncomputable def AO(K:Gc):R2:=λx y H Q=>∃ p xs i v,x=.ref p/\y=.int i/\fR K H p xs/\oU xs i=some v/\Q v H
noncomputable def Hv(K:Gc):R2:=λx y H Q=>∃ p xs i v,x=.ref p/\y=.int i/\ir K H p xs/\oU xs i=some v/\Q v H
theorem LS:xM X (AO X.K):=by
 intro value slice pins s σ H x y v u Q I rx ry h hs;obtain⟨p,xs,i,z,rfl,rfl,hq,he,q⟩:=h;cases rx;obtain⟨t,rfl⟩:=ry;obtain⟨aw,r,pl,hz⟩:=I.list hq;obtain⟨j,h1,h2,h3,h4,h5⟩:=PK he;obtain⟨w,ew,sY⟩:=r.get h2;have hl:=r.length;have hn:=D';have fin:EP X pins σ Q w s:=⟨z,H,I,sY,q⟩;by_cases h0:0<=i
 ·have hj:i.toNat=j:=by
   rw[iQ h0 h5] at h1;exact Kc.inj h1
  exact item_listR pl.isList h0 (by lia) (by rw[hj];simpa using ew) fin hs
 ·have hj:(i+(aw.toArray.size:Int)).toNat=j:=by
   rw[seqIndex_neg (by lia) h4] at h1;rw[Xa,<- hl];exact Kc.inj h1
  exact fw (x:=w) pl.isList.typeIs slot_list_getitem.lookup
   (wpAny_getItem_list_neg (Q:=λr s'=>r=w/\EP X pins σ Q r s') pl.isList (by lia) (by rw[Xa] <;> lia) (by lia) (by rw[hj];simpa using ew) ⟨rfl,fin⟩) hs
theorem qc3:xM X (Hv X.K):=by
 intro value slice pins s σ H x y v u Q I rx ry h hs;obtain⟨p,xs,i,z,rfl,rfl,hq,he,q⟩:=h;cases rx;obtain⟨t,rfl⟩:=ry;obtain⟨aw,r,pl,hz⟩:=I.tuple hq;obtain⟨j,h1,h2,h3,h4,h5⟩:=PK he;obtain⟨w,ew,sY⟩:=r.get h2;have hl:=r.length;have hn:=D';have fin:EP X pins σ Q w s:=⟨z,H,I,sY,q⟩;exact fw (x:=w) pl.typeIs slot_tuple_getitem.lookup
  (getItem_tuple (j:=j) (Q:=λr s'=>r=w/\EP X pins σ Q r s') pl (by lia) (by lia) (by rw[Xa,<- hl];exact h1) (by simpa using ew) ⟨rfl,fin⟩) hs
theorem qbx(aw:List Value)(n j:Nat)(u:Value):Jl (·.setIfInBounds j u) {cls:=.type "list",data:=.seq aw.toArray n}={cls:=.type "list",data:=.seq (aw.set j u).toArray n}:=by
 simp[Jl]
theorem Inv.lst{pins:List (ae×Obj)}{σ:St}{H:Hp}{s:ag}{p:ae}{xs:List V}(I:Inv X pins σ H s)(h:H p=some (.lst xs)) :
  ∃(aw:List Value)(n:Nat),Vals xs aw/\s.heap.get? p=some {cls:=.type "list",data:=.seq aw.toArray n}/\xs.length<=sizeLine:=by
 obtain⟨z,aw,n,r,e⟩:=I.aS p _ h;exact⟨aw,n,r,e,z⟩
theorem Inv.tG{pins:List (ae×Obj)}{σ:St}{H:Hp}{s:ag}{p:ae}{xs ys:List V}{aw its':List Value}{n n':Nat}{f:Obj->Obj}(I:Inv X pins σ H s)(h:H p=some (.lst xs))
  (ho:s.heap.get? p=some {cls:=.type "list",data:=.seq aw.toArray n}) (hf:f {cls:=.type "list",data:=.seq aw.toArray n}={cls:=.type "list",data:=.seq its'.toArray n'}) (r:Vals ys its') (hz:ys.length<=sizeLine) (t:Nat) :
  Inv X pins σ (upd H p (.lst ys)) {s with heap:=s.heap.update p f,toks:=t}:=by
 have e:(s.heap.update p f).get? p=some {cls:=.type "list",data:=.seq its'.toArray n'}:=by
  rw[xg f ho (by rw[hf] <;> rfl),hf]
 refine I.write (x:=p) (e:=p) (by rw[h];trivial) (.inl rfl) (λb u hb q=>(wg _ _ (Ke hb)).trans q) ⟨_,e⟩ ?_;exact⟨hz,its',n',r,e⟩
def AK:V->V->V->Hp->(Hp->Prop)->Prop:=λo i v H Q=>∃ p xs k j,o=.ref p/\i=.int k/\H p=some (.lst xs)/\r8 xs.length k=some j/\Q (upd H p (.lst (xs.set j v)))
theorem ycb:Dr X AK:=by
 intro pins s σ H o i v ov iv u Q I ro ri rv h;obtain⟨p,xs,k,j,rfl,rfl,hp,hj,q⟩:=h;cases ro;obtain⟨t,rfl⟩:=ri;obtain⟨aw,n,r,ho,hz⟩:=I.lst hp;obtain⟨h1,h2,h3,h4⟩:=Ry hj;have hl:=r.length;have hn:=D';have I':Inv X pins σ (upd H p (.lst (xs.set j v))) {s with heap:=s.heap.update p (Jl (·.setIfInBounds j u))} :=
  I.tG hp ho (qbx aw n j u) (r.set rv j) (by rw[kn];exact hz) s.toks
 by_cases h0:0<=k
 ·have hk:k.toNat=j:=by
   rw[iQ h0 h4] at h1;exact Kc.inj h1
  exact PySem.W.ki_setAt ho h0 (by lia) (by rw[Xa,<- hl];exact h4) (by rw[hk];exact⟨_,I',q⟩)
 ·have hk:(k+(aw.toArray.size:Int)).toNat=j:=by
   rw[seqIndex_neg (by lia) h3] at h1;rw[Xa,<- hl];exact Kc.inj h1
  exact PySem.W.ki_setBack ho (by lia) (by rw[Xa,<- hl];exact h3) (by lia) (by rw[hk];exact⟨_,I',q⟩)
theorem Qa3(lo hi:Option Int)(n:Nat):(cV lo hi none n).1=((HT.cy n 0 lo:Nat):Int)/\(cV lo hi none n).2.1=((HT.cy n n hi:Nat):Int)/\(cV lo hi none n).2.2=1:=by
 refine⟨?_,?_,rfl⟩
 ·cases lo with
  |none=>simp[cV,HT.cy]
  |some i =>
   simp only[cV,HT.cy,vH,show(1:Int)>0 by decide,if_true];by_cases h:i<0
   ·simp only[h,if_true] <;> lia
   ·simp only[h,if_false] <;> lia
 ·cases hi with
  |none=>simp[cV,HT.cy]
  |some i =>
   simp only[cV,HT.cy,vH,show(1:Int)>0 by decide,if_true];by_cases h:i<0
   ·simp only[h,if_true] <;> lia
   ·simp only[h,if_false] <;> lia
theorem QaP(aw:List Value)(lo hi:Option Int):slicePick aw.toArray lo hi none=((aw.drop (HT.cy aw.length 0 lo)).take (HT.cy aw.length aw.length hi-HT.cy aw.length 0 lo)).toArray:=by
 obtain⟨h1,h2,h3⟩:=Qa3 lo hi aw.toArray.size;unfold slicePick;rw[h1,h2,h3];simp only[sliceRange_one,pick_run,Xa] <;> rfl
def G7(K:Gc):V->Option Int->Option Int->Hp->VK->Prop:=λx lo hi H Q=>∃ a xs,x=.ref a/\fR K H a xs/\∀ p,H p=none->Q (.ref p) (upd H p (.lst (rA xs lo hi)))
theorem PL:Fq X (G7 X.K):=by
 intro pins s σ H x v vl vu lo hi sl Q I rx hs pl pu h;obtain⟨a,xs,rfl,hx,q⟩:=h;cases rx;obtain⟨aw,r,ht,hz⟩:=I.list hx;have hlen:=r.length;refine⟨"list",_,slot_list_getitem.lookup,ht.isList.typeIs,?_⟩;refine eS ht.isList hs pl pu .none (by simp) ?_ (by rw[Xa] <;> lia);rw[QaP,<- hlen];refine⟨.ref s.heap.objs.size,_,I.laid (t':=s.toks) (o:=.lst (rA xs lo hi)) (λb ob q=>wa _ q) (Ub _) ?_,rfl,q _ (I.aS.fresh (Ub _))⟩;exact⟨xf (MF xs lo hi) hz,_,0,(r.drop (HT.cy xs.length 0 lo)).take (HT.cy xs.length xs.length hi-HT.cy xs.length 0 lo),xb _ rfl⟩
theorem qa3:aO X (.builtin "len") (λxs H Q=>∃ p ys,xs=[.ref p]/\(fR X.K H p ys\/ir X.K H p ys)/\Q (.int ys.length) H):=by
 intro pins s σ H xs us Q I r h;obtain⟨p,ys,rfl,hq,q⟩:=h;obtain⟨u,rfl,rx⟩:=C8 r;cases rx;have hn:=D'
 rcases hq with hq|hq
 ·obtain⟨aw,r',pl,hz⟩:=I.list hq;have hlen:=r'.length;exact Calls.call_len_list pl.isList (by simp only[Xa] <;> lia) ⟨.int ys.length,H,I.tok _,⟨s.toks+1,by rw[Xa,hlen]⟩,q⟩
 ·obtain⟨aw,r',pl,hz⟩:=I.tuple hq;have hlen:=r'.length;exact len_tuple pl (by simp only[Xa] <;> lia) ⟨.int ys.length,H,I.tok _,⟨s.toks+1,by rw[Xa,hlen]⟩,q⟩
theorem ybb:aO X (.type "list") (λxs H Q=>∃ p ys,xs=[.ref p]/\(fR X.K H p ys\/ir X.K H p ys)/\∀ l,H l=none->Q (.ref l) (upd H l (.lst ys))):=by
 intro pins s σ H xs us Q I r h;obtain⟨p,ys,rfl,hq,q⟩:=h;obtain⟨u,rfl,rx⟩:=C8 r;cases rx;have fin:∀(aw:List Value),Vals ys aw->ys.length<=sizeLine->∀(h':Heap)(c':Nat),(∀ b o',s.heap.get? b=some o'->h'.get? b=some o') ->
   h'.get? s.heap.objs.size=some {cls:=.type "list",dict:=none,data:=.seq aw.toArray c',slots:=#[]}->EP X pins σ Q (.ref s.heap.objs.size) {s with heap:=h'}:=λaw r' hz h' c' kp e =>
  ⟨.ref s.heap.objs.size,_,I.laid (t':=s.toks) kp (Ub _) (show bI X.prog X.w _ h' _ (.lst ys) from⟨hz,aw,c',r',e⟩),rfl,q _ (I.aS.fresh (Ub _))⟩
 rcases hq with hq|hq
 ·obtain⟨aw,r',pl,hz⟩:=I.list hq;have hlen:=r'.length;obtain⟨o,ho,hc,n,hd⟩:=pl.isList;exact kI p (.inl rfl) ho hc hd (λh' c' kp e=>fin aw r' hz h' c' kp e) (by simp only[Xa] <;> lia)
 ·obtain⟨aw,r',pl,hz⟩:=I.tuple hq;have hlen:=r'.length;obtain⟨o,ho,hc,n,hd⟩:=pl;exact kI p (.inr rfl) ho hc hd (λh' c' kp e=>fin aw r' hz h' c' kp e) (by simp only[Xa] <;> lia)
theorem yaS:aO X (.type "tuple") (λxs H Q=>∃ p ys,xs=[.ref p]/\((fR X.K H p ys/\∀ l,H l=none->Q (.ref l) (upd H l (.tup ys)))\/(ir X.K H p ys/\Q (.ref p) H))):=by
 intro pins s σ H xs us Q I r h;obtain(⟨p,ys,rfl,h⟩):=h;obtain(⟨u,rfl,rx⟩):=C8 r;cases rx
 rcases h with ⟨hq,q⟩|⟨hq,q⟩
 ·obtain(⟨aw,r',pl,hz⟩):=I.list hq;have hlen:=r'.length;refine call_tuple_list pl.isList (λh' kp=>?_) (by simp only[Xa] <;> lia);have I1:Inv X pins σ H {s with heap:=h'}:=I.kept (t':=s.toks) kp;have I2:Inv X pins σ (upd H h'.objs.size (.tup ys)) {s with heap:=h'.push {cls:=.type "tuple",data:=.seq aw.toArray}} :=
   I1.laid (t':=s.toks) (λb o e=>wa _ e) (Ub _) (show bI X.prog X.w _ _ _ (.tup ys) from⟨hz,aw,r',gQ.new _ _⟩)
  exact⟨.ref h'.objs.size,_,I2,rfl,q _ (I1.aS.fresh (Ub _))⟩
 ·obtain(⟨aw,r',pl,hz⟩):=I.tuple hq;exact call_tuple_same pl ⟨.ref p,H,I,rfl,q⟩
def DS(K:Gc)(T:String)(x:V)(H:Hp):Prop:=match x with
 |.str _=>T="str"
 |.int _=>T="int"
 |.ref p=>(T="list"/\∃ xs,fR K H p xs)\/(T="tuple"/\∃ o,K.lookup p=some o/\o.cls=.type "tuple"/\o.dict=none) \/
   (T="dict"/\((∃ kvs,H p=some (.dK kvs))\/∃ kvs,H p=some (.dT kvs)))\/(T="set"/\∃ S n,H p=some (.set S n))
 |_=>False
theorem Pq{pins:List (ae×Obj)}{σ:St}{H:Hp}{s:ag}{T:String}{x:V}{v:Value}(I:Inv X pins σ H s)(r:RelV x v)(ty:DS X.K T x H) :
  s.TypeIs v T/\∀ a,v=.ref a->∃ ob,s.heap.get? a=some ob/\ob.dict=none:=by
 cases x with
 |str z =>
  obtain⟨t,rfl⟩:=r;cases(show T="str" from ty);exact⟨typeIs_str s z t,λ_ e=>nomatch e⟩
 |int i =>
  obtain⟨t,rfl⟩:=r;cases(show T="int" from ty);exact⟨jy s i t,λ_ e=>nomatch e⟩
 |ref p =>
  cases r
  rcases ty with ⟨rfl,xs,hq⟩|⟨rfl,o,hk,hc,hd⟩|⟨rfl,hk⟩|⟨rfl,S,n,hk⟩
  ·obtain⟨aw,_,pl,_⟩:=I.list hq;refine⟨pl.isList.typeIs,λa e=>?_⟩;cases e;obtain⟨o,n,e,c,hd,_⟩:=pl;exact⟨o,e,hd⟩
  ·refine⟨⟨o,I.gO p o hk,hc⟩,λa e=>?_⟩;cases e;exact⟨o,I.gO _ o hk,hd⟩
  ·have z:∃ o,s.heap.get? p=some o/\o.ExactDict:=by
    rcases hk with ⟨kvs,hk⟩|⟨kvs,hk⟩
    ·obtain⟨_,_,_,_,o,_,_,e,ex,_⟩:=I.aS p _ hk;exact⟨o,e,ex⟩
    ·obtain⟨_,_,_,_,o,_,_,e,ex,_⟩:=I.aS p _ hk;exact⟨o,e,ex⟩
   obtain⟨o,e,ex⟩:=z;refine⟨⟨o,e,ex.1⟩,λa e2=>?_⟩;cases e2;exact⟨o,e,ex.2.1⟩
  ·obtain⟨o,_,_,_,e,ex,_⟩:=I.aS p _ hk;refine⟨⟨o,e,ex.1⟩,λa e2=>?_⟩;cases e2;exact⟨o,e,ex.2.1⟩
 |_=>exact Hg ty
noncomputable def GN(K:Gc)(T:String)(r:V->List V->Hp->VK->Prop)(to:TE):TE:=λσ H Q=>to σ H λx H1=>DS K T x H1/\r x [] H1 Q
noncomputable def tBM(K:Gc)(T:String)(r:V->List V->Hp->VK->Prop)(to:TE)(t:TA):TE:=λσ H Q=>to σ H λx H1=>DS K T x H1/\t σ H1 λxs H2=>r x xs H2 Q
variable {o e:Expr} {es:List Expr} {to:TE} {t:TA} {name:Str} {apos eU:Pos} {T id:String} {r:V->List V->Hp->VK->Prop}
theorem ZcZ(pa:PlainAttrs T)(slot:Slot T name id)(tO:typeOf (.builtin id)=pure (.type "method_descriptor"))(hm:jZ X id r)(ho:PE X o to)
  (ij:aZ o name X.env (eval o X.env)=eval o X.env:=by rfl) (dg:(apos.endLine==eU.line)=true:=by rfl):PE X (.Call (.Attribute o name apos) [] [] eU) (GN X.K T r to):=by
 intro pins s σ H Q I h;refine wpAny_Call_method0_late ij dg (bw (ho pins s σ H _ I h) λv s1 ⟨x,H1,I1,r1,ty,q1⟩=>?_);obtain⟨h1,h2⟩:=Pq I1 r1 ty;exact⟨T,id,pa,slot,tO,h1,h2,He rfl (PySem.evalArgs_none (hm pins s1 σ H1 x [] v [] Q I1 r1 .nil q1))⟩
theorem A3(pa:PlainAttrs T)(slot:Slot T name id)(tO:typeOf (.builtin id)=pure (.type "method_descriptor"))(hm:jZ X id r)(ho:PE X o to)(ha:PA X (e::es) t)
  (ij:aZ o name X.env (eval o X.env)=eval o X.env:=by rfl)
  (nZ:((a9 eU (ao (e::es) X.env)).all (λx=>!x.1)&&(eI eU (cb [] X.env)).all (λx=>x.1.isSome)
   && decide ((e::es).length+([]:List dA).length+(if([]:List dA).isEmpty then 0 else 1)<30))=true:=by rfl)
  (dg:(apos.endLine==eU.line)=true:=by rfl) (hs:ao (e::es) X.env=(false,eval e X.env)::ao es X.env:=by rfl) (tS:(a9 eU (ao es X.env)).any (·.1)=false:=by rfl) :
  PE X (.Call (.Attribute o name apos) (e::es) [] eU) (tBM X.K T r to t):=by
 intro pins s σ H Q I h;refine wpAny_Call_method_late ij nZ dg rfl (bw (ho pins s σ H _ I h) λv s1 ⟨x,H1,I1,r1,ty,q1⟩=>?_);obtain⟨h1,h2⟩:=Pq I1 r1 ty;refine⟨T,id,pa,slot,tO,h1,h2,?_⟩;have hA:=ha eU pins s1 σ H1 _ I1 q1;rw[hs] at hA ⊢;refine He (by show(false||(a9 eU (ao es X.env)).any (·.1))=false;rw[tS] <;> rfl) (Ge ?_);exact bw hA λus s2 ⟨vs,H2,I2,r2,q2⟩=>hm pins s2 σ H2 x vs v us Q I2 r1 r2 q2
end
def vJ(X:Cx)(id:String)(r:V->List V->Hp->VK->Prop):Prop :=
 ∀(pins:List (ae×Obj)) (s:ag) (σ:St) (H:Hp) (x:V) (xs:List V) (v:Value) (us:List Value) (Q:VK),Inv X pins σ H s->RelV x v->Vals xs us->r x xs H Q ->
  ah (aj X.prog X.w) X.A (call (.builtin id) (v::us)) (EP X pins σ Q) X.xe s
theorem Vals.one:∀{x:V}{us:List Value},Vals [x] us->∃ u,us=[u]/\RelV x u
 |_,_,.cons r .nil=>⟨_,rfl,r⟩
theorem Vals.two:∀{x y:V}{us:List Value},Vals [x,y] us->∃ u v,us=[u,v]/\RelV x u/\RelV y v
 |_,_,_,.cons r (.cons q .nil)=>⟨_,_,rfl,r,q⟩
theorem Vals.zero:∀{us:List Value},Vals [] us->us=[]
 |_,.nil=>rfl
theorem Vals.dropLast{xs:List V}{us:List Value}(h:Vals xs us):Vals xs.dropLast us.dropLast:=by
 induction h with
 |nil=>exact .nil
 |cons r t ih =>
  cases t with
  |nil=>exact .nil
  |cons q t'=>exact .cons r ih
theorem Vals.eraseIdx:∀{xs:List V}{us:List Value}(i:Nat),Vals xs us->Vals (xs.eraseIdx i) (us.eraseIdx i)
 |_,_,_,.nil=>.nil
 |_,_,0,.cons _ t=>t
 |_,_,i+1,.cons r t=>.cons r (Vals.eraseIdx i t)
theorem Vals.reverse{xs:List V}{us:List Value}(h:Vals xs us):Vals xs.reverse us.reverse:=by
 induction h with
 |nil=>exact .nil
 |cons r t ih=>rw[Xp,Xp];exact Vals.append ih (.cons r .nil)
theorem Vals.rep{xs:List V}{us:List Value}(h:Vals xs us):∀ k:Nat,Vals (va k xs).flatten (va k us).flatten
 |0=>.nil
 |k+1=>by
  rw[wo,wo,Vs,Vs];exact Vals.append h (Vals.rep h k)
theorem qbt{α:Type}(l:List α):l.eraseIdx (l.length-1)=l.dropLast:=by
 induction l with
 |nil=>rfl
 |cons a r ih =>
  cases r with
  |nil=>rfl
  |cons b r =>
   have e:(a::b::r).length-1=((b::r).length-1)+1:=by
    have h1:(a::b::r).length=r.length+2:=rfl;have h2:(b::r).length=r.length+1:=rfl
    lia
   rw[e,List.eraseIdx_cons_succ,ih]
   all_goals rfl
theorem N3{α:Type}:∀(l:List α)(i:Nat),(l.eraseIdx i).length<=l.length
 |[],_=>Ub _
 |_::_,0=>vA _
 |_::r,i+1=>Nat.succ_le_succ (N3 r i)
theorem NT(aw:List Value):∀(k:Nat)(acc:List Value),
  UI (λx1 x2=>x1++x2) acc.toArray (va k aw.toArray)=(acc++(va k aw).flatten).toArray
 |0,acc=>by simp
 |k+1,acc=>by
  have e:acc.toArray++aw.toArray=(acc++aw).toArray:=by simp
  have e2:(acc++aw)++(va k aw).flatten=acc++(va (k+1) aw).flatten:=by
   rw[wo,Vs,Vg]
  rw[<- e2,<- NT aw k (acc++aw),<- e,wo,Uk]
section
variable {X:Cx} {pins:List (ae×Obj)} {σ:St} {H:Hp} {s:ag} {l b:ae} {xs ys zs:List V}
theorem Inv.md{aw its':List Value}{n:Nat}{f:Array Value->Array Value}{t':Nat}(I:Inv X pins σ H s)(hH:H l=some (.lst xs))
  (e:s.heap.get? l=some {cls:=.type "list",data:=.seq aw.toArray n}) (hf:f aw.toArray=its'.toArray) (hv:Vals ys its') (hz:ys.length<=sizeLine) :
  Inv X pins σ (upd H l (.lst ys)) {s with heap:=s.heap.update l (Jl f),toks:=t'}:=by
 have q:=PySem.IsL.update e f;rw[hf] at q;refine I.write (x:=l) (e:=l) (by rw[hH];exact trivial) (.inl rfl) (λb' u hb hu=>(wg s.heap (Jl f) (Ke hb)).trans hu) ⟨_,q⟩ ?_;exact⟨hz,its',_,hv,q⟩
theorem Inv.tI{aw:List Value}{t':Nat}(I:Inv X pins σ H s)(hv:Vals ys aw)(hz:ys.length<=sizeLine) :
  Inv X pins σ (upd H s.heap.objs.size (.lst ys)) {s with heap:=s.heap.push {cls:=.type "list",data:=.seq aw.toArray},toks:=t'} :=
 I.laid (λ_ _ q=>wa _ q) (Ub _) ⟨hz,aw,0,hv,xb _ rfl⟩
theorem Inv.fresh(I:Inv X pins σ H s):H s.heap.objs.size=none:=I.aS.fresh (Ub _)
theorem Inv.ky(I:Inv X pins σ H s)(hH:H l=some (.lst xs)):xs.length<=sizeLine/\∃(aw:List Value)(n:Nat),Vals xs aw/\xs.length=aw.length/\s.heap.get? l=some {cls:=.type "list",data:=.seq aw.toArray n}:=by
 obtain⟨z,aw,n,r,e⟩:=I.aS l _ hH;exact⟨z,aw,n,r,r.length,e⟩
theorem K1{n:Nat}(h:n<=sizeLine):Jn n=false:=by
 unfold Jn;exact decide_eq_false (by lia)
end
section
variable {X:Cx}
def ycI:V->List V->Hp->VK->Prop:=λx vs H Q=>∃ l xs y,x=.ref l/\vs=[y]/\H l=some (.lst xs)/\xs.length<sizeLine/\Q .bh (upd H l (.lst (xs++[y])))
theorem zbZ:vJ X "list.append" ycI:=by
 intro pins s σ H x vs v us Q I rx rv h;obtain⟨l,xs,y,rfl,rfl,hH,hz,q⟩:=h;cases rx;obtain⟨u,rfl,ru⟩:=rv.one;obtain⟨z,aw,n,r,hl,e⟩:=I.ky hH;refine cw F.slot_list_append ⟨_,e,rfl⟩ F.entry_list_append (F.args_list_append_2 _ _) (PySem.list_append l aw.toArray n u (by rw[Xa];lia)) ⟨e,?_⟩;refine⟨.bh,_,I.md (its':=aw++[u]) hH e (by simp) (r.append (.cons ru .nil)) ?_,rfl,q⟩;rw[ue,wE]
 lia
def Zcy:V->List V->Hp->VK->Prop:=λx vs H Q=>∃ l b xs zs,x=.ref l/\vs=[.ref b]/\H l=some (.lst xs)/\H b=some (.lst zs)/\xs.length+zs.length<=sizeLine/\Q .bh (upd H l (.lst (xs++zs)))
theorem Zdh:vJ X "list.extend" Zcy:=by
 intro pins s σ H x vs v us Q I rx rv h;obtain⟨l,b,xs,zs,rfl,rfl,hH,hB,hz,q⟩:=h;cases rx;obtain⟨u,rfl,ru⟩:=rv.one;cases ru;obtain⟨z,aw,n,r,hl,e⟩:=I.ky hH;obtain⟨z2,dJ,n2,r2,B',e2⟩:=I.ky hB;have hsz:aw.toArray.size+dJ.toArray.size<=sizeLine:=by rw[Xa,Xa];lia
 have lQ:¬(!aw.toArray.isEmpty&&Jn (aw.toArray.size+dJ.toArray.size))=true:=by
  rw[K1 hsz,Hf];exact Xd
 refine cw Hj ⟨_,e,rfl⟩ jj (Kj _ _)
  (jo l aw.toArray n b dJ.toArray n2 lQ (by rw[Xa];lia) (by lia)) ⟨e,e2,?_⟩
 refine⟨.bh,_,I.md (its':=aw++dJ) hH e (by simp) (r.append r2) ?_,rfl,q⟩;rw[ue]
 lia
def G8:V->List V->Hp->VK->Prop:=λx vs H Q=>∃ l xs y,x=.ref l/\vs=[]/\H l=some (.lst xs)/\xs[xs.length-1]?=some y/\Q y (upd H l (.lst xs.dropLast))
theorem YcV:vJ X "list.pop" G8:=by
 intro pins s σ H x vs v us Q I rx rv h;obtain⟨l,xs,y,rfl,rfl,hH,hy,q⟩:=h;cases rx;have Ik:=rv.zero;subst Ik;obtain⟨z,aw,n,r,hl,e⟩:=I.ky hH;obtain⟨u,hu,ru⟩:=r.get hy;have hy':aw.toArray[aw.toArray.size-1]?=some u:=by
  show aw.toArray[aw.length-1]?=some u;rw[<- Xj,<- hl];exact hu
 refine cw F.slot_list_pop ⟨_,e,rfl⟩ F.entry_list_pop (F.args_list_pop_1 _) (MeetsSeq.list_pop_last l aw.toArray n u hy' (by rw[Xa];lia)) ⟨e,?_⟩;refine⟨y,_,I.md (its':=aw.dropLast) hH e ?_ r.dropLast ?_,ru,q⟩
 ·show aw.toArray.eraseIdxIfInBounds (aw.toArray.size-1)=aw.dropLast.toArray;rw[Xa,Xy,qbt]
 ·rw[List.length_dropLast]
  lia
def Zc7:V->List V->Hp->VK->Prop:=λx vs H Q=>∃ l xs i k y,x=.ref l/\vs=[.int i]/\H l=some (.lst xs)/\-(2^63)<=i/\i<2^63/\gE i xs.length=some k/\xs[k]?=some y/\Q y (upd H l (.lst (xs.eraseIdx k)))
theorem qb9:vJ X "list.pop" Zc7:=by
 intro pins s σ H x vs v us Q I rx rv h;obtain⟨l,xs,i,k,y,rfl,rfl,hH,h1,h2,hk,hy,q⟩:=h;cases rx;obtain⟨u,rfl,ru⟩:=rv.one;obtain⟨t,rfl⟩:=ru;obtain⟨z,aw,n,r,hl,e⟩:=I.ky hH;obtain⟨w,hw,sY⟩:=r.get hy;refine cw F.slot_list_pop ⟨_,e,rfl⟩ F.entry_list_pop (F.args_list_pop_2 _ _)
  (MeetsSeq.list_pop_at l aw.toArray n i t k w (gy h1 h2) (by rw[Xa,<- hl];exact hk) (by rw[<- Xj];exact hw) (by rw[Xa];lia)) ⟨e,?_⟩
 refine⟨y,_,I.md (its':=aw.eraseIdx k) hH e ?_ (r.eraseIdx k) ?_,sY,q⟩
 ·show aw.toArray.eraseIdxIfInBounds k=(aw.eraseIdx k).toArray;rw[Xy]
 ·have:=N3 xs k
  lia
def yci:V->List V->Hp->VK->Prop:=λx vs H Q=>∃ l xs,x=.ref l/\vs=[]/\H l=some (.lst xs)/\Q .bh (upd H l (.lst xs.reverse))
theorem qbF:vJ X "list.reverse" yci:=by
 intro pins s σ H x vs v us Q I rx rv h;obtain⟨l,xs,rfl,rfl,hH,q⟩:=h;cases rx;have Ik:=rv.zero;subst Ik;obtain⟨z,aw,n,r,hl,e⟩:=I.ky hH;refine cw F.slot_list_reverse ⟨_,e,rfl⟩ F.entry_list_reverse (F.args_list_reverse_1 _) (AutoSeq1.list_reverse_list_0 l aw.toArray n (by rw[Xa];lia)) ⟨e,?_⟩;refine⟨.bh,_,I.md (its':=aw.reverse) hH e (by simp) r.reverse ?_,rfl,q⟩;rw[xF]
 lia
noncomputable def Hz:R2:=λx y H Q=>∃ l b xs zs,x=.ref l/\y=.ref b/\H l=some (.lst xs)/\H b=some (.lst zs)/\xs.length+zs.length<=sizeLine/\∀ p,H p=none->Q (.ref p) (upd H p (.lst (xs++zs)))
theorem OQ:cY X (a7 .Add) Hz:=by
 intro pins s σ H x y v u Q I rx ry h;obtain⟨l,b,xs,zs,rfl,rfl,hH,hB,hz,q⟩:=h;cases rx;cases ry;obtain⟨z,aw,n,r,hl,e⟩:=I.ky hH;obtain⟨z2,dJ,n2,r2,B',e2⟩:=I.ky hB;refine PySem.P.add_list e e2 ?_ (by rw[Xa,Xa];lia);have ea:aw.toArray++dJ.toArray=(aw++dJ).toArray:=by simp
 rw[ea];exact⟨.ref _,_,I.tI (t':=s.toks) (r.append r2) (by rw[ue];lia),rfl,q _ I.fresh⟩
theorem zcE{α:Type}(xs:List α)(k:Nat):(va k xs).flatten.length=k*xs.length:=by
 induction k with
 |zero=>simp
 |succ k ih=>rw[wo,Vs,ue,ih,Nat.succ_mul,Nat.add_comm]
end
end L2
namespace R6
open PySem PySem.W PySem.Calls PyProof.Rows
theorem zay{P:mD}{h:Heap}:∀(ns:List Int)(vs:List Value),WellAll P h vs (ns.map WData.int)->i9 vs ns:=by
 intro ns
 induction ns with
 |nil =>
  intro vs w;rw[Xl] at w;cases w;exact .nil
 |cons n ns ih =>
  intro vs w;rw[Va] at w;cases w with
  |cons a b =>
   cases a;exact .cons _ _ (ih _ b)
theorem qbQ{l:OpenLaw}{n:Nat}(hn:l.most=some n){P:mD}{h:Heap}{args:List WData}{vals:List Value}
  (pO:l.row.toRowW.claim.pre args=true) (Ij:WellAll P h vals args) :
  ∃ a vs ns,vals=[Ka a]/\args=[WData.list (ns.map WData.int)]/\h.get? a=some {cls:=.type "list",data:=.seq vs.toArray}/\i9 vs ns/\ns.length<=n:=by
 have hsh:WShape.hasAll [] args [.list .int]=true:=(pre_splitW pO).1;have hc:l.pre.holds [] {args:=args}=true:=(pre_splitW pO).2;obtain⟨d,r,rfl,h1,h2⟩:=hasAllW_cons hsh;obtain rfl:=hasAllW_nil h2;obtain⟨xs,rfl,h3⟩:=hasW_list h1;obtain⟨ns,rfl⟩:=items_int h3;have hlen:ns.length<=n:=by
  unfold OpenLaw.pre at hc;have h4:(WTm.not (.lt (.lit (.int (n:Int))) (.len (.arg 0)))).holds [] {args:=[.list (ns.map .int)]}=true:=by
   have h4:=(holds_andW hc).1;rw[hn] at h4;exact h4
  have h5:=condW_of h4 (w_not (w_lt w_lit (w_len_list (w_arg rfl))));rw[wc] at h5;refine VH λq=>?_;have q':(n:Int)<((ns.length:Nat):Int):=by lia
  first
   |(rw[decide_eq_true q'] at h5;exact absurd h5 (by decide))
   |(simp at h5;lia)
 cases Ij with
 |cons w1 w2 =>
  cases w2;cases w1 with
  |list ho oa=>exact⟨_,_,ns,rfl,rfl,ho,zay ns _ oa,hlen⟩
theorem yb3(l:OpenLaw)(args:List WData):l.row.toRowW.claim.post args (.bool true) args=true :=
 postW_of (r:=l.row.toRowW) (X:=(true==true))
  (show WShape.has [] (.bool true) .bool=true by first|rfl|decide|simp[WShape.has,WShape.arms,WShape.armsAll])
  (show(WTm.eq .res (.lit (.bool true))).value [] {args:=args,res:=some (.bool true),after:=args}=some (.bool (true==true)) from w_eq_bool (w_res rfl) w_lit) rfl
theorem lX{l:OpenLaw}{n:Nat}{q:ak}{loose:List Str}{XP:(Str->Option Value)->Heap->Prop}{YP:World->Heap->Prop}{d:DefRec}
  (hn:l.most=some n) (Ci:d.params.defaults=[])
  (call:∀(w:World)(s₀ s₁:ag)(mg mb:Str->Option Value)(fa:ae)(o:Obj) (pm cd doc:Value) (a:ae) (vs:List Value) (ns:List Int),
   Ground q loose [] XP w s₀ mg mb s₁.heap->YP w s₁.heap ->
   s₁.heap.get? fa=some o->o.data=.func (docDef d.name d.params d.body d.scope pm cd doc)->s₁.heap.CodeRec cd d.name->mg d.name=some (.ref fa) ->
   s₁.heap.get? a=some {cls:=.type "list",data:=.seq vs.toArray}->i9 vs ns->ns.length<=n->s₁.gens=#[] ->
   bG (aj l.prog w) fy (.call (.ref fa) ⟨[.ref a],[]⟩) (λr s'=>r=.ok (.ret (.bool true))/\OldK s₁.heap s'.heap/\s'.os=s₁.os/\dS s'.gens) s₁) :
  WalkO q loose XP YP l.row.toRowW d [] (λf vs=>gc f vs):=by
 intro w s₀ s₁ mg mb G Y fa o pm cd doc dV kV ho hd lR hD B9 hg args vals as pO hlay hrd Ij hlo;obtain rfl:dV=.none:=Dflts.none hD Ci;obtain rfl:kV=.none:=Dflts.noKw hD;obtain⟨a,vs,ns,rfl,rfl,tV,hints,hlen⟩:=qbQ hn pO Ij;refine enter_call (dQ (call w s₀ s₁ mg mb fa o pm cd doc a vs ns G Y ho (fd_plain hd) lR B9 tV hints hlen hg) λr s' hq=>?_);obtain⟨rfl,h2,h3,h4⟩:=hq;exact⟨.inl ⟨.bool true,.bool true,[],rfl,λ_=>rfl,.bool true,yb3 l _,λ_=>⟨List.Pairwise.nil,λ_ hm=>(nomatch hm)⟩⟩,h2,h3,h4⟩
end R6
namespace L2
open PySem PySem.Spec PyProof.Rows
theorem L9:∀{vs:List Value}{ns:List Int},i9 vs ns->Vals (ns.map V.int) vs
 |_,_,.nil=>.nil
 |_,_,.cons n t h=>.cons ⟨t,rfl⟩ (L9 h)
def Dg(H:Hp):Prop:=∀ b,H b=none\/∃ o xs,H b=some (.eO o (.lst xs))
theorem Zcb{P:ak}{w:World}{K:Gc}{mg mb:Str->Option Value}{CX:mG}{k:Nat}{fa a:ae}{fd:bu}{x:Str}{sp:Sp}{s₁:ag}{vs:List Value}{ns:List Int}
  (KX:K.In s₁.heap) (wJ:s₁.heap.Ns aC mg) (hb:s₁.heap.Ns builtinsNs mb) (hbb:∀ x:Str,x≠"__name__"->mb x=bc x) (II:s₁.heap.NoLimit) (hg:s₁.gens=#[])
  (ha:s₁.heap.get? a=some {cls:=.type "list",data:=.seq vs.toArray}) (hi:i9 vs ns) (hl:ns.length<=sizeLine) (hr:df k fy)
  (F:∀ base:Heap,K.In base->base.Ns aC mg->fF P w K mg base CX k fa fd [x] sp) (Ck:∀(s:ag)(u:Value),gH s fd ⟨[u],[]⟩ [(x,u)])
  (jD:∀ H:Hp,Dg H->fR K H a (ns.map V.int)->sp [.ref a] H (λv _=>v=.bl true) λ_ _ _=>False)
  (JD:∀ H e s',CX [] H s₁ (λ_ _ _=>False) e s'->False) :
  bG (aj P w) fy (.call (.ref fa) ⟨[.ref a],[]⟩) (λr s'=>r=.ok (.ret (.bool true))/\OldK s₁.heap s'.heap/\s'.os=s₁.os/\dS s'.gens) s₁:=by
 have rv:=L9 hi;have HW:=hi.length
 -- from an abstract heap in M4 nothing but pf sU may be tracked
 have core:∀ H:Hp,Dg H->fR K H a (ns.map V.int)->fQ P w H s₁.heap->(∀ b,H b≠none->b=a)->(H a≠none->K.lookup a=none) ->
   bG (aj P w) fy (.call (.ref fa) ⟨[.ref a],[]⟩) (λr s'=>r=.ok (.ret (.bool true))/\OldK s₁.heap s'.heap/\s'.os=s₁.os/\dS s'.gens) s₁:=by
  intro H hO hS aS hA hK;have base_of:∀{b:ae}{o:Obj},s₁.heap.get? b=some o->H b=none->(rn s₁.heap H).get? b=some o:=λe n=>zct e n;have Br:∀{b:ae}{o:Obj}{es:Array fc}{ep:Nat},s₁.heap.get? b=some o->o.data=.dict es ep->H b=none:=λ{b o es ep} e d=>by
   cases q:H b with
   |none=>rfl
   |some u =>
    have e':b=a:=hA b (by rw[q];simp);subst e';rw[ha] at e;cases e;have d':Data.seq vs.toArray _=Data.dict es ep:=d;cases d'
  have Em:∀{b:ae}{m:Str->Option Value},s₁.heap.Ns b m->(rn s₁.heap H).Ns b m:=λ{b m} ⟨o,es,ep,e,d,r⟩=>⟨o,es,ep,base_of e (Br e d),d,r⟩;have OA:K.In (rn s₁.heap H):=λb o e=>base_of (KX b o e) (by
   cases q:H b with
   |none=>rfl
   |some u =>
    have e':b=a:=hA b (by rw[q];simp);subst e';rw[hK (by rw[q];simp)] at e;cases e)
  have hM:Mod K mg (rn s₁.heap H):=⟨OA,Em wJ,⟨mb,Em hb,hbb⟩,let ⟨mc,h1,h2⟩:=II;⟨mc,Em h1,h2⟩⟩;have e0:lh P w K mg (rn s₁.heap H) fy [] s₁ H:=⟨rfl,hM,λb o e=>YcE e,Uq (QbT _ _),trivial,λb hb=>absurd (show b∈([]:List ae) from hb) (by simp),aS,.of_eq hg⟩;refine dQ ((F _ OA (Em wJ)).run fy [] s₁ H ⟨[.ref a],[]⟩ [.ref a] [.ref a] _ _ hr e0 (Ck s₁ (.ref a)) (.cons rfl .nil) (jD H hO hS)) λr s' h=>?_;cases r with
  |error e=>exact(JD H e s' h).elim
  |ok fl =>
   cases fl with
   |next=>exact Hg h
   |brk=>exact Hg h
   |cont=>exact Hg h
   |ret u =>
    obtain⟨v,H',os,bare,un,Iz,r',q⟩:=h;have q':v=.bl true:=q;subst q';obtain rfl:u=jb true:=r';refine⟨rfl,OldK.of_keep λb o e=>?_,os,bare⟩;cases q:H b with
    |none=>exact un.keep b o e q (by intro z;exact absurd (show b∈([]:List ae) from z) (by simp)) (by simp)
    |some u =>
     rcases hO b with z|⟨ob,xs,z⟩
     ·rw[q] at z;cases z
     ·have z2:=un.iU b ob _ z;obtain⟨e1,_⟩:=aS b _ z;obtain⟨e2,_⟩:=Iz b _ z2;rw[e] at e1;cases e1;exact e2
 cases hk:K.lookup a with
 |some o =>
  -- pf sU is one of pf Bu own objects
  have e:=KX a o hk;rw[ha] at e;cases e;refine core (λ_=>none) (λ_=>.inl rfl) (.inr ⟨_,vs.toArray,_,hk,rfl,rfl,rfl,by rw[Xa,HW];exact hl,by simpa using rv⟩) (λb u z=>by have z':(none:Option HO)=some u:=z;cases z') (λb z=>absurd rfl z) λz=>absurd rfl z
 |none =>
  refine core (λb=>if b=a then some (.eO {cls:=.type "list",data:=.seq vs.toArray} (.lst (ns.map V.int))) else none) (λb=>?_) (.inl (.inr ⟨{cls:=.type "list",data:=.seq vs.toArray},if_pos rfl⟩)) (λb u z=>?_) (λb z=>?_) λ_=>hk
  ·by_cases hb:b=a
   ·exact .inr ⟨_,_,if_pos hb⟩
   ·exact .inl (if_neg hb)
  ·by_cases hb:b=a
   ·have z':=(if_pos hb).symm.trans z;cases z';subst hb;exact⟨ha,by rw[wc];exact hl,vs,_,rv,ha⟩
   ·have z':=(if_neg hb).symm.trans z;cases z'
  ·by_cases hb:b=a
   ·exact hb
   ·exact absurd (if_neg hb) z
theorem o9{l:jd}{n k:Nat}{q:ak}{loose:List Str}{XP:(Str->Option Value)->Heap->Prop}{YP:World->Heap->Prop}{d:DefRec}{K:mD->Gc}{CX:World->mG}{sp:World->Sp}{x:Str}
  (hn:l.most=some n) (EK:n<=sizeLine) (Ci:d.params.defaults=[]) (hr:df k fy)
  (hY:∀(w:World)(h:Heap),YP w h->(K w.params).In h)
  (F:∀(w:World)(mg:Str->Option Value)(fa:ae)(h:Heap),(K w.params).In h->h.Ns aC mg->mg d.name=some (.ref fa) ->
   ∃ fd:bu,(∀(s:ag)(u:Value),gH s fd ⟨[u],[]⟩ [(x,u)]) /\
    ∀ base:Heap,(K w.params).In base->base.Ns aC mg->fF l.prog w (K w.params) mg base (CX w) k fa fd [x] (sp w))
  (jD:∀(w:World)(H:Hp)(a:ae)(ns:List Int),ns.length<=n->Dg H->fR (K w.params) H a (ns.map V.int)->sp w [.ref a] H (λv _=>v=.bl true) λ_ _ _=>False)
  (JD:∀(w:World)(H:Hp)(s:ag)(e:Value)(s':ag),CX w [] H s (λ_ _ _=>False) e s'->False) :
  ke q loose XP YP l.row.toRowW d [] (λf vs=>gc f vs):=by
 refine R6.lX hn Ci λw s₀ s₁ mg mb fa o pm cd doc a vs ns G Y ho hd lR B9 tV hints hlen hg=>?_;have KX:=hY w _ Y;obtain⟨fd,hb,hF⟩:=F w mg fa _ KX G.T.g B9;exact Zcb KX G.T.g G.T.b G.T.builtins G.T.nolimit hg tV hints (xf hlen EK) hr hF hb (λH hO hS=>jD w H a ns hlen hO hS) λH e s'=>JD w H s₁ e s'
noncomputable def zu(s:Stmt)(j:Nat):Stmt:=match s with
 |.ClassDef _ _ _ body _ _ _ _ _ _ _=>body.getD j (.Pass ⟨0,0,0,0⟩)
 |_=>.Pass ⟨0,0,0,0⟩
noncomputable def Yr(s:Stmt):Arguments:=match s with
 |.FunctionDef _ a _ _ _ _ _ _ _ _=>a
 |_=>{posonlyargs:=[],args:=[],vararg:=none,kwonlyargs:=[],kw_defaults:=[],kwarg:=none,defaults:=[]}
noncomputable def qj(s:Stmt):List Stmt:=match s with
 |.FunctionDef _ _ b _ _ _ _ _ _ _=>b
 |_=>[]
noncomputable def yb(s:Stmt):az:=match s with
 |.FunctionDef _ _ _ _ _ _ sc _ _ _=>sc
 |_=>{kind:=.function,names:=[],isGenerator:=false,isCoroutine:=false}
noncomputable abbrev Lr:mG:=λ_ _ _ _ _ _=>False
noncomputable abbrev E0:XK:=λ_ _ _=>False
structure oZ (K:Gc) (x qual:Str) (st:Stmt) (f:ae) (fd:bu):Prop where
 ex:∃(oc:Value)(od:Option ae)(kV doc pm:Value)(an:Option ae)(cU ct:Value) (lj:Array (Option Value)),
  fd=Xi x qual (Yr st) (qj st) (yb st) .none kV doc pm an cU ct/\K.lookup f=some ⟨oc,od,.func fd,lj⟩/\Uo K cU qual=true
 kp:vg K (.ref f)=true
section
variable {P:ak} {w:World} {K:Gc} {mg:Str->Option Value} {base:Heap}
theorem oZ.binds{x qual:Str}{st:Stmt}{f:ae}{fd:bu}{ps:List Str}(F:oZ K x qual st f fd)
  (h:∀(kV doc pm:Value)(an:Option ae)(cU ct:Value)(us:List Value),us.length=ps.length->bindArgs (Xi x qual (Yr st) (qj st) (yb st) .none kV doc pm an cU ct) ⟨us,[]⟩=pure (ps.zip us)):Binds K fd ps []:=by
 obtain⟨oc,od,kV,doc,pm,an,cU,ct,lj,rfl,lk,lR⟩:=F.ex;exact .all (h kV doc pm an cU ct)
theorem Dz{x qual:Str}{st:Stmt}{f:ae}{oc:Value}{od an:Option ae}{lj:Array (Option Value)}{kV doc pm cU ct:Value}(l:K.lookup f=some ⟨oc,od,.func (Xi x qual (Yr st) (qj st) (yb st) .none kV doc pm an cU ct),lj⟩)
  (c:Uo K cU qual=true) (k:vg K (.ref f)=true):oZ K x qual st f (Xi x qual (Yr st) (qj st) (yb st) .none kV doc pm an cU ct):=⟨⟨oc,od,kV,doc,pm,an,cU,ct,lj,rfl,l,c⟩,k⟩
end
section
variable {X:Cx}
theorem pv(i:Nat){x:Str}{pos:Pos}(hN:X.N[i]?=some x:=by rfl)(hv:Fp X.env.scope x:=by first|exact Or.inl rfl|exact Jo (Or.inl rfl)|exact Jo (Jo rfl))(hd:(x==("__debug__":Str))=false:=by decide)
  (lR:(x==("__classdict__":Str))=false:=by decide):PE X (.Name x pos) (ph i):=Fh hN hv hd lR
end
theorem Ic{A B:Prop}(h:B):if false=true then A else B:=by
 rw[if_neg Xd];exact h
theorem BH{c A B:Prop} [Decidable c] (h1:c->A)(h2:¬ c->B):if c then A else B:=by
 by_cases h:c
 ·rw[if_pos h];exact h1 h
 ·rw[if_neg h];exact h2 h
def iW(H H':Hp):Prop:=∀ b o,H b=some o->H' b=some o
theorem iW.trans{H H1 H2:Hp}(a:iW H H1)(b:iW H1 H2):iW H H2:=λc o h=>b c o (a c o h)
section
variable {κ:Type} [DecidableEq κ]
noncomputable def nJ(kvs:List (κ×V))(k:κ):Option V:=(kvs.find? λkv=>decide (kv.1=k)).map (·.2)
noncomputable def ow(kvs:List (κ×V))(k:κ)(v:V):List (κ×V) :=
 if(kvs.any λkv=>decide (kv.1=k))=true then kvs.map (λkv=>if kv.1=k then(kv.1,v) else kv) else kvs++[(k,v)]
theorem HI{p:κ×V}{r:List (κ×V)}{k:κ}(e:p.1=k):nJ (p::r) k=some p.2:=by simp[nJ,Xr,e]
theorem KJ{p:κ×V}{r:List (κ×V)}{k:κ}(e:¬ p.1=k):nJ (p::r) k=nJ r k:=by simp[nJ,Xr,e]
theorem HL(k:κ):∀ kvs:List (κ×V),(kvs.any λkv=>decide (kv.1=k))=(nJ kvs k).isSome
 |[]=>rfl
 |p::r=>by
  rw[WF];by_cases e:p.1=k
  ·simp only[HI e,decide_eq_true e,Bool.true_or,wG]
  ·rw[KJ e,decide_eq_false e,Bool.false_or];exact HL k r
theorem ybk(kvs:List (κ×V))(k:κ)(v:V):(ow kvs k v).length<=kvs.length+1:=by
 unfold ow;split
 ·rw[wc];lia
 ·rw[ue,Vc,ui];lia
theorem iw.isSome_eq{o:Option V}{u:Option Value}(r:iw o u):o.isSome=u.isSome:=by
 cases o with
 |none=>cases u with
  |none=>rfl
  |some _=>exact(show False from r).elim
 |some _=>cases u with
  |none=>exact(show False from r).elim
  |some _=>rfl
theorem KV.val{kvs:List (κ×V)}{vs:List (κ×Value)}(r:KV kvs vs)(k:κ):iw (nJ kvs k) (ie vs k):=by
 unfold KV at r
 induction r with
 |nil=>exact Kg
 |@cons p q ps qs h t ih =>
  obtain⟨h1,h2⟩:=h;by_cases e:p.1=k
  ·have e':q.1=k:=h1.symm.trans e;have b:ie (q::qs) k=some q.2:=by simp[ie,Xr,e']
   rw[HI e,b];exact h2
  ·have e':¬ q.1=k:=λz=>e (h1.trans z);have b:ie (q::qs) k=ie qs k:=by simp[ie,Xr,e']
   rw[KJ e,b];exact ih
end
theorem Nv{P:ak}{w:World}{k:Key}{u:Value}(r:RelV (kV k) u):(zg P w).is k u=true:=by
 cases k with
 |inl i=>obtain⟨t,e⟩:=(show ∃ t,u=Ga i t from r);subst e;exact zbi P w i t
 |inr x=>obtain⟨t,e⟩:=(show ∃ t,u=Ha x t from r);subst e;exact qbk P w x t
theorem Pd{P:ak}{w:World}:∀{ks:List Key}{us:List Value},Vals (ks.map kV) us->ItemsAre (zg P w) ks us
 |[],_,r=>by rw[Xl] at r;cases r;exact .nil
 |k::ks,_,r=>by
  rw[Va] at r;cases r with
  |cons h t=>exact .cons (Nv h) (Pd t)
abbrev KT(H:Hp):List (List Key×V)->List (List Key×ae×Value)->Prop:=du λp q=>p.1=q.1/\H q.2.1=some (.tup (p.1.map kV))/\RelV p.2 q.2.2
theorem KT.val{H:Hp}{kvs:List (List Key×V)}{xs:List (List Key×ae×Value)}(r:KT H kvs xs)(k:List Key):iw (nJ kvs k) ((jS xs k).map (·.2)):=by
 induction r with
 |nil=>exact Kg
 |@cons p q ps qs h t ih =>
  obtain⟨h1,_,h2⟩:=h;by_cases e:p.1=k
  ·have e':q.1=k:=h1.symm.trans e;have b:jS (q::qs) k=some q.2:=by simp[jS,Xr,e']
   rw[HI e,b];exact h2
  ·have e':¬ q.1=k:=λz=>e (h1.trans z);have b:jS (q::qs) k=jS qs k:=by simp[jS,Xr,e']
   rw[KJ e,b];exact ih
theorem KT.G1{H:Hp}{kvs:List (List Key×V)}{xs:List (List Key×ae×Value)}(r:KT H kvs xs)(k:List Key){y:V}{u:Value}(ry:RelV y u) :
  KT H (kvs.map λkv=>if kv.1=k then(kv.1,y) else kv) (xs.map (putAt k u)):=by
 induction r with
 |nil=>exact .nil
 |@cons p q ps qs h t ih =>
  rw[Va,Va];refine .cons ?_ ih;obtain⟨h1,h2,h3⟩:=h;unfold putAt;by_cases e:p.1=k
  ·rw[if_pos e,if_pos (h1.symm.trans e)];exact⟨h1,h2,ry⟩
  ·rw[if_neg e,if_neg (λz=>e (h1.trans z))];exact⟨h1,h2,h3⟩
theorem KT.put{H:Hp}{kvs:List (List Key×V)}{xs:List (List Key×ae×Value)}(r:KT H kvs xs)(k:List Key){b:ae}{y:V}{u:Value}(hb:H b=some (.tup (k.map kV)))(ry:RelV y u) :
  KT H (ow kvs k y) (cA xs k b u):=by
 have e:(kvs.any λkv=>decide (kv.1=k))=(jS xs k).isSome:=by
  rw[HL,(r.val k).isSome_eq,WH]
 unfold ow cA;rw[e];by_cases q:(jS xs k).isSome=true
 ·rw[if_pos q,if_pos q];exact r.G1 k ry
 ·rw[if_neg q,if_neg q];exact du.snoc r ⟨rfl,hb,ry⟩
theorem KT.keeps{H H':Hp}{kvs:List (List Key×V)}{xs:List (List Key×ae×Value)}(r:KT H kvs xs)(ht:∀ b ys,H b=some (.tup ys)->H' b=some (.tup ys)):KT H' kvs xs :=
 du.tF r λ_ _ z=>⟨z.1,ht _ _ z.2.1,z.2.2⟩
section
variable {P:ak} {w:World} {H:Hp} {h:Heap} {a:ae}
theorem Mn{u:HO}(ok:fQ P w H h)(e:Rd H a u):bI P w H h a u:=e.ok ok
theorem Rk{kvs:List (Key×V)}(ok:fQ P w H h)(e:Rd H a (.dK kvs)):kvs.length<=sizeLine/\(a==bO)=false/\∃ vs,KV kvs vs/\h.DictOf (zg P w) a vs :=
 show bI P w H h a (.dK kvs) from Mn ok e
theorem KU{ks:List Key}(ok:fQ P w H h)(e:H a=some (.tup (ks.map kV))):(aq (zg P w)).is h ks a:=by
 obtain⟨_,aw,r,o,h1,h2,n,h3⟩:=(show bI P w H h a (.tup (ks.map kV)) from ok a _ e);exact⟨o,aw.toArray,n,h1,h2,h3,by simpa using Pd r⟩
theorem xO{kvs:List (List Key×V)}(ok:fQ P w H h)(e:Rd H a (.dT kvs)):kvs.length<=sizeLine/\(a==bO)=false /\
  ∃ xs,KT H kvs xs/\h.DictOfH (aq (zg P w)) a xs:=by
 obtain⟨z,y,xs,r,o,es,ep,h1,h2,h3,h4,h5⟩:=(show bI P w H h a (.dT kvs) from Mn ok e);refine⟨z,y,xs,r,o,es,ep,h1,h2,h3,h4,λx hx=>?_,h5⟩;have all:∀{l:List (List Key×V)} {m:List (List Key×ae×Value)},KT H l m->∀ x∈m,(aq (zg P w)).is h x.1 x.2.1:=by
  intro l m q
  induction q with
  |nil=>intro x hx;exact nomatch hx
  |@cons p q ps qs hq t ih =>
   intro x hx
   rcases Wb.mp hx with e|hx
   ·subst e;exact KU ok (by rw[<- hq.1];exact hq.2.1)
   ·exact ih x hx
 exact all r x hx
theorem LG{kvs:List (List Key×V)}(ok:fQ P w H h)(e:H a=some (.dT kvs)):kvs.length<=sizeLine/\(a==bO)=false /\
  ∃ xs,KT H kvs xs/\h.DictOfH (aq (zg P w)) a xs:=xO ok (.inl e)
end
def Dx(H:Hp)(a:ae)(y:V)(r:Option V):Prop :=
 (∃ kvs k,Rd H a (.dK kvs)/\y=kV k/\r=nJ kvs k)\/∃ kvs k b,Rd H a (.dT kvs)/\y=.ref b/\H b=some (.tup (k.map kV))/\r=nJ kvs k
section
variable {X:Cx} {pins:List (ae×Obj)} {σ:St} {H:Hp} {s:ag} {a:ae} {y v:V} {u r:Value} {o:Option V} {A:Around} {E:Value->ag->Prop}
theorem Inv.big(I:Inv X pins σ H s):bO<s.heap.objs.size:=by
 have h:aC<s.heap.objs.size:=(I.mod.glob.keeps I.bk).lt;exact wt (by decide) h
theorem QcO{Q:Value->ag->Prop}(hu:A.units+1<dn)(I:Inv X pins σ H s)(g:Dx H a y o)(ry:RelV y u)(h:∀ s',Inv X pins σ H s'->Q (.bool (!o.isSome)) s') :
  ah (aj X.prog X.w) A (aM .NotIn u (.ref a)) Q E s:=by
 rcases g with ⟨kvs,k,e,ey,l⟩|⟨kvs,k,b,e,ey,eb,l⟩
 ·subst ey;obtain⟨z,hd,vs,rel,dd⟩:=Rk I.aS e;refine wpAny_notIn_of (Nv ry) hd dd.mapOf ?_;rw[<- (rel.val k).isSome_eq,<- l];exact h _ (I.tok _)
 ·subst ey;cases(show u=Ka b from ry);obtain⟨z,hd,xs,rel,dd⟩:=xO I.aS e;refine wpAny_notIn_heap (dX hu) (KU I.aS eb) hd dd ?_;have q:=(rel.val k).isSome_eq;rw[WH] at q;rw[<- q,<- l];exact h _ (I.tok _)
theorem PQ{h':Heap}{t':Nat}{ob:HO}(I:Inv X pins σ H s)(mu:Ds (H a))(hs:je a s.heap h')(he:∃ q,h'.get? a=some q)(new:bI X.prog X.w (upd H a ob) h' a ob) :
  Inv X pins σ (upd H a ob) {s with heap:=h',toks:=t'} :=
 I.write (x:=a) (e:=a) mu (.inl rfl) (λb q hb z=>(hs.2 b hb).trans z) he new
end
noncomputable def NK(ty td:TE):TE:=λσ H Q=>ty σ H λy H1=>td σ H1 λx H2=>∃ a o,x=.ref a/\Dx H2 a y o/\Q (.bl (!o.isSome)) H2
section
variable {X:Cx} {o i e value:Expr} {pos pos' Gy:Pos} {td ty tv:TE}
theorem MO(hu:X.A.units+1<dn)(hi:PE X i ty)(ho:PE X o td):PC X .NotIn i o (NK ty td):=by
 intro pins s σ H Q I h;refine bw (hi pins s σ H _ I h) λiv s1 ⟨y,H1,I1,ry,q1⟩=>bw (ho pins s1 σ H1 _ I1 q1) λu s2 ⟨x,H2,I2,rx,a,ov,ex,g,q2⟩=>?_;subst ex;obtain rfl:u=Ka a:=rx;exact QcO hu I2 g ry λs3 I3=>⟨.bl (!ov.isSome),H2,I3,rfl,q2⟩
end
theorem LH{P:ak}{w:World}{H:Hp}(h:Heap)(hb:bO<h.objs.size):bI P w H (h.push {cls:=.type "dict",data:=.dict #[]}) h.objs.size (.dT []) :=
 ⟨xl _,beq_eq_false_iff_ne.mpr (Ke (uc hb)),[],.nil,_,#[],0,xb _ rfl,⟨rfl,rfl,rfl⟩,rfl,rfl,Kn⟩
noncomputable def Zc2:TE:=λ_ H Q=>∀ p,H p=none->Q (.ref p) (upd H p (.dT []))
section
variable {X:Cx} {pos:Pos}
theorem ycm:PE X (.Dict [] [] pos) Zc2:=λpins s σ H Q I h =>
 wpAny_Dict_empty ⟨.ref s.heap.objs.size,_,I.laid (a:=s.heap.objs.size) (o:=.dT []) (t':=s.toks) (λ_ _ q=>wa _ q) (Ub _) (LH s.heap I.big),rfl,h _ (I.aS.fresh (Ub _))⟩
end
structure M1 (X:Cx) (o:Expr) (m:Str) (apos:Pos) (e:Expr) (eU:Pos):Prop where
 base:aZ o m X.env (eval o X.env)=eval o X.env
 few:((a9 eU (ao [e] X.env)).all (λx=>!x.1)&&(eI eU (cb [] X.env)).all (λx=>x.1.isSome)
  && decide (([e]:List Expr).length+([]:List dA).length+(if([]:List dA).isEmpty then 0 else 1)<30))=true
 line:(apos.endLine==eU.line)=true
 trees:a9 eU (ao [e] X.env)=[(false,eval e X.env)]
def R3(H:Hp)(a:ae):Prop:=(∃ kvs,Rd H a (.dK kvs))\/∃ kvs,Rd H a (.dT kvs)
theorem zc0{X:Cx}{pins:List (ae×Obj)}{σ:St}{H:Hp}{s:ag}{a:ae}(I:Inv X pins σ H s)(d:R3 H a) :
  s.TypeIs (.ref a) "dict"/\(∀ b,Ka a=.ref b->∃ ob,s.heap.get? b=some ob/\ob.dict=none)/\(a==bO)=false:=by
 rcases d with ⟨kvs,e⟩|⟨kvs,e⟩
 ·obtain⟨_,hd,vs,_,dd⟩:=Rk I.aS e;refine⟨dd.typeIs,λb q=>?_,hd⟩;cases q;obtain⟨ob,_,_,h1,h2,_⟩:=dd;exact⟨ob,h1,h2.2.1⟩
 ·obtain⟨_,hd,xs,_,dd⟩:=xO I.aS e;refine⟨dd.typeIs,λb q=>?_,hd⟩;cases q;obtain⟨ob,_,_,h1,h2,_⟩:=dd;exact⟨ob,h1,h2.2.1⟩
end L2
end
section
namespace M3
open PySem
open Sem (wp)
noncomputable def Zf(env:Env):List (Str×NameKind)->List (Str×ae)->List (Str×ae)
 |[],cs=>cs
 |(n,k)::r,cs=>Zf env r (if(k == .free)=true then(n,(env.cells.lookup n).getD 0)::cs else cs)
theorem P9(env):∀(names:List (Str×NameKind)) (cs:List (Str×ae)),(∀ y∈names,y.2=.free->∃ c,env.cells.lookup y.1=some c) ->
  (forIn names cs λ(y:Str×NameKind)(r:List (Str×ae))=>if(y.2 == .free)=true then do let c<-mw env y.1;pure (Ho ((y.1,c)::r)) else pure (Ho r):Sem (List (Str×ae)))=pure (Zf env names cs)
 |[],cs,_=>rfl
 |(n,k)::r,cs,h=>by
  have ih:=λuT=>P9 env r uT λy hy=>h y (Vd _ hy);rw[Wp];by_cases hk:(k == .free)=true
  ·obtain⟨c,e⟩:=h (n,k) Ug (by simpa using hk);have e':mw env n=pure c:=by unfold mw;rw[e]
   show(if(k == .free)=true then _ else _) >>= _=_;rw[if_pos hk];show(mw env n >>= λc=>_) >>= _=_;rw[e'];show(forIn r ((n,c)::cs) _:Sem _)=_;rw[ih];show _=pure (Zf env r (if(k == .free)=true then(n,(env.cells.lookup n).getD 0)::cs else cs));rw[if_pos hk,e];rfl
  ·show(if(k == .free)=true then _ else _) >>= _=_;rw[if_neg hk];show(forIn r cs _:Sem _)=_;rw[ih];show _=pure (Zf env r (if(k == .free)=true then(n,(env.cells.lookup n).getD 0)::cs else cs));rw[if_neg hk]
theorem HG   (h:∀ y∈scope.names,y.2=.free->∃ c,env.cells.lookup y.1=some c):closureFor scope env=pure (Zf env scope.names []):=by
 have q:=P9 env scope.names [] h;unfold closureFor;have e:∀(t:Sem (List (Str×ae))),t=pure (Zf env scope.names [])->(t >>= λr=>pure r)=pure (Zf env scope.names []):=λt z=>by rw[z];rfl
 refine e _ (Eq.trans ?_ q)
 congr 1
end M3
end
section
namespace M3
open PySem
open Sem (wp)
section
variable {prog:ak} {w:World} {A:Around} {R:hX->ag->Prop} {s:ag}
noncomputable abbrev Nw(ifs:List Expr)(env:Env):Sem Bool:=forIn ifs true λc r=>if r=true then do let ok<-lg c env (eval c env);pure (Ho ok) else pure (Ho r)
theorem YbW       (I:Nat->ag->Prop)
  (turn:∀ n s,I n s->ah (aj prog w) A (bU it) (λr s1=>match r with
   |none=>R (.ok .next) s1
   |some v=>ah (aj prog w) A (cQ target it v) (λ_ s2=>ah (aj prog w) A (dh target env v) (λ_ s3 =>
     ah (aj prog w) A (Nw ifs env) (λok s4=>if ok=true then ah (aj prog w) A (eval elt env) (λx s5 =>
       ah (aj prog w) A (call (.builtin "list.append") [acc,x]) (λ_ s6=>∃ m,m<n/\I m s6) (λ_ _=>False) s5) (λ_ _=>False) s4
      else ∃ m,m<n/\I m s4) (λ_ _=>False) s3) (λ_ _=>False) s2) (λ_ _=>False) s1) (λ_ _=>False) s)
  (n) (h:I n s):bG (aj prog w) A (.compLoop (.ListComp elt [⟨target,iter,ifs,0⟩] scope pos) 0 it acc env) R s:=by
 refine codeAny_loop rfl I (λn s hI=>?_) n h;show ah _ A ((compTurn (.ListComp elt [⟨target,iter,ifs,0⟩] scope pos) 0 it acc env).onRaise (λx=>do iI x env;theTreesLotGoes x)) _ _ s;refine wpAny_noted ?_;rw[compTurn_list];refine aa (dw (aa (aU (turn n s hI) (λr s1 h1=>?_) λ_ _ z=>z.elim)));cases r with
 |none=>exact af h1
 |some v =>
  refine aa (aU h1 (λ_ s2 h2=>?_) λ_ _ z=>z.elim);refine aa (aU h2 (λ_ s3 h3=>aa (aU h3 (λok s4 h4=>?_) λ_ _ z=>z.elim)) λ_ _ z=>z.elim);cases ok with
  |false=>exact af ⟨rfl,h4⟩
  |true =>
   refine aa (aa (aU h4 (λx s5 h5=>?_) λ_ _ z=>z.elim));exact aa (aU h5 (λ_ s6 h6=>af (af ⟨rfl,h6⟩)) λ_ _ z=>z.elim)
end
noncomputable abbrev Qn(C t:ae)(tb:Value):Obj:={cls:=.ref C,data:=.fields #[.ref t,tb,.none,.none,.bool false,.none]}
inductive Tb (h:Heap) (x:ae):Value->Prop where
 |no:Tb h x .none
 |at {T:ae} {o:Obj} {ts:Array Value} (ne:T≠x) (ho:h.get? T=some o) (hd:o.data=.fields ts) (h3:ts[3]?=some .none):Tb h x (.ref T)
structure jV (fs:List ae) (x:ae) (tb:Value) (h h':Heap):Prop where
 keep:∀ b o,b∉fs->b≠x->Ka b≠tb->h.get? b=some o->h'.get? b=some o
 slot:∀ b o,b∈fs->b≠x->Ka b≠tb->h.get? b=some o->∃ sl,h'.get? b=some {o with slots:=sl}
section
variable {M:Model} {A:Around} {E:Value->ag->Prop} {s:ag}
theorem ZT
  (t6:A.frames=some (env::outer)) (hl:s.heap.FunFrames base (env::outer)) (hf:env.frame=some L) (he:s.heap.get? x=some (Qn C t tb0))
  (h:∀ h' T,(∀ b o,b∉(env::outer).filterMap (·.frame)->b≠x->s.heap.get? b=some o->h'.get? b=some o) ->
   (∀ b o,b∈(env::outer).filterMap (·.frame)->s.heap.get? b=some o->∃ sl,h'.get? b=some {o with slots:=sl}) ->
   h'.get? x=some (Qn C t (.ref T))->Tb h' x (.ref T)->s.heap.objs.size<=T->Q () {s with heap:=h'}) :
  ah M A (do let a<-frameOf env;let pl<-entryPlaceOf L had;let b<-EntryCells.newEntry head a .none (a8 L) .none pl;setField (.ref x) 1 b) (λ_ s'=>ah M A (iH (.ref x) none) Q E s') E s:=by
 have hx:x∉(env::outer).filterMap (·.frame):=λhm=>by
  obtain⟨_,o,ho,nf⟩:=hl.mem hm;rw[he] at ho;cases ho;exact nf _ rfl
 refine aa (wpAny_frameOf_fun t6 hl hf λh1 k1=>?_);refine aa (wpAny_entryPlaceOf λpl cC=>?_);unfold EntryCells.newEntry newFields;refine aa (aQ ?_ (cC.sizeOk5 _ _ _ _ _));generalize uK:([head,Ka L,ja,a8 L,ja]++(if pl.isEmpty=true then va 6 ja else pl))=cells;have len:3<cells.length:=by rw[<- uK];simp only[ue,Vc,ui];lia
 have e1:h1.get? x=some (Qn C t tb0):=(k1.2.1 x hx).trans he;have e2:=wa {cls:=.type "traceback",dict:=none,data:=.fields cells.toArray} e1;have neT:x≠h1.objs.size:=uc (Ua e1);refine bJ e2 rfl (by simp) ?_;have e3:=xg (jl (·.setIfInBounds 1 (Ka h1.objs.size))) e2 (Km (Hl rfl _));have e4:((h1.push {cls:=.type "traceback",dict:=none,data:=.fields cells.toArray}).update x (jl (·.setIfInBounds 1 (Ka h1.objs.size)))).get? h1.objs.size=some {cls:=.type "traceback",dict:=none,data:=.fields cells.toArray} :=
  (wg _ _ neT).trans (xb h1 rfl)
 unfold iH;refine aa (au e3 (vs:=#[.ref t,.ref h1.objs.size,.none,.none,.bool false,.none]) (x:=.ref h1.objs.size) rfl rfl ?_);rw[if_pos (show(Ka h1.objs.size != ja)=true from by simp)];refine bJ e4 rfl (by simpa using len) ?_;have e5:=xg (jl (·.setIfInBounds 3 ((none:Option ae).elim ja λf=>a8 f))) e4 (Km (Hl rfl _));have sz:h1.objs.size=s.heap.objs.size:=k1.1;have other:∀ b o,b≠x->h1.get? b=some o->(((h1.push {cls:=.type "traceback",dict:=none,data:=.fields cells.toArray}).update x (jl (·.setIfInBounds 1 (Ka h1.objs.size)))).update h1.objs.size (jl (·.setIfInBounds 3 ((none:Option ae).elim ja λf=>a8 f)))).get? b=some o:=λb o nb eb=>by
  rw[wg _ _ (vh (Ua eb)),wg _ _ (Ke nb)];exact wa _ eb
 refine h _ h1.objs.size (λb o hb nb eb=>other b o nb ((k1.2.1 b hb).trans eb)) (λb o hb eb=>?_) ?_ (.at (Ke neT) e5 (Hl rfl _) ?_) (Uq sz.symm)
 ·obtain⟨sl,q⟩:=k1.2.2 b o eb;exact⟨sl,other b _ (λz=>hx (z ▸ hb)) q⟩
 ·rw[wg _ _ (Ke neT)];exact e3
 ·simp[Array.getElem?_setIfInBounds,len]
theorem ybS
  (t6:A.frames=some (env::outer)) (hl:s.heap.FunFrames base (env::outer)) (hf:env.frame=some L) (he:s.heap.get? x=some (Qn C t tb)) (ht:Tb s.heap x tb)
  (h:∀ h' T,jV ((env::outer).filterMap (·.frame)) x tb s.heap h'->h'.get? x=some (Qn C t (.ref T))->Tb h' x (.ref T)->s.heap.objs.size<=T->Q () {s with heap:=h'}) :
  ah M A (leaving env (.ref x)) Q E s:=by
 unfold leaving iI;simp only[hf];refine aa (aa (au he rfl (x:=tb) rfl ?_));cases ht with
 |no =>
  rw[if_neg (by decide)];exact ZT t6 hl hf he λh' T k1 k2 e1 e2 e3=>h h' T ⟨λb o hb nb _ eb=>k1 b o hb nb eb,λb o hb _ _ eb=>k2 b o hb eb⟩ e1 e2 e3
 |@«at» T o ts ne ho hd h3 =>
  rw[if_pos (show(Ka T != ja)=true from by simp)];refine aa (au ho hd h3 ?_);rw[if_neg (show ¬((ja==a8 L)=true) from by simp[a8])];refine aa (bJ ho hd (xu.mp h3).1 ?_);have other:∀ b,b≠T->(s.heap.update T (jl (·.setIfInBounds 3 ja))).get? b=s.heap.get? b:=λb nb=>wg _ _ (Ke nb);have mZ:∀ b o,s.heap.get? b=some o->(∀ vs,o.data≠.fields vs)->b≠T:=λb o eb nf z=>by
   rw[z,ho] at eb;cases eb;exact nf ts hd
  refine ZT (s:={s with heap:=s.heap.update T (jl (·.setIfInBounds 3 ja))}) t6 (hl.of_keeps λb o eb nf=>⟨o,(other b (mZ b o eb nf)).trans eb,rfl⟩) hf ((other x (Ke ne)).trans he)
   λh' T' k1 k2 e1 e2 e3=>h h' T' ⟨λb o hb nb nt eb=>k1 b o hb nb ((other b λz=>nt (z ▸ rfl)).trans eb),λb o hb _ nt eb=>k2 b o hb ((other b λz=>nt (z ▸ rfl)).trans eb)⟩ e1 e2 ?_
  have CP:(s.heap.update T (jl (·.setIfInBounds 3 ja))).objs.size<=T':=e3;rw[uD] at CP;exact CP
end
end M3
end
section
namespace M3
open PySem
open Sem (wp)
theorem QaN:lU table "proto.unchain"=some Builtin.«proto.unchain»:=iL (by kernel_rfl)
section
variable {prog:ak} {w:World} {A:Around} {E:Value->ag->Prop} {s:ag}
theorem zaT{α:Type}{e h:ae}{oh oe:Obj}{vs es:Array Value}{Q:α->ag->Prop}(hh:A.handled=some (.ref h))(ne:h≠e)(h1:s.heap.get? h=some oh)(h2:oh.data=.fields vs)(h3:vs[2]?=some .none)
  (e1:s.heap.get? e=some oe) (e2:oe.data=.fields es) (e3:2<es.size) (hE:E (.ref e) {s with heap:=s.heap.update e (jl (·.setIfInBounds 2 (.ref h)))}) :
  ah (aj prog w) A (raiseNew (.ref e):Sem α) Q E s:=by
 unfold raiseNew;refine aa (wpAny_handled ?_);rw[hh];have iR:(Ka h != Ka e)=true:=by
  simp only[bne_iff_ne,ne_eq,Ka.injEq];exact ne
 show ah _ _ (if(Ka h != Ka e)=true then _ else _) _ _ s;rw[if_pos iR];refine aa ((av (wpAny_runValue (cR QaN ?_))));show ah _ _ (field (.ref h) 2 >>= _) _ _ s;refine aa (au h1 h2 h3 ?_);show ah _ _ (if(ja==ja)=true then _ else _) _ _ s;rw[if_pos (by decide)];refine aa (af (af ?_));refine aa ?_;show ah _ _ (setField (.ref e) 2 (.ref h)) _ _ s;refine bJ e1 e2 e3 ?_;exact wpAny_throw hE
theorem qaF{r h:ae}{a m k:Int}{oh:Obj}{vs:Array Value}{Q:Option Value->ag->Prop}(hh:A.handled=some (.ref h))(h1:s.heap.get? h=some oh)(h2:oh.data=.fields vs)(h3:vs[2]?=some .none)
  (ri:cx s.heap r a m k) (lo:m<=0) (hQ:∀ h',(∀ b o,s.heap.get? b=some o->h'.get? b=some o)->Q none {s with heap:=h'}):ah (aj prog w) A (bU (.ref r)) Q E s:=by
 have ty:s.TypeIs (.ref r) "range_iterator":=⟨_,ri,rfl⟩;have n1:h≠(s.heap.push {cls:=.type "tuple",data:=.seq ([]:List Value).toArray}).objs.size:=by rw[Xg];exact uc (xn (Ua h1))
 have q0:∀(i:Nat)(v:Value)(B:Around)(F:Value->ag->Prop)(P:Value->ag->Prop),#[a8 a,a8 m,a8 k][i]?=some v->P v s->ah (aj prog w) B (field (.ref r) i) P F s:=λi v B F P e p=>au ri rfl e p;unfold bU;apply aa;apply bT;apply aA (name:=jk "__next__") ty Gi;refine aL Gi ty F.entry_range_iterator_next ?_ (F.args_range_iterator_next_1 _);show ah _ _ (field (.ref r) 0 >>= _) _ _ s;apply aa;apply q0 0 (a8 a) _ _ _ rfl;show ah _ _ (field (.ref r) 1 >>= _) _ _ s;apply aa;apply q0 1 (a8 m) _ _ _ rfl;show ah _ _ (field (.ref r) 2 >>= _) _ _ s;apply aa;apply q0 2 (a8 k) _ _ _ rfl;show ah _ _ (if m<=0 then _ else _) _ _ s;rw[if_pos lo];apply aa;apply bH;apply aa;show ah _ _ (ma (.type "StopIteration") [] >>= _) _ _ _;apply aa;simp only[ma,jC];apply aa;refine aQ ?_ (by size_fits);refine aa (m:=dZ _ _) (iO (a:=ja) (by first|rfl|(unfold dZ;rfl)) (aQ ?_ (by size_fits)));refine zaT (by first|exact hh|(show A.in1.handled=_;exact hh)) n1 (wa _ (wa _ h1)) h2 h3 (xb _ rfl) rfl (by simp;lia) ?_;apply aa;refine cz (T:="StopIteration") (b:=true) ⟨_,xg _ (xb _ rfl) (Km (Hl rfl _)),rfl⟩ gv (af (hQ _ λb o eb=>?_));have lt:b<(s.heap.push {cls:=.type "tuple",data:=.seq ([]:List Value).toArray}).objs.size:=by rw[Xg];exact xn (Ua eb)
 exact(wg _ _ (vh lt)).trans (wa _ (wa _ eb))
end
end M3
end
section
namespace M3
open PySem
open Sem (wp)
section
variable {prog:ak} {w:World} {A:Around} {E:Value->ag->Prop} {s:ag}
theorem zak      (ri:s.heap.IsTupleIter r l i)(hl:s.heap.IsTuple l items)(hx:items[i]?=some x)
  (hQ:∀ h',h'.IsTupleIter r l (i+1)->je r s.heap h'->Q x {s with heap:=h'}):ah (aj prog w) A (Go (.ref r)) Q E s:=by
 obtain⟨o,ho,hc,hd⟩:=id ri;obtain⟨ol,Iy,_,nl,IW⟩:=hl;unfold Go;apply aa;refine aA (name:=jk "__next__") ri.typeIs kh (aL kh ri.typeIs gi ?_ (Hi _));show ah _ _ (field (.ref r) 0 >>= _) _ _ s;apply aa;apply au ho hd (x:=.ref l) rfl;show ah _ _ (if(Ka l==ja)=true then _ else _) _ _ s;rw[if_neg (λz:(Ka l==ja)=true=>absurd z Xd)];show ah _ _ (field (.ref r) 1 >>= _) _ _ s;apply aa;apply au ho hd (x:=.int i 0) rfl;show ah _ _ (seqItems? (.ref l) >>= _) _ _ s;apply aa;apply aR Iy IW;simp only[Xn,hx];apply aa;refine bJ ho hd (by simp) (af ⟨x,rfl,af (hQ _ ⟨_,xg _ ho (Km (Hl hd _)),(Obj.cls_mapFields ..).trans hc,?_⟩ (Jp ..))⟩);rw[Hl hd];simp[a8]
theorem zam     (hh:A.handled=none)(ri:s.heap.IsTupleIter r l i)(hl:s.heap.IsTuple l items)(hx:items[i]?=none)
  (hE:∀ h' e,Heap.ExtBut r s.heap h'->(∃ o,h'.get? e=some o/\o.cls=.type "StopIteration")->E (.ref e) {s with heap:=h'}):ah (aj prog w) A (Go (.ref r)) Q E s:=by
 obtain⟨o,ho,hc,hd⟩:=id ri;obtain⟨ol,Iy,_,nl,IW⟩:=hl;unfold Go;apply aa;refine aA (name:=jk "__next__") ri.typeIs kh (aL kh ri.typeIs gi ?_ (Hi _));show ah _ _ (field (.ref r) 0 >>= _) _ _ s;apply aa;apply au ho hd (x:=.ref l) rfl;show ah _ _ (if(Ka l==ja)=true then _ else _) _ _ s;rw[if_neg (λz:(Ka l==ja)=true=>absurd z Xd)];show ah _ _ (field (.ref r) 1 >>= _) _ _ s;apply aa;apply au ho hd (x:=.int i 0) rfl;show ah _ _ (seqItems? (.ref l) >>= _) _ _ s;apply aa;apply aR Iy IW;simp only[Xn,hx];apply aa;apply bH;apply aa;refine bJ ho hd (by simp) ?_;show ah _ _ (ma (.type "StopIteration") [] >>= _) _ _ _;apply aa;simp only[ma,jC];apply aa;refine aQ ?_ (by size_fits);refine aa (m:=dZ _ _) (iO (a:=ja) (by first|rfl|(unfold dZ;rfl)) (aQ ?_ (by size_fits)));refine wpAny_raiseNew_none (by first|exact hh|(show A.in1.handled=_;exact hh)) (hE _ _ ((((Jp ..).extBut).push _).push _) ⟨_,xb _ rfl,rfl⟩)
theorem zbx(hh:A.handled=none)(r l)(iR:l≠r)(items:Array Value) :
  dq prog w A r [r,l] items.size (λi v=>items[i]?=some v) (λi h=>h.IsTupleIter r l i/\h.IsTuple l items) where
 live:=λ_ _ st=>let ⟨o,ho,_⟩:=st.1;⟨o,ho⟩
 frame:=λ_ _ _ st hk=>let ⟨⟨o,e,c⟩,⟨u,f,d⟩⟩:=st;⟨⟨o,hk r (by simp) o e,c⟩,⟨u,hk l (by simp) u f,d⟩⟩
 item:=λi s Q E hi st hQ=>zak st.1 st.2 (x:=items[i]) (by simp[hi]) λh' a b=>hQ _ h' s.toks (by simp[hi]) ⟨a,let ⟨u,f,d⟩:=st.2;⟨u,b.extBut l u iR f,d⟩⟩ b
 done:=λs Q E st hE=>zam hh st.1 st.2 (by simp) hE
structure mT (z TI TO i1 i2:ae) (jL jK:List ae):Prop where
 Ae:TI≠z
 rF:TO≠z
 sM:TI≠TO
 DX:TI≠i1
 DW:TI≠i2
 z1:z∉jL
 z2:z∉jK
 t1:TO∉jL
 t2:TO∉jK
 m1:i1∈jL
 m2:i2∈jK
 a1:i1∉jK
 a2:i2∉jL
variable {z TI TO i1 i2:ae} {jL jK:List ae} {n1 n2 k:Nat} {P1 P2:Nat->Value->Prop} {S1 S2:Nat->Heap->Prop} {a b:Value}
theorem ZbR{Q:Value->ag->Prop}(Z:mT z TI TO i1 i2 jL jK)(D1:dq prog w A i1 jL n1 P1 S1)(D2:dq prog w A i2 jK n2 P2 S2)(hz:de s.heap z TI TO .none)(hI:aG s.heap TI (.ref i1) (.ref i2))(hO:aG s.heap TO a b)
  (s1:S1 k s.heap) (s2:S2 k s.heap) (k1:k<n1) (k2:k<n2)
  (hQ:∀ x y h' tk,P1 k x->P2 k y->de h' z TI TO (a8 s.heap.objs.size)->aG h' TO x y->S1 (k+1) h'->S2 (k+1) h'->aG h' s.heap.objs.size x y->h'.objs.size=s.heap.objs.size+1 ->
   (∀ c o,c≠z->c≠TO->c≠i1->c≠i2->s.heap.get? c=some o->h'.get? c=some o)->Q (.ref s.heap.objs.size) {s with heap:=h',toks:=tk}) :
  ah (aj prog w) A (Builtin.«zip.__next__» ⟨[.ref z],[]⟩) (λfin s'=>∃ v,fin=.done (.ret v)/\Q v s') E s:=by
 have r6:i1≠z:=λe=>Z.z1 (e ▸ Z.m1);have tM:i2≠z:=λe=>Z.z2 (e ▸ Z.m2);have Ie:i1≠TO:=λe=>Z.t1 (e ▸ Z.m1);have Oh:i2≠TO:=λe=>Z.t2 (e ▸ Z.m2);have i12:i1≠i2:=λe=>Z.a1 (e ▸ Z.m2);show ah _ _ (field (.ref z) 2 >>= _) _ _ _;apply aa;apply au hz rfl (x:=.bool false) rfl;show ah _ _ (field (.ref z) 3 >>= _) _ _ _;apply aa;apply au hz rfl (x:=.ref TI) rfl;apply aa;apply aR hI rfl;show ah _ _ (Kp (.ref z) >>= _) _ _ _;apply aa;unfold Kp;apply aa;apply au hz rfl (x:=.none) rfl;apply af;simp only[if_true];apply aa;apply bH;apply aa;apply au hz rfl (x:=.ref TO) rfl;apply aa;refine aT hz (by simp) λh1 y1 g1=>?_;replace y1:de h1 z TI TO .ellipsis:=y1;apply aa;simp only[wI,Gm,Wp,Xq];apply aa;apply aa;apply dy;show ah _ _ (Go (.ref i1) >>= _) _ _ _;apply aa;refine D1.item k _ _ _ k1 (D1.frame _ _ _ s1 λc hc o e=>g1.extBut c o (λq=>Z.z1 (q ▸ hc)) e) λx h2 t2 px q2 g2=>af ?_;have o2:aG h2 TO a b:=g2.extBut _ _ (Ke Ie) (g1.extBut _ _ Z.rF hO);apply aa;apply aR o2 rfl;apply aa;refine dB o2 λh3 o3 g3=>aa (fU (af ?_));replace o3:aG h3 TO x b:=o3;apply aa;apply aa;apply dy;show ah _ _ (Go (.ref i2) >>= _) _ _ _;apply aa;refine D2.item k _ _ _ k2 (D2.frame _ _ _ s2 λc hc o e=>g3.extBut c o (λq=>Z.t2 (q ▸ hc)) (g2.extBut c o (λq=>Z.a1 (q ▸ hc)) (g1.extBut c o (λq=>Z.z2 (q ▸ hc)) e))) λy h4 t4 py q4 g4=>af ?_;have o4:aG h4 TO x b:=g4.extBut _ _ (Ke Oh) o3;apply aa;apply aR o4 rfl;apply aa;refine dB o4 λh5 o5 g5=>aa (fU (af (af ?_)));replace o5:aG h5 TO x y:=o5;apply aa;apply aR o5 rfl;apply aa;refine fS ?_;have sz:h5.objs.size=s.heap.objs.size:=by rw[g5.1,g4.1,g3.1,g2.1,g1.1]
 have y5:de h5 z TI TO .ellipsis:=g5.extBut _ _ (Ke Z.rF) (g4.extBut _ _ (Ke tM) (g3.extBut _ _ (Ke Z.rF) (g2.extBut _ _ (Ke r6) y1)));have c5:∀ c o,c≠z->c≠TO->c≠i1->c≠i2->s.heap.get? c=some o->h5.get? c=some o:=λc o c1 c2 c3 c4 e=>g5.extBut _ _ c2 (g4.extBut _ _ c4 (g3.extBut _ _ c2 (g2.extBut _ _ c3 (g1.extBut _ _ c1 e))));have r1:S1 (k+1) h5:=D1.frame _ _ _ q2 λc hc o e=>g5.extBut c o (λq=>Z.t1 (q ▸ hc)) (g4.extBut c o (λq=>Z.a2 (q ▸ hc)) (g3.extBut c o (λq=>Z.t1 (q ▸ hc)) e));have r2:S2 (k+1) h5:=D2.frame _ _ _ q4 λc hc o e=>g5.extBut c o (λq=>Z.t2 (q ▸ hc)) e;have lz:z<h5.objs.size:=Ua y5;show ah _ _ (jp (.ref z) (.ref h5.objs.size) >>= _) _ _ _;apply aa;unfold jp;have y6:de (h5.push {cls:=.type "tuple",data:=.seq #[x,y]}) z TI TO .ellipsis:=wa _ y5;apply aa;refine aT y6 (by simp) λh7 y7 g7=>?_;replace y7:de h7 z TI TO (a8 h5.objs.size):=y7;refine aT y7 (by simp) λh8 y8 g8=>?_;replace y8:de h8 z TI TO (a8 h5.objs.size):=y8;have up:∀ c o,c≠z->h5.get? c=some o->h8.get? c=some o:=λc o c1 e=>g8.extBut _ _ c1 (g7.extBut _ _ c1 (wa _ e));have p8:aG h8 h5.objs.size x y:=g8.extBut _ _ (vh lz) (g7.extBut _ _ (vh lz) (xb _ rfl));have n8:h8.objs.size=h5.objs.size+1:=by rw[g8.1,g7.1,Xg]
 rw[sz] at y8 p8 n8;refine af ⟨_,rfl,?_⟩;show Q (.ref h5.objs.size) _;rw[sz];exact hQ x y h8 t4 px py y8 (up _ _ Z.rF o5) (D1.frame _ _ _ r1 λc hc o e=>up c o (λq=>Z.z1 (q ▸ hc)) e) (D2.frame _ _ _ r2 λc hc o e=>up c o (λq=>Z.z2 (q ▸ hc)) e) p8 n8 λc o c1 c2 c3 c4 e=>up c o c1 (c5 c o c1 c2 c3 c4 e)
theorem Ycp  (Z:mT z TI TO i1 i2 jL jK)(D1:dq prog w A i1 jL n1 P1 S1)(D2:dq prog w A i2 jK n2 P2 S2)(hz:de s.heap z TI TO .none)(hI:aG s.heap TI (.ref i1) (.ref i2))(hO:aG s.heap TO a b)
  (s1:S1 k s.heap) (s2:S2 k s.heap) (hk:k=n1\/(k<n1/\k=n2))
  (hE:∀ h' e,(∀ c o,c≠z->c≠TO->c≠i1->c≠i2->s.heap.get? c=some o->h'.get? c=some o)->(∃ o,h'.get? e=some o/\o.cls=.type "StopIteration")->∀ tk,E (.ref e) {s with heap:=h',toks:=tk}) :
  ah (aj prog w) A (Builtin.«zip.__next__» ⟨[.ref z],[]⟩) Q E s:=by
 have r6:i1≠z:=λe=>Z.z1 (e ▸ Z.m1);have tM:i2≠z:=λe=>Z.z2 (e ▸ Z.m2);have Ie:i1≠TO:=λe=>Z.t1 (e ▸ Z.m1);have Oh:i2≠TO:=λe=>Z.t2 (e ▸ Z.m2);show ah _ _ (field (.ref z) 2 >>= _) _ _ _;apply aa;apply au hz rfl (x:=.bool false) rfl;show ah _ _ (field (.ref z) 3 >>= _) _ _ _;apply aa;apply au hz rfl (x:=.ref TI) rfl;apply aa;apply aR hI rfl;show ah _ _ (Kp (.ref z) >>= _) _ _ _;apply aa;unfold Kp;apply aa;apply au hz rfl (x:=.none) rfl;apply af;simp only[if_true];apply aa;apply bH;apply aa;apply au hz rfl (x:=.ref TO) rfl;apply aa;refine aT hz (by simp) λh1 y1 g1=>?_;replace y1:de h1 z TI TO .ellipsis:=y1;apply aa;simp only[wI,Gm,Wp,Xq];apply aa;apply aa;apply dy;show ah _ _ (Go (.ref i1) >>= _) _ _ _;apply aa;have f1:S1 k h1:=D1.frame _ _ _ s1 λc hc o e=>g1.extBut c o (λq=>Z.z1 (q ▸ hc)) e
 rcases hk with hk|⟨k1,hk⟩
 ·refine D1.done _ _ _ (hk ▸ f1) λh2 e g2 he=>?_;obtain⟨oe,e1,e2⟩:=he;have y2:de h2 z TI TO .ellipsis:=g2 _ _ (Ke r6) y1;have ez:e≠z:=λq=>by subst q;rw[y2] at e1;cases e1;simp at e2
  exact aT y2 (by simp) λh3 _ g3=>hE h3 e (λc o c1 _ c3 _ q=>g3.extBut _ _ c1 (g2 _ _ c3 (g1.extBut _ _ c1 q))) ⟨oe,g3.extBut _ _ ez e1,e2⟩ _
 ·refine D1.item k _ _ _ k1 f1 λx h2 t2 px q2 g2=>af ?_;have o2:aG h2 TO a b:=g2.extBut _ _ (Ke Ie) (g1.extBut _ _ Z.rF hO);apply aa;apply aR o2 rfl;apply aa;refine dB o2 λh3 o3 g3=>aa (fU (af ?_));apply aa;apply aa;apply dy;show ah _ _ (Go (.ref i2) >>= _) _ _ _;apply aa;have f2:S2 k h3:=D2.frame _ _ _ s2 λc hc o e=>g3.extBut c o (λq=>Z.t2 (q ▸ hc)) (g2.extBut c o (λq=>Z.a1 (q ▸ hc)) (g1.extBut c o (λq=>Z.z2 (q ▸ hc)) e));refine D2.done _ _ _ (hk ▸ f2) λh4 e g4 he=>?_;obtain⟨oe,e1,e2⟩:=he;have y4:de h4 z TI TO .ellipsis:=g4 _ _ (Ke tM) (g3.extBut _ _ (Ke Z.rF) (g2.extBut _ _ (Ke r6) y1));have ez:e≠z:=λq=>by subst q;rw[y4] at e1;cases e1;simp at e2
  exact aT y4 (by simp) λh5 _ g5=>hE h5 e (λc o c1 c2 c3 c4 q=>g5.extBut _ _ c1 (g4 _ _ c4 (g3.extBut _ _ c2 (g2.extBut _ _ c3 (g1.extBut _ _ c1 q))))) ⟨oe,g5.extBut _ _ ez e1,e2⟩ _
end
end M3
end
section
namespace M3
open PySem
open Sem (wp)
def bY(h:Heap)(tup:Bool)(l:ae)(xs:Array Value):Prop:=if tup=true then h.IsTuple l xs else h.IsList l xs
def cK(h:Heap)(tup:Bool)(r l:ae)(k:Nat):Prop:=if tup=true then h.IsTupleIter r l k else h.IsListIter r l k
noncomputable abbrev fh(tup:Bool)(l:ae):Obj:={cls:=.type (if tup=true then "tuple_iterator" else "list_iterator"),data:=.fields #[.ref l,.int 0 0]}
theorem bY.keeps     (x:bY h tup l xs)(k:∀ o,h.get? l=some o->h'.get? l=some o):bY h' tup l xs:=by
 cases tup with
 |true=>obtain⟨o,e,c⟩:=(show h.IsTuple l xs from x);exact(show h'.IsTuple l xs from⟨o,k o e,c⟩)
 |false=>exact(show h'.IsList l xs from Heap.IsList.at (show h.IsList l xs from x) k)
theorem bY.lt     (x:bY h tup l xs):l<h.objs.size:=by
 cases tup with
 |true=>obtain⟨o,e,c⟩:=(show h.IsTuple l xs from x);exact Ua e
 |false=>obtain⟨o,e,c⟩:=(show h.IsList l xs from x);exact Ua e
theorem cK.keeps     (x:cK h tup r l k)(q:∀ o,h.get? r=some o->h'.get? r=some o):cK h' tup r l k:=by
 cases tup with
 |true=>obtain⟨o,e,c⟩:=(show h.IsTupleIter r l k from x);exact(show h'.IsTupleIter r l k from⟨o,q o e,c⟩)
 |false=>obtain⟨o,e,c⟩:=(show h.IsListIter r l k from x);exact(show h'.IsListIter r l k from⟨o,q o e,c⟩)
theorem cK.new    (e:h.get? r=some (fh tup l)):cK h tup r l 0:=by
 cases tup with
 |true=>exact(show h.IsTupleIter r l 0 from⟨_,e,rfl,rfl⟩)
 |false=>exact(show h.IsListIter r l 0 from⟨_,e,rfl,rfl⟩)
theorem cK.obj     (x:cK h tup r l k):∃ o,h.get? r=some o/\∀ v,o.data≠.cell v:=by
 cases tup with
 |true=>obtain⟨o,e,c,d⟩:=(show h.IsTupleIter r l k from x);exact⟨o,e,λv z=>by rw[d] at z;cases z⟩
 |false=>obtain⟨o,e,c,d⟩:=(show h.IsListIter r l k from x);exact⟨o,e,λv z=>by rw[d] at z;cases z⟩
section
variable {prog:ak} {w:World} {A:Around} {E:Value->ag->Prop} {s:ag}
theorem ZA     (x:bY s.heap tup l xs)(h:Q (.ref s.heap.objs.size) {s with heap:=s.heap.push (fh tup l)}):ah (aj prog w) A (kY (.ref l)) Q E s:=by
 cases tup with
 |true=>exact gU (show s.heap.IsTuple l xs from x) h
 |false=>exact eJ (show s.heap.IsList l xs from x) h
theorem qM(hh:A.handled=none)(tup)(r l)(iR:l≠r)(items:Array Value) :
  dq prog w A r [r,l] items.size (λi v=>items[i]?=some v) (λi h=>cK h tup r l i/\bY h tup l items):=by
 cases tup with
 |true=>exact zbx hh r l iR items
 |false=>exact dq.list hh r l iR items
end
theorem qb2(b1 b2)(l1 l2)(xs ys:Array Value) :
  Meets (Builtin.«zip.__new__» ⟨[.type "zip",.ref l1,.ref l2],[]⟩) (λ_ R s=>bY s.heap b1 l1 xs/\bY s.heap b2 l2 ys /\
   ∀ h5,h5=((((s.heap.push (fh b1 l1)).push (fh b2 l2)).push {cls:=.type "tuple",data:=.seq #[.ref s.heap.objs.size,.ref (s.heap.push (fh b1 l1)).objs.size]}).push {cls:=.type "tuple",data:=.seq #[.none,.none]}).push
    {cls:=.type "zip",data:=.fields #[.none,.bool false,.bool false,.ref ((s.heap.push (fh b1 l1)).push (fh b2 l2)).objs.size,.ref (((s.heap.push (fh b1 l1)).push (fh b2 l2)).push {cls:=.type "tuple",data:=.seq #[.ref s.heap.objs.size,.ref (s.heap.push (fh b1 l1)).objs.size]}).objs.size]} ->
   R (.ok (.ret (.ref ((((s.heap.push (fh b1 l1)).push (fh b2 l2)).push {cls:=.type "tuple",data:=.seq #[.ref s.heap.objs.size,.ref (s.heap.push (fh b1 l1)).objs.size]}).push {cls:=.type "tuple",data:=.seq #[.none,.none]}).objs.size))) {s with heap:=h5}) :=
 .of_wp λprog w A R s h=>by
  obtain⟨hp,g,d,tk,os⟩:=s;obtain⟨x1,x2,h⟩:=h;have hsub:=sub_zip;have y1:bY (ag.heap ⟨hp,g,d,tk,os⟩) b1 l1 xs:=x1;have y2:bY (ag.heap ⟨hp.push (fh b1 l1),g,d,tk,os⟩) b2 l2 ys:=bY.keeps x2 λo e=>wa _ e
  wp_walk using ZA y1,ZA y2
  exact⟨_,rfl,h _ rfl⟩
section
variable {prog:ak} {w:World} {A:Around} {E:Value->ag->Prop} {s:ag}
theorem OX     (x1:bY s.heap b1 l1 xs)(x2:bY s.heap b2 l2 ys)
  (h:∀ h',de h' (s.heap.objs.size+4) (s.heap.objs.size+2) (s.heap.objs.size+3) .none->aG h' (s.heap.objs.size+2) (.ref s.heap.objs.size) (.ref (s.heap.objs.size+1))->aG h' (s.heap.objs.size+3) .none .none ->
   cK h' b1 s.heap.objs.size l1 0->cK h' b2 (s.heap.objs.size+1) l2 0->(∀ c o,s.heap.get? c=some o->h'.get? c=some o)->Q (.ref (s.heap.objs.size+4)) {s with heap:=h'}) :
  ah (aj prog w) A (call (.type "zip") [.ref l1,.ref l2]) Q E s:=by
 refine callType_new F.called_zip (by decide) (F.typeCall_zip_2 _ _) (F.newCall_zip_2 _ _) (λobj=>F.args_object_init_3 obj _ _) F.entry_zip_new (qb2 b1 b2 l1 l2 xs ys) ⟨x1,x2,λh5 e5=>?_⟩;have n1:(s.heap.push (fh b1 l1)).objs.size=s.heap.objs.size+1:=Xg ..;have n2:((s.heap.push (fh b1 l1)).push (fh b2 l2)).objs.size=s.heap.objs.size+2:=by rw[Xg,n1]
 have n3:(((s.heap.push (fh b1 l1)).push (fh b2 l2)).push {cls:=.type "tuple",data:=.seq #[.ref s.heap.objs.size,.ref (s.heap.push (fh b1 l1)).objs.size]}).objs.size=s.heap.objs.size+3:=by rw[Xg,n2]
 have n4:((((s.heap.push (fh b1 l1)).push (fh b2 l2)).push {cls:=.type "tuple",data:=.seq #[.ref s.heap.objs.size,.ref (s.heap.push (fh b1 l1)).objs.size]}).push {cls:=.type "tuple",data:=.seq #[.none,.none]}).objs.size=s.heap.objs.size+4:=by rw[Xg,n3]
 have q5:de h5 ((((s.heap.push (fh b1 l1)).push (fh b2 l2)).push {cls:=.type "tuple",data:=.seq #[.ref s.heap.objs.size,.ref (s.heap.push (fh b1 l1)).objs.size]}).push {cls:=.type "tuple",data:=.seq #[.none,.none]}).objs.size ((s.heap.push (fh b1 l1)).push (fh b2 l2)).objs.size (((s.heap.push (fh b1 l1)).push (fh b2 l2)).push {cls:=.type "tuple",data:=.seq #[.ref s.heap.objs.size,.ref (s.heap.push (fh b1 l1)).objs.size]}).objs.size .none:=by rw[e5];exact xb _ rfl
 have q4:aG h5 (((s.heap.push (fh b1 l1)).push (fh b2 l2)).push {cls:=.type "tuple",data:=.seq #[.ref s.heap.objs.size,.ref (s.heap.push (fh b1 l1)).objs.size]}).objs.size .none .none:=by rw[e5];exact wa _ (xb _ rfl)
 have q3:aG h5 ((s.heap.push (fh b1 l1)).push (fh b2 l2)).objs.size (.ref s.heap.objs.size) (.ref (s.heap.push (fh b1 l1)).objs.size):=by rw[e5];exact wa _ (wa _ (xb _ rfl))
 have q2:h5.get? (s.heap.push (fh b1 l1)).objs.size=some (fh b2 l2):=by rw[e5];exact wa _ (wa _ (wa _ (xb _ rfl)))
 have q1:h5.get? s.heap.objs.size=some (fh b1 l1):=by rw[e5];exact wa _ (wa _ (wa _ (wa _ (xb _ rfl))))
 show _/\_;rw[n2,n3,n4] at q5;rw[n2,n1] at q3;rw[n3] at q4;rw[n1] at q2;rw[n4];exact⟨⟨_,q5,rfl⟩,h _ q5 q3 q4 (.new q1) (.new q2) λc o e=>by rw[e5];exact wa _ (wa _ (wa _ (wa _ (wa _ e))))⟩
variable {z TI TO i1 i2:ae} {jL jK:List ae} {n1 n2 k:Nat} {P1 P2:Nat->Value->Prop} {S1 S2:Nat->Heap->Prop} {a b:Value}
theorem zU  (Z:mT z TI TO i1 i2 jL jK)(D1:dq prog w A.in1 i1 jL n1 P1 S1)(D2:dq prog w A.in1 i2 jK n2 P2 S2)(hz:de s.heap z TI TO .none)(hI:aG s.heap TI (.ref i1) (.ref i2))(hO:aG s.heap TO a b)
  (s1:S1 k s.heap) (s2:S2 k s.heap) (k1:k<n1) (k2:k<n2)
  (hQ:∀ x y h' tk,P1 k x->P2 k y->de h' z TI TO (a8 s.heap.objs.size)->aG h' TO x y->S1 (k+1) h'->S2 (k+1) h'->aG h' s.heap.objs.size x y->h'.objs.size=s.heap.objs.size+1 ->
   (∀ c o,c≠z->c≠TO->c≠i1->c≠i2->s.heap.get? c=some o->h'.get? c=some o)->Q (some (.ref s.heap.objs.size)) {s with heap:=h',toks:=tk}) :
  ah (aj prog w) A (bU (.ref z)) Q E s:=by
 have ty:s.TypeIs (.ref z) "zip":=⟨_,hz,rfl⟩;unfold bU;refine aa (bT (aA (name:=jk "__next__") ty gg (aL gg ty Hh ?_ (Jh _))));exact ZbR Z D1 D2 hz hI hO s1 s2 k1 k2 λx y h' tk p1 p2 e1 e2 e3 e4 e5 e6 e7=>af (hQ x y h' tk p1 p2 e1 e2 e3 e4 e5 e6 e7)
theorem YX  (Z:mT z TI TO i1 i2 jL jK)(D1:dq prog w A.in1 i1 jL n1 P1 S1)(D2:dq prog w A.in1 i2 jK n2 P2 S2)(hz:de s.heap z TI TO .none)(hI:aG s.heap TI (.ref i1) (.ref i2))(hO:aG s.heap TO a b)
  (s1:S1 k s.heap) (s2:S2 k s.heap) (hk:k=n1\/(k<n1/\k=n2))
  (hQ:∀ h' tk,(∀ c o,c≠z->c≠TO->c≠i1->c≠i2->s.heap.get? c=some o->h'.get? c=some o)->Q none {s with heap:=h',toks:=tk}) :
  ah (aj prog w) A (bU (.ref z)) Q E s:=by
 have ty:s.TypeIs (.ref z) "zip":=⟨_,hz,rfl⟩;unfold bU;refine aa (bT (aA (name:=jk "__next__") ty gg (aL gg ty Hh ?_ (Jh _))));refine Ycp Z D1 D2 hz hI hO s1 s2 hk λh' e kk ho tk=>?_;obtain⟨o,e1,e2⟩:=ho;exact aa (cz (T:="StopIteration") (b:=true) ⟨o,e1,e2⟩ gv (af (hQ h' tk kk)))
end
end M3
end
section
namespace L3
open PySem PySem.Spec PyProof.Rows L2 M3
section
variable {X:Cx} {pins:List (ae×Obj)} {σ:L2.St} {H:Hp} {s:ag}
theorem qbV      (ok:fQ P w H h)(hn:H D=none)(new:bI P w (upd H D o) h D o):fQ P w (upd H D o) h:=λb u e=>by
 by_cases hb:b=D
 ·subst hb;rw[zf] at e;cases e;exact new
 ·rw[Qc hb] at e;exact(ok b u e).kU (λ_ _ _ q=>q) (λc q=>by rw[Qc (Qe q hn)];exact q) λc xs q=>by rw[Qc (Qe q hn)];exact q
theorem Q0   (I:Inv X pins σ H s)(f:ZS X pins H D)(h0:X.s₀.heap.objs.size<=D)(new:bI X.prog X.w (upd H D o) s.heap D o):Inv X pins σ (upd H D o) s:=by
 obtain⟨f0,f1,f2,f3,f4,f5⟩:=f;refine⟨I.ok,I.os,I.bare,⟨I.base.keep,I.base.slot,λb u e n hx=>?_,I.base.there,λb xs e=>?_,λb u xs e=>?_,λb ps e=>?_⟩,I.loc,I.cell,?_,λx c e=>?_,λp hp=>?_,qbV I.aS f0 new,I.len⟩
 ·rw[Qc (uc (vb (Ua e) h0))];exact I.base.free b u e n hx
 ·have q:=I.base.iF b xs e;rw[Qc (Qe q f0)];exact q
 ·have q:=I.base.iU b u xs e;rw[Qc (Qe q f0)];exact q
 ·obtain⟨m,q⟩:=I.base.jz b ps e;exact⟨m,by rw[Qc (Qe q f0)];exact q⟩
 ·rw[Qc (Ke f1)];exact I.free
 ·rw[Qc (f4 x c e)];exact I.dN x c e
 ·obtain⟨e1,e2,e3,e4,e5⟩:=I.pin p hp;exact⟨e1,by rw[Qc (f5 p hp)];exact e2,e3,e4,e5⟩
end
noncomputable def QA(sc:az)(N:List Str)(cs:az)(N':List Str)(bW:Nat)(js:List Nat):Bool :=
 cs.kind == .function&&cs.names.all (λy=>y.2 != .cell||cs.names.lookup y.1==some .cell)&&cs.names.all (λy=>y.2 != .free||(sc.names.lookup y.1==some .cell||sc.names.lookup y.1==some .free)) &&
 cs.names.all (λy=>y.2 != .local||cs.names.lookup y.1==some .local)&&(N'.drop bW).all (λx=>cs.names.lookup x==some .free)&&decide ((N'.drop bW).map some=js.map (λj=>N[j]?))&&decide (bW<=N'.length)
structure hZ (sc:az) (N:List Str) (cs:az) (N':List Str) (bW:Nat) (js:List Nat):Prop where
 kind:cs.kind=.function
 cel:∀ y∈cs.names,y.2=.cell->cs.names.lookup y.1=some .cell
 free:∀ y∈cs.names,y.2=.free->sc.names.lookup y.1=some .cell\/sc.names.lookup y.1=some .free
 locs:∀ y∈cs.names,y.2=.local->cs.names.lookup y.1=some .local
 frees:∀ x∈N'.drop bW,cs.names.lookup x=some .free
 at_:(N'.drop bW).map some=js.map (λj=>N[j]?)
 bW:bW<=N'.length
theorem hZ.of{sc:az}{N:List Str}{cs:az}{N':List Str}{bW:Nat}{js:List Nat}(h:QA sc N cs N' bW js=true):hZ sc N cs N' bW js:=by
 simp only[QA,Wa,Vl,decide_eq_true_eq,Ui,beq_iff_eq,bne_iff_ne,ne_eq] at h;obtain⟨⟨⟨⟨⟨⟨h1,h2⟩,h3⟩,h4⟩,h5⟩,h6⟩,h7⟩:=h;exact⟨h1,λy hy e=>(h2 y hy).resolve_left λz=>z e,λy hy e=>(h3 y hy).resolve_left λz=>z e,λy hy e=>(h4 y hy).resolve_left λz=>z e,h5,h6,h7⟩
theorem QF{names:List (Str×NameKind)}{x:Str}{k:NameKind}(h:names.lookup x=some k):(x,k)∈names:=Jc h
theorem L4{env:Env}:∀{names:List (Str×NameKind)} {x:Str},
  ((names.map λ(n,k)=>if(k==Gp&&env.scope.kind == .function&&env.kindOf n==some .cell) then(n,Kq) else(n,k)).lookup x=some .cell \/
   (names.map λ(n,k)=>if(k==Gp&&env.scope.kind == .function&&env.kindOf n==some .cell) then(n,Kq) else(n,k)).lookup x=some .free)->names.lookup x=some .free\/names.lookup x=some .cell
 |[],_,h=>by simp at h
 |(n,k)::r,x,h=>by
  have ih:=@L4 env r x;rw[Va] at h;by_cases hb:(k==Gp&&env.scope.kind == .function&&env.kindOf n==some .cell)=true
  ·have hkf:k=.free:=by
    simp only[Wa,beq_iff_eq] at hb;exact hb.1.1
   simp only[hb,if_true] at h;cases hx:x==n with
   |true=>simp only[Xb,hx];rw[hkf];exact .inl rfl
   |false =>
    simp only[Xb,hx] at h ⊢;exact ih h
  ·simp only[hb,uj,if_false] at h;cases hx:x==n with
   |true =>
    simp only[Xb,hx] at h ⊢;exact h.symm
   |false =>
    simp only[Xb,hx] at h ⊢;exact ih h
theorem yU{env:Env}:∀{names:List (Str×NameKind)} {x:Str},names.lookup x=some .free ->
  ((names.map λ(n,k)=>if(k==Gp&&env.scope.kind == .function&&env.kindOf n==some .cell) then(n,Kq) else(n,k)).lookup x=some .cell \/
   (names.map λ(n,k)=>if(k==Gp&&env.scope.kind == .function&&env.kindOf n==some .cell) then(n,Kq) else(n,k)).lookup x=some .free)
 |[],_,h=>by simp at h
 |(n,k)::r,x,h=>by
  have ih:=@yU env r x;rw[Va];cases hx:x==n with
  |true =>
   simp only[Xb,hx] at h;cases h;by_cases hb:((Gp:NameKind)==Gp&&env.scope.kind == .function&&env.kindOf n==some .cell)=true
   ·simp only[hb,if_true,Xb,hx];simp
   ·simp only[hb,uj,if_false,Xb,hx];simp
  |false =>
   simp only[Xb,hx] at h;by_cases hb:(k==Gp&&env.scope.kind == .function&&env.kindOf n==some .cell)=true
   ·simp only[hb,if_true,Xb,hx];exact ih h
   ·simp only[hb,uj,if_false,Xb,hx];exact ih h
theorem yA :∀(names:List (Str×NameKind)) (cs:List (Str×ae)) {x:Str} {c:ae},(∀ y∈names,y.2=.free->∃ c,env.cells.lookup y.1=some c)->(∀ x c,cs.lookup x=some c->env.cells.lookup x=some c) ->
  (Zf env names cs).lookup x=some c->env.cells.lookup x=some c
 |[],cs,x,c,_,pQ,h=>pQ x c h
 |(n,k)::r,cs,x,c,hn,pQ,h=>by
  refine yA r _ (λy hy=>hn y (Vd _ hy)) (λx' c' h'=>?_) h;by_cases hk:(k == .free)=true
  ·rw[if_pos hk] at h';obtain⟨c0,e0⟩:=hn (n,k) Ug (by simpa using hk);cases hx:x'==n with
   |true =>
    simp only[Xb,hx] at h';cases h';rw[beq_iff_eq.mp hx,e0];rfl
   |false =>
    simp only[Xb,hx] at h';exact pQ x' c' h'
  ·rw[if_neg hk] at h';exact pQ x' c' h'
theorem yX :∀(names:List (Str×NameKind)) (cs:List (Str×ae)) {x:Str},(∃ c,cs.lookup x=some c)->∃ c,(Zf env names cs).lookup x=some c
 |[],cs,x,h=>h
 |(n,k)::r,cs,x,h=>by
  refine yX r _ ?_;by_cases hk:(k == .free)=true
  ·rw[if_pos hk];cases hx:x==n with
   |true=>exact⟨(env.cells.lookup n).getD 0,by simp only[Xb,hx]⟩
   |false =>
    obtain⟨c,e⟩:=h;exact⟨c,by simp only[Xb,hx];exact e⟩
  ·rw[if_neg hk];exact h
theorem QK :∀(names:List (Str×NameKind)) (cs:List (Str×ae)) {x:Str},(x,Gp)∈names->∃ c,(Zf env names cs).lookup x=some c
 |[],_,_,h=>nomatch h
 |(n,k)::r,cs,x,h=>by
  rcases Wb.mp h with e|h
  ·cases e;refine yX r _ ?_;rw[if_pos (by decide)];exact⟨(env.cells.lookup n).getD 0,by simp only[Xb,beq_self_eq_true]⟩
  ·exact QK r _ h
theorem Lk:∀(names:List (Str×NameKind)) (n n0:Nat) (acc:List (Str×ae)) {x:Str},n0<=n->(∃ c,acc.lookup x=some c/\n0<=c)->∃ c,(aE n names acc).lookup x=some c/\n0<=c
 |[],_,_,_,_,_,h=>h
 |(y,k)::r,n,n0,acc,x,hn,h=>by
  unfold aE;split
  ·refine Lk r (n+1) n0 _ (by lia) ?_;cases hx:x==y with
   |true=>exact⟨n,by simp only[Xb,hx],hn⟩
   |false =>
    obtain⟨c,e,l⟩:=h;exact⟨c,by simp only[Xb,hx];exact e,l⟩
  ·exact Lk r n n0 acc hn h
theorem DA:∀(names:List (Str×NameKind)) (n:Nat) (acc:List (Str×ae)) {x:Str},(x,Kq)∈names->∃ c,(aE n names acc).lookup x=some c/\n<=c
 |[],_,_,_,h=>nomatch h
 |(y,k)::r,n,acc,x,h=>by
  unfold aE
  rcases Wb.mp h with e|h
  ·cases e;rw[if_pos (by decide)];exact Lk r (n+1) n _ (by lia) ⟨n,by simp only[Xb,beq_self_eq_true],Ub _⟩
  ·split
   ·obtain⟨c,e,l⟩:=DA r (n+1) ((y,n)::acc) h;exact⟨c,e,by lia⟩
   ·exact DA r n acc h
theorem Ff:∀(names:List (Str×NameKind)) (n:Nat) (acc:List (Str×ae)) {x:Str},(x,Kq)∉names->(aE n names acc).lookup x=acc.lookup x
 |[],_,_,_,_=>rfl
 |(y,k)::r,n,acc,x,h=>by
  unfold aE;split
  ·rename_i hk;rw[Ff r (n+1) _ λz=>h (Vd _ z)];have:(x==y)=false:=by
    rw[beq_eq_false_iff_ne];intro e;subst e;have:k=.cell:=by simpa using hk
    subst this;exact h Ug
   simp only[Xb,this]
  ·exact Ff r n acc λz=>h (Vd _ z)
theorem DD:∀(names:List (Str×NameKind)) (n:Nat) (acc:List (Str×ae)) {x:Str} {c:ae},(aE n names acc).lookup x=some c->acc.lookup x=some c\/n<=c
 |[],_,_,_,_,h=>.inl h
 |(y,k)::r,n,acc,x,c,h=>by
  unfold aE at h;split at h
  ·rcases DD r (n+1) _ h with e|e
   ·cases hx:x==y with
    |true=>simp only[Xb,hx] at e;cases e;exact .inr (Ub _)
    |false=>simp only[Xb,hx] at e;exact .inl e
   ·exact .inr (by lia)
  ·exact DD r n acc h
theorem Kv:∀(names:List (Str×NameKind)) (n:Nat) (acc:List (Str×ae)),(∀ x c,acc.lookup x=some c->c<n)->(∀ x y c,acc.lookup x=some c->acc.lookup y=some c->x=y) ->
  ∀ x y c,(aE n names acc).lookup x=some c->(aE n names acc).lookup y=some c->x=y
 |[],_,_,_,hi=>hi
 |(z,k)::r,n,acc,hb,hi=>by
  unfold aE;split
  ·refine Kv r (n+1) _ (λx c e=>?_) λx y c e1 e2=>?_
   ·cases hx:x==z with
    |true=>simp only[Xb,hx] at e;cases e;exact uo _
    |false=>simp only[Xb,hx] at e;exact xn (hb x c e)
   ·cases hx:x==z with
    |true =>
     simp only[Xb,hx] at e1;cases e1;cases hy:y==z with
     |true=>rw[beq_iff_eq.mp hx,beq_iff_eq.mp hy]
     |false=>simp only[Xb,hy] at e2;exact absurd (hb y _ e2) (Wj _)
    |false =>
     simp only[Xb,hx] at e1;cases hy:y==z with
     |true=>simp only[Xb,hy] at e2;cases e2;exact absurd (hb x _ e1) (Wj _)
     |false=>simp only[Xb,hy] at e2;exact hi x y c e1 e2
  ·exact Kv r n acc hb hi
theorem HC:∀(names:List (Str×NameKind)) (h:Heap) (acc:List (Str×ae)),(∀ x c,acc.lookup x=some c->∃ v,h.IsCell c v)->∀ x c,(aE h.objs.size names acc).lookup x=some c->∃ v,(pushCells h names).IsCell c v
 |[],_,_,hc=>hc
 |(y,k)::r,h,acc,hc=>by
  unfold aE pushCells;split
  ·have:=HC r (h.push {cls:=.type "cell",data:=.cell none}) ((y,h.objs.size)::acc) λx c e=>by
    cases hx:x==y with
    |true=>simp only[Xb,hx] at e;cases e;exact⟨none,_,xb _ rfl,rfl⟩
    |false =>
     simp only[Xb,hx] at e;obtain⟨v,q⟩:=hc x c e;exact⟨v,q.keeps λb o e=>wa _ e⟩
   rwa [Xg] at this
  ·exact HC r h acc hc
theorem YaQ{M:Model}{A:Around}{E:Value->ag->Prop}{s:ag}{scope:az}{globals:ae}{closure:List (Str×ae)}{qual:Str}{func:Option ae}{code:Value}{env:Env}{builtins:ae}{Q:Env->ag->Prop}
  (hQ:∀ h',h'.Ns s.heap.objs.size (λ_=>none)->(∀ b o,s.heap.get? b=some o->h'.get? b=some o) ->
   ((∀ x c,closure.lookup x=some c->∃ v,s.heap.IsCell c v)->∀ x c,(aE (s.heap.objs.size+1) scope.names closure).lookup x=some c->∃ v,h'.IsCell c v) ->
   Q (newEnv scope s.heap.objs.size globals (aE (s.heap.objs.size+1) scope.names closure) qual func code (some env) builtins) {s with heap:=h'}) :
  ah M A (gu scope globals closure [] qual func code (some env) builtins) Q E s:=by
 simp only[gu,wG,if_true];refine aa (wpAny_alloc ?_);refine aa (wpAny_layCells _ (λname kind cells=>by cases hkc:kind==Kq <;> simp[hkc]) _ _ _ _ ?_);rw[show({s with heap:=s.heap.push {cls:=.type "dict",data:=.dict #[]}}:ag).heap.objs.size=s.heap.objs.size+1 from Xg ..];refine aa (af (af (hQ _ ?_ ?_ ?_)))
 ·exact(Heap.Ns.new s.heap (.type "dict")).keeps (iT _ _)
 ·exactλb o e=>iT _ _ b o (wa _ e)
 ·intro hc;have:=HC scope.names (s.heap.push {cls:=.type "dict",data:=.dict #[]}) closure λx c e=>let ⟨v,q⟩:=hc x c e;⟨v,q.keeps λb o e=>wa _ e⟩
  rwa [Xg] at this
noncomputable def ia(X:Cx)(cs:az)(N':List Str)(C:ae)(s3:ag)(H:Hp)(ex:List ae):Cx :=
 {X with N:=N',s₀:=s3,H₀:=H,env:=compEnvC cs (aE (C+1) cs.names (Zf X.env cs.names [])) C X.env,outer:=X.stack,stack:=X.stack,ex:=ex,fn:=λx=>cs.names.lookup x==some .cell,xe:=λ_ _=>False}
noncomputable def stC(bW:Nat)(js:List Nat)(σ:L2.St):L2.St:=va bW none++js.map λj=>(σ[j]?).join
section
variable {X:Cx} {pins:List (ae×Obj)} {σ:L2.St} {H:Hp} {s3:ag}
theorem ybC{cs:az}{N':List Str}{bW:Nat}{js:List Nat}{ex:List ae}{h1:Heap}{tk:Nat}(I:Inv X pins σ H s3)(ok:hZ X.env.scope X.N cs N' bW js)(hex:∀ b∈ex,ZS X pins H b/\b<s3.heap.objs.size)
  (wJ:h1.Ns s3.heap.objs.size λ_=>none) (hk:∀ b o,s3.heap.get? b=some o->h1.get? b=some o)
  (oQ:(∀ x c,(Zf X.env cs.names []).lookup x=some c->∃ v,s3.heap.IsCell c v)->∀ x c,(aE (s3.heap.objs.size+1) cs.names (Zf X.env cs.names [])).lookup x=some c->∃ v,h1.IsCell c v) :
  Inv (ia X cs N' s3.heap.objs.size s3 H ex) [] (stC bW js σ) H {s3 with heap:=h1,toks:=tk}:=by
 have hfc:∀ y∈cs.names,y.2=.free->∃ c,X.env.cells.lookup y.1=some c:=λy hy e=>I.ok.has y.1 (ok.free y hy e);have lk:∀{x c},(Zf X.env cs.names []).lookup x=some c->X.env.cells.lookup x=some c:=λ{x c} h=>yA cs.names [] hfc (λ_ _ z=>by simp at z) h;have clt:∀{x c},X.env.cells.lookup x=some c->c<s3.heap.objs.size:=λ{x c} e=>let ⟨v,q⟩:=I.cell x c e;q.lt;have cl2:=oQ λx c e=>I.cell x c (lk e);have Na:∀{x c},(aE (s3.heap.objs.size+1) cs.names (Zf X.env cs.names [])).lookup x=some c->X.env.cells.lookup x=some c\/s3.heap.objs.size+1<=c:=λ{x c} e=>(DD cs.names _ _ e).imp lk id;have nR:∀{x},cs.names.lookup x=some .free->(x,Kq)∉cs.names:=λ{x} e z=>by have:=ok.cel _ z rfl;rw[e] at this;cases this
 refine⟨⟨I.ok.mod,ok.kind,I.ok.glob,I.ok.blt,Ub _,λx y c e1 e2=>Kv cs.names _ _ (λx c e=>xn (clt (lk e))) (λx y c e1 e2=>I.ok.inj x y c (lk e1) (lk e2)) x y c e1 e2,λx hx=>?_,λx c z e=>?_,I.ok.hd,I.ok.frames,.inl rfl,λb hb=>?_,I.bs,xf I.ok.nI I.sz,λb o e hb=>?_,λb hb=>?_,I.stack,I.iX⟩,
  rfl,I.bare,Un.kept hk,⟨_,wJ,λi x v e1 e2 e3=>?_⟩,λx c e=>cl2 x c e,I.aS.fresh (Ub _),λx c e=>(Na e).elim (λq=>I.dN x c q) λq=>I.aS.fresh (by lia),λp hp=>?_,I.aS.kept hk,?_⟩
 ·rcases L4 hx with hx|hx
  ·rw[show ∀ n,(ia X cs N' s3.heap.objs.size s3 H ex).env.cells.lookup x=(aE (s3.heap.objs.size+1) cs.names (Zf X.env cs.names [])).lookup x fromλ_=>rfl]
   ·rw[Ff _ _ _ (nR hx)];exact QK cs.names [] (QF hx)
   ·exact 0
  ·obtain⟨c,e,_⟩:=DA cs.names (s3.heap.objs.size+1) (Zf X.env cs.names []) (QF hx);exact⟨c,e⟩
 ·have z':cs.names.lookup x=some .cell:=by simpa using(show(cs.names.lookup x==some .cell)=true from z)
  obtain⟨c',e',l⟩:=DA cs.names (s3.heap.objs.size+1) (Zf X.env cs.names []) (QF z');have:c=c':=by
   have e2:(aE (s3.heap.objs.size+1) cs.names (Zf X.env cs.names [])).lookup x=some c:=e;rw[e'] at e2;exact(Kc.inj e2).symm
  rw[this];exact Nat.le_of_succ_le l
 ·obtain⟨⟨_,_,_,_,f4,_⟩,lt⟩:=hex b hb;refine⟨uc lt,λx c e=>?_⟩
  rcases Na e with q|q
  ·exact f4 x c q
  ·exact vh (wt lt q)
 ·obtain⟨⟨_,_,_,f3,_,_⟩,_⟩:=hex b hb
  rcases f3 with f3|f3
  ·exact I.ok.l9 b o e f3
  ·exact absurd (vb (Ua e) (xf I.ok.nI f3)) (Wj _)
 ·obtain⟨⟨_,f1,f2,_,_,_⟩,_⟩:=hex b hb;intro z
  rcases Wb.mp (I.gY b z) with e|e
  ·exact f1 e
  ·exact f2 e
 ·-- a name around, by aw cell
  have hi:¬ i<bW:=λhi=>by
   unfold stC at e2;rw[ub (by simpa using hi),xr,if_pos hi] at e2;cases e2
  have iB:(N'.drop bW)[i-bW]?=some x:=by
   rw[List.getElem?_drop];have q:bW+(i-bW)=i:=by lia
   rw[q];exact e1
  have jF:=ok.frees x (We iB);have eN:(js.map λj=>X.N[j]?)[i-bW]?=some (some x):=by rw[<- ok.at_,Xc,iB];rfl
  unfold stC at e2;rw[Ve (by simpa using VH hi),vk,Xc] at e2;rw[Xc] at eN;cases ej:js[i-bW]? with
  |none=>rw[ej] at e2;cases e2
  |some j =>
   rw[ej] at e2 eN;have uR:(σ[j]?).join=some v:=Kc.inj e2;have eN':X.N[j]?=some x:=Kc.inj eN;have eσ:σ[j]?=some (some v):=by
    cases q:σ[j]? with
    |none=>rw[q] at uR;cases uR
    |some u=>rw[q] at uR;exact congrArg some uR
   have BY:X.env.scope.names.lookup x=some .cell\/X.env.scope.names.lookup x=some .free:=ok.free (x,.free) (QF jF) rfl;obtain⟨m,hn,hl⟩:=I.loc;obtain⟨u,r,l⟩:=hl j x v eN' eσ (.inr BY);refine⟨u,r,.inr ⟨yU jF,?_⟩⟩
   rcases l with ⟨k,_⟩|⟨_,c,ec,z⟩
   ·rcases BY with q|q
    ·rw[show X.env.kindOf x=X.env.scope.names.lookup x from rfl,q] at k;cases k
    ·rw[show X.env.kindOf x=X.env.scope.names.lookup x from rfl,q] at k;cases k
   ·obtain⟨c',OG⟩:=QK (env:=X.env) cs.names [] (QF jF);have:=lk OG;rw[ec] at this;cases this;obtain⟨o,ho,hd⟩:=z;refine⟨c,?_,o,hk c o ho,hd⟩;show(aE (s3.heap.objs.size+1) cs.names (Zf X.env cs.names [])).lookup x=some c;rw[Ff _ _ _ (nR jF)];exact OG
 ·have nG:p∈X.pn:=by
   have r9:p∈X.pn++[]:=hp;rw[xh] at r9;exact r9
  obtain⟨e1,e2,e3,e4,e5⟩:=I.pin p (Uf _ nG);refine⟨hk _ _ e1,e2,uc (Ua e1),λz=>?_,e5⟩
  rcases Wb.mp (I.gY p.1 z) with e|e
  ·exact e3 e
  ·exact e4 e
 ·have q:=congrArg XD ok.at_;rw[wc,wc,Wx] at q;unfold stC;show _=N'.length;rw[ue,vk,wc];have:=ok.bW
  lia
end
section
variable {X:Cx}
def nB(X:Cx)(ifs:List Expr)(t:TT):Prop:=∀(pins:List (ae×Obj)) (s:ag) (σ:L2.St) (H:Hp) (Q:Bool->Hp->Prop),Inv X pins σ H s->t σ H Q->ah (aj X.prog X.w) X.A (Nw ifs X.env) (TP X pins σ Q) X.xe s
noncomputable def GB:TT:=λ_ H Q=>Q true H
theorem ycL:nB X [] GB:=λpins s σ H Q I h=>wpAny_tests_nil ⟨H,I,h⟩
theorem PN   (h:PT X c t):nB X [c] t:=λpins s σ H Q I hw=>wpAny_tests_one (h pins s σ H Q I hw)
def J9(J:It)(bW:Nat)(js:List Nat)(g:TG)(tc:TT)(te:TE)(σ:L2.St)(H:Hp)(Q:VK):Prop :=
 ∃ W:Nat->Nat->List V->L2.St->Hp->Prop,(∃ m,W 0 m [] (stC bW js σ) H)/\∀ i m acc σ' H',W i m acc σ' H' ->
  (J.stop i H'/\∀ D,H' D=none->Q (.ref D) (upd H' D (.lst acc))) \/
  (J.go i H'/\∀ x H2,J.mU i H' x H2->g x σ' H2 λσ2 H3=>tc σ2 H3 λb H4 =>
   if b=true then te σ2 H4 λy H5=>acc.length<sizeLine/\∃ m',m'<m/\W (i+1) m' (acc++[y]) σ2 H5 else ∃ m',m'<m/\W (i+1) m' acc σ2 H4)
noncomputable def Fi(wi:TI)(bW:Nat)(js:List Nat)(g:TG)(tc:TT)(te:TE):TE:=λσ H Q=>wi σ H λJ H1=>J9 J bW js g tc te σ H1 Q
theorem Yn        (I:Inv Y pins σ H s)(h:(b,o)∈pins):s.heap.get? b=some o/\H b=none :=
 let z:=I.pin (b,o) (Wf _ h);⟨z.1,z.2.1⟩
def FD(X:Cx)(J:It)(fp:List ae)(it:ae)(tn:Nat->Heap->Prop):Prop :=
 ∀(Y:Cx),Y.prog=X.prog->Y.w=X.w->Y.K=X.K->Y.calm=X.calm->Y.A=X.A->Y.pn=X.pn->∀(i:Nat)(pins:List (ae×Obj)) (s:ag) (σ:L2.St) (H:Hp) (E:Value->ag->Prop),Inv Y pins σ H s->(∀ b∈fp,ZS Y pins H b)->tn i s.heap->J.stop i H ->
  ah (aj X.prog X.w) X.A (bU (.ref it)) (λr s1=>r=none/\Inv Y pins σ H s1) E s
def J8(X:Cx)(tg:Expr)(J:It)(fp:List ae)(it:ae)(tn:Nat->Heap->Prop):Prop :=
 ∀(Y:Cx),Y.prog=X.prog->Y.w=X.w->Y.K=X.K->Y.calm=X.calm->Y.A=X.A->∀(i:Nat)(pins:List (ae×Obj)) (s:ag) (σ:L2.St) (H:Hp) (E:Value->ag->Prop),Inv Y pins σ H s->(∀ b∈fp,ZS Y pins H b)->tn i s.heap->J.go i H ->
  ah (aj X.prog X.w) X.A (bU (.ref it)) (λr s1=>∃ u,r=some u /\
   ah (aj X.prog X.w) X.A (cQ tg (.ref it) u) (λ_ s2=>∃ x H',Inv Y pins σ H' s2/\RelV x u/\J.mU i H x H'/\tn (i+1) s2.heap/\∀ b∈fp,H' b=none) E s1) E s
theorem K0{elt iter tg:Expr}{ifs:List Expr}{cs:az}{pos:Pos}{N':List Str}{bW:Nat}{js:List Nat}{g:TG}{tc:TT}{te:TE}{pins:List (ae×Obj)}{σ:L2.St}{H2:Hp}{s2:ag}{it:ae}{fp:List ae}{tn:Nat->Heap->Prop}{J:It}{Q:VK}
  {RR:Value->ae->hX->ag->Prop} {E:Value->ag->Prop}
  (ok:hZ X.env.scope X.N cs N' bW js) (hg:∀ C s3 H ex,PG (ia X cs N' C s3 H ex) tg g) (nX:∀ C s3 H ex,nB (ia X cs N' C s3 H ex) ifs tc) (jG:∀ C s3 H ex,PE (ia X cs N' C s3 H ex) elt te)
  (I2:Inv X pins σ H2 s2) (mem:it∈fp) (obj:∀ i h,tn i h->∀ b∈fp,∃ o,h.get? b=some o/\∀ v,o.data≠.cell v) (keep:∀ i h h',tn i h->(∀ b∈fp,∀ o,h.get? b=some o->h'.get? b=some o)->tn i h')
  (item:J8 X tg J fp it tn) (done:FD X J fp it tn) (self:∀(A:Around)(i:Nat)(s:ag)(Q:Value->ag->Prop)(E:Value->ag->Prop),tn i s.heap->Q (.ref it) s->ah (aj X.prog X.w) A (kY (.ref it)) Q E s)
  (nE:tn 0 s2.heap) (f2:∀ b∈fp,ZS X pins H2 b) (W:Nat->Nat->List V->L2.St->Hp->Prop) (w0:∃ m,W 0 m [] (stC bW js σ) H2)
  (turn:∀ i m acc σ' H',W i m acc σ' H'->(J.stop i H'/\∀ D,H' D=none->Q (.ref D) (upd H' D (.lst acc))) \/
   (J.go i H'/\∀ x H2,J.mU i H' x H2->g x σ' H2 λσ2 H3=>tc σ2 H3 λb H4 =>
    if b=true then te σ2 H4 λy H5=>acc.length<sizeLine/\∃ m',m'<m/\W (i+1) m' (acc++[y]) σ2 H5 else ∃ m',m'<m/\W (i+1) m' acc σ2 H4))
  (fin:∀(D C:ae)(acc:List V)(H':Hp)(s6:ag),Inv X pins σ (upd H' D (.lst acc)) s6->ZS X pins (upd H' D (.lst acc)) C->X.s₀.heap.objs.size<=C->(∃ m,s6.heap.Ns C m)->Q (.ref D) (upd H' D (.lst acc))->RR (.ref D) C (.ok .next) s6) :
  ah (aj X.prog X.w) X.A (newList []) (λacc s3=>ah (aj X.prog X.w) X.A (gu cs X.env.globals (Zf X.env cs.names []) [] X.env.qual none .none (some X.env)) (λCT s4 =>
   bG (aj X.prog X.w) X.A (.compStart (.ListComp elt [⟨tg,iter,ifs,0⟩] cs pos) 0 (.ref it) acc {CT with scope:=relabel cs X.env}) (RR acc CT.locals) s4) E s3) E s2:=by
 refine aQ (YaQ λh1 wJ hup oQ=>?_);obtain⟨s3,pT⟩:∃ s3:ag,s3={s2 with heap:=s2.heap.push {cls:=.type "list",dict:=none,data:=.seq ([]:List Value).toArray}}:=⟨_,rfl⟩;have I3:Inv X pins σ H2 s3:=by rw[pT];exact I2.kept (t':=s2.toks) λb o e=>wa _ e
 have D4:s3.heap.objs.size=s2.heap.objs.size+1:=by rw[pT];exact Xg ..
 have gD3:s3.heap.get? s2.heap.objs.size=some {cls:=.type "list",dict:=none,data:=.seq ([]:List Value).toArray}:=by rw[pT];exact xb _ rfl
 have M5:∀ b o,s2.heap.get? b=some o->s3.heap.get? b=some o:=λb o e=>by rw[pT];exact wa _ e
 have es4:∀ tk,({s2 with heap:=h1,toks:=tk}:ag)={s3 with heap:=h1,toks:=tk}:=λtk=>by rw[pT]
 have ID:h1.Ns s3.heap.objs.size λ_=>none:=by rw[pT];exact wJ
 have DR:∀ b o,s3.heap.get? b=some o->h1.get? b=some o:=by rw[pT];exact hup
 have Jx:(∀ x c,(Zf X.env cs.names []).lookup x=some c->∃ v,s3.heap.IsCell c v)->∀ x c,(aE (s3.heap.objs.size+1) cs.names (Zf X.env cs.names [])).lookup x=some c->∃ v,h1.IsCell c v:=by rw[pT];exact oQ
 generalize hD:s2.heap.objs.size=D at *;have fD:ZS X pins H2 D:=I2.kB (Uq hD) (I2.aS.fresh (Uq hD));have M8:X.s₀.heap.objs.size<=D:=hD ▸ I2.sz;have Et:∀ b∈fp,b<D:=λb hb=>let ⟨o,e,_⟩:=obj 0 _ nE b hb;hD ▸ Ua e;have hex:∀ b∈D::fp,ZS X pins H2 b/\b<s3.heap.objs.size:=λb hb=>by
  rcases Wb.mp hb with e|hb
  ·subst e;exact⟨fD,by rw[D4];exact uo _⟩
  ·exact⟨f2 b hb,by rw[D4];exact xn (Et b hb)⟩
 obtain⟨C,hC⟩:∃ C,C=s3.heap.objs.size:=⟨_,rfl⟩;have I4:∀ tk,Inv (ia X cs N' C s3 H2 (D::fp)) [] (stC bW js σ) H2 {s3 with heap:=h1,toks:=tk}:=λtk=>by rw[hC];exact ybC I3 ok hex ID DR Jx
 have DC:D≠C:=by rw[hC,D4];exact uc (uo _)
 -- pf mf objects, and pf list, in pf block
 have ET:∀{pl:List (ae×Obj)} {H':Hp} {b:ae},b∈D::fp->H' b=none->(∀ p∈pl,p.1≠b)->ZS (ia X cs N' C s3 H2 (D::fp)) pl H' b:=λ{pl H' b} hb hn hp=>by
  obtain⟨⟨g0,g1,g2,g3,g4,g5⟩,lt⟩:=hex b hb;refine⟨hn,hC ▸ uc lt,λz=>?_,.inl hb,λx c e=>?_,λp nG=>?_⟩
  ·rcases Wb.mp (I3.gY b z) with e|e
   ·exact g1 e
   ·exact g2 e
  ·rcases DD cs.names _ _ e with q|q
   ·exact g4 x c (yA cs.names [] (λy hy e=>I3.ok.has y.1 (ok.free y hy e)) (λ_ _ z=>by simp at z) q)
   ·exact vh (wt (hC ▸ lt) q)
  ·rcases vf.mp nG with z|z
   ·exact g5 p (Uf _ z)
   ·exact hp p z
 have lp:∀ tk,bG (aj X.prog X.w) X.A (.compLoop (.ListComp elt [⟨tg,iter,ifs,0⟩] cs pos) 0 (.ref it) (.ref D) (ia X cs N' C s3 H2 (D::fp)).env) (RR (.ref D) C) {s3 with heap:=h1,toks:=tk}:=λtk=>by
  obtain⟨m0,w0⟩:=w0;refine YbW (λn s=>∃ i acc ys k σ' H',Inv (ia X cs N' C s3 H2 (D::fp)) [] σ' H' s/\tn i s.heap/\(∀ b∈fp,H' b=none)/\H' D=none/\s.heap.get? D=some {cls:=.type "list",data:=.seq ys k}/\Vals acc ys.toList/\acc.length<=sizeLine/\W i n acc σ' H') ?_ m0
   ⟨0,[],#[],0,_,_,I4 tk,keep _ _ _ nE λb hb o e=>DR b o (M5 b o e),λb hb=>(f2 b hb).1,fD.1,DR _ _ gD3,.nil,xl _,w0⟩
  rintro n s5 ⟨i,acc,ys,k,σ5,H5,I5,t5,n5,d5,g5,v5,l5,w5⟩;have Lo:=I5.pinned (fp:=[D]) (λb hb=>by obtain rfl:=vc.mp hb;exact ET Ug d5 λp hp=>nomatch hp) (λb hb=>by obtain rfl:=vc.mp hb;exact⟨_,g5,λv z=>nomatch z⟩);have Ir:xJ [D] s5.heap=[(D,{cls:=.type "list",data:=.seq ys k})]:=by simp[xJ,g5]
  rw[Ir,Vf] at Lo;have OF:∀ b∈fp,ZS (ia X cs N' C s3 H2 (D::fp)) [(D,{cls:=.type "list",data:=.seq ys k})] H5 b:=λb hb=>ET (Vd _ hb) (n5 b hb) λp hp=>by
   obtain rfl:=vc.mp hp;exact vh (Et b hb)
  rcases turn i n acc σ5 H5 w5 with ⟨stop,qf⟩|⟨go,step⟩
  ·refine bw (done (ia X cs N' C s3 H2 (D::fp)) rfl rfl rfl rfl rfl rfl i _ s5 σ5 H5 _ Lo OF t5 stop) λr s6 ⟨hr,I6⟩=>?_;subst hr;obtain⟨g6,d6⟩:=Yn I6 (vc.mpr rfl);have IX:Inv X pins σ H5 s6:=I3.oj (ch:=D::fp) I6.os I6.base I6.aS I6.bare λb hb=>by
    obtain⟨⟨_,e1,_,e3,e4,e5⟩,_⟩:=hex b hb;exact⟨e3,e1,e4,e5⟩
   obtain⟨_,e1,e2,e3,e4,e5⟩:=fD;have IXD:=Q0 (o:=.lst acc) IX ⟨d6,e1,e2,e3,e4,e5⟩ M8 ⟨l5,ys.toList,k,v5,by simpa using g6⟩;have fC:ZS X pins (upd H5 D (.lst acc)) C:=by
    have hn:(upd H5 D (.lst acc)) C=none:=by rw[Qc (Ke DC)];exact I6.free
    have z:=I3.kB (b:=C) (Uq hC.symm) (I3.aS.fresh (Uq hC.symm));exact⟨hn,z.2⟩
   obtain⟨m,hm,_⟩:=I6.loc;exact fin D C acc H5 s6 IXD fC (xf M8 (by rw[hC,D4];exact vA _)) ⟨m,hm⟩ (qf D d6)
  ·refine bw (item (ia X cs N' C s3 H2 (D::fp)) rfl rfl rfl rfl rfl i _ s5 σ5 H5 _ Lo OF t5 go) λr s6 ⟨u,hr,h6⟩=>?_;subst hr;refine bw h6 λ_ s7 ⟨x,H7,I7,r7,y7,t7,n7⟩=>?_;obtain⟨g7,d7⟩:=Yn I7 (vc.mpr rfl);have I7p:=I7.pinned (fp:=fp) (λb hb=>ET (Vd _ hb) (n7 b hb) λp hp=>by obtain rfl:=vc.mp hp;exact vh (Et b hb)) (obj _ _ t7);refine bw (hg _ _ _ _ _ s7 σ5 H7 x u _ I7p r7 (step x H7 y7)) λ_ s8 ⟨σ8,H8,I8,q8⟩=>?_;refine bw (nX _ _ _ _ _ s8 σ8 H8 _ I8 q8) λb s9 ⟨H9,I9,q9⟩=>?_;cases b with
   |false =>
    rw[if_neg Xd] at q9 ⊢;obtain⟨m',hm,w9⟩:=q9;obtain⟨g9,d9⟩:=Yn I9 (Uf _ (vc.mpr rfl));refine⟨m',hm,i+1,acc,ys,k,σ8,H9,I9.pins_of (λp hp=>nomatch hp),keep _ _ _ t7 λb hb o e=>(Yn I9 (Wf _ (qq hb e))).1,λb hb=>?_,d9,g9,v5,l5,w9⟩;obtain⟨o,e,_⟩:=obj _ _ t7 b hb;exact(Yn I9 (Wf _ (qq hb e))).2
   |true =>
    rw[if_pos rfl] at q9 ⊢;refine bw (jG _ _ _ _ _ s9 σ8 H9 _ I9 q9) λyv vW ⟨y,Fz,Fy,r10,lt,m',hm,w10⟩=>?_;obtain⟨g10,JX⟩:=Yn Fy (Uf _ (vc.mpr rfl));have t10:tn (i+1) vW.heap:=keep _ _ _ t7 λb hb o e=>(Yn Fy (Wf _ (qq hb e))).1;have n10:∀ b∈fp,Fz b=none:=λb hb=>by
     obtain⟨o,e,_⟩:=obj _ _ t7 b hb;exact(Yn Fy (Wf _ (qq hb e))).2
    have Lp:Inv (ia X cs N' C s3 H2 (D::fp)) [] σ8 Fz vW:=Fy.pins_of λp hp=>nomatch hp;have lys:ys.size=acc.length:=by have:=v5.length;simp at this;lia
    refine wpAny_list_append_plain (hsz:=by lia) (show vW.heap.PlainList D ys from⟨k,g10⟩) λh11 p11 Ay=>?_;obtain⟨_,a1,a2,a3,a4,a5⟩:=ET (pl:=[]) (H':=Fz) (b:=D) Ug JX λp hp=>nomatch hp;obtain⟨k11,g11⟩:=p11;refine⟨m',hm,i+1,acc++[y],ys.push yv,k11,σ8,Fz,Lp.turned (t':=vW.toks) (it:=D) (λb o hb e=>(Ay.2 b hb).trans e) JX a1 a3 a4 a5,keep _ _ _ t10 λb hb o e=>(Ay.2 b (uc (Et b hb))).trans e,n10,JX,g11,?_,by rw[ue,wE];exact lt,w10⟩;rw[Array.toList_push];exact v5.append (.cons r10 .nil)
 have R1:∀ tk,bG (aj X.prog X.w) X.A (.compStart (.ListComp elt [⟨tg,iter,ifs,0⟩] cs pos) 0 (.ref it) (.ref D) (ia X cs N' C s3 H2 (D::fp)).env) (RR (.ref D) C) {s3 with heap:=h1,toks:=tk}:=λtk =>
  codeAny_compStart_list (lp tk) (self _ 0 _ _ _ (keep _ _ _ nE λb hb o e=>DR b o (M5 b o e)) (lp tk))
 have R2:=R1 s2.toks;rw[<- es4] at R2;subst hD;rw[hC,pT] at R2;exact R2
end
section
variable {X:Cx} {pins:List (ae×Obj)} {σ:L2.St} {H:Hp} {s:ag} {h':Heap}
theorem yB{t':Nat}{ch:List ae}(I:Inv X pins σ H s)(f:∀ b∈ch,ZS X pins H b)(k:∀ b o,b∉ch->s.heap.get? b=some o->h'.get? b=some o):Inv X pins σ H {s with heap:=h',toks:=t'}:=by
 have nt:∀ b u,H b=some u->b∉ch:=λb u e z=>by
  have q:=(f b z).1;rw[e] at q;cases q
 refine I.step (g':=s.gens) (d':=s.drawn) (ch:=ch) (λb hb=>?_) (λb o _ _ hc e _=>k b o hc e) (λb o _ _ hc e _=>⟨o.slots,k b o hc e⟩) (λ_ _ _ _ n=>n) (λb o hc e=>⟨o,k b o hc e⟩) (λ_ _ e=>e) (λ_ _ _ e=>e) (λb ps e=>⟨#[],by rw[e];simp⟩) (λm hm=>?_) (λb u e=>?_) I.bare
 ·obtain⟨_,f1,f2,f3,f4,f5⟩:=f b hb;exact⟨f3,f1,f4,f5⟩
 ·obtain⟨o,es,ep,ho,r⟩:=hm;exact⟨o,es,ep,k _ o (λz=>(f _ z).2.1 rfl) ho,r⟩
 ·refine(I.aS b u e).kU (λc v hc q=>k c v ?_ q) (λ_ q=>q) λ_ _ q=>q
  rcases hc with z|z
  ·rw[z];exact nt b u e
  ·exact nt c _ z
def i8(K:Gc)(H:Hp)(b:Bool)(a:ae)(xs:List V):Prop:=if b=true then ir K H a xs else fR K H a xs
theorem Qt    (I:Inv X pins σ H s)(h:i8 X.K H b a xs):∃ aw:List Value,Vals xs aw/\bY s.heap b a aw.toArray/\xs.length<=sizeLine:=by
 cases b with
 |false=>obtain⟨aw,r,p,z⟩:=I.list (show fR X.K H a xs from h);exact⟨aw,r,p.isList,z⟩
 |true=>obtain⟨aw,r,p,z⟩:=I.tuple (show ir X.K H a xs from h);exact⟨aw,r,p,z⟩
theorem PV    (I:Inv X pins σ H s)(h:i8 X.K H b a xs)(h':i8 X.K H b a ys):xs=ys:=by
 cases b with
 |false=>exact I.list_inj (show fR X.K H a xs from h) h'
 |true=>exact I.tuple_inj (show ir X.K H a xs from h) h'
noncomputable def Lm(K:Gc)(b1 b2:Bool)(a1 a2:ae):It :=
 ⟨λi H=>∃ xs ys,i8 K H b1 a1 xs/\i8 K H b2 a2 ys/\i<xs.length/\i<ys.length,
 λi H x H'=>∃ T x1 y1,x=.ref T/\H T=none/\H'=upd H T (.tup [x1,y1])/\(∀ xs,i8 K H b1 a1 xs->xs[i]?=some x1)/\(∀ ys,i8 K H b2 a2 ys->ys[i]?=some y1),
 λi H=>∃ xs ys,i8 K H b1 a1 xs/\i8 K H b2 a2 ys/\(i=xs.length\/(i<xs.length/\i=ys.length))⟩
theorem yp{A:Around}(h:A.handled=none):A.in1.handled=none:=h
theorem qb6{P:ak}{w:World}{K:Gc}{es:List Expr}{kt:Nat}{pt:Pos}{b1 b2:Bool}{a1 a2 z TI TO i1 i2:ae}(Z:∀ m,(∀ a∈[a1,a2],a<m)->(∀ a∈[z,TI,TO,i1,i2],m<=a)->mT z TI TO i1 i2 [i1,a1] [i2,a2])
  (m:Nat) (h1:∀ a∈[a1,a2],a<m) (h2:∀ a∈[z,TI,TO,i1,i2],m<=a) :
  Turn P w K (.Tuple es kt pt) (Lm K b1 b2 a1 a2) [z,TI,TO,i1,i2] z (λi h=>de h z TI TO .none/\aG h TI (.ref i1) (.ref i2)/\(∃ a b,aG h TO a b)/\cK h b1 i1 a1 i/\cK h b2 i2 a2 i) where
 mem:=by simp
 obj:=λi h ⟨e1,e2,⟨a,b,e3⟩,e4,e5⟩ c hc=>by
  simp only[Wb,Ud,or_false] at hc
  rcases hc with rfl|rfl|rfl|rfl|rfl
  ·exact⟨_,e1,λv q=>nomatch q⟩
  ·exact⟨_,e2,λv q=>nomatch q⟩
  ·exact⟨_,e3,λv q=>nomatch q⟩
  ·exact e4.obj
  ·exact e5.obj
 keep:=λi h h' ⟨e1,e2,⟨a,b,e3⟩,e4,e5⟩ k=>⟨k z (by simp) _ e1,k TI (by simp) _ e2,⟨a,b,k TO (by simp) _ e3⟩,e4.keeps λo e=>k i1 (by simp) o e,e5.keeps λo e=>k i2 (by simp) o e⟩
 item:=by
  intro X hP hw hK hc i pins s σ H E I hf ⟨e1,e2,⟨a,b,e3⟩,e4,e5⟩ hg;subst hP hw hK;obtain⟨xs,ys,q1,q2,l1,l2⟩:=hg;obtain⟨lH,v1,p1,_⟩:=Qt I q1;obtain⟨dJ,v2,p2,_⟩:=Qt I q2;have ZZ:=Z m h1 h2;have n1:a1≠i1:=uc (vb (h1 a1 (by simp)) (h2 i1 (by simp)));have n2:a2≠i2:=uc (vb (h1 a2 (by simp)) (h2 i2 (by simp)));have D1:=qM (prog:=X.prog) (w:=X.w) (yp (I.ok.hd hc)) b1 i1 a1 n1 lH.toArray;have D2:=qM (prog:=X.prog) (w:=X.w) (yp (I.ok.hd hc)) b2 i2 a2 n2 dJ.toArray;have hl1:=v1.length;have B':=v2.length;refine zU ZZ D1 D2 e1 e2 e3 ⟨e4,p1⟩ ⟨e5,p2⟩ (by simp;lia) (by simp;lia) λx y g tk px py f1 f2 f3 f4 f5 f6 f7=>⟨_,rfl,?_⟩;refine wpAny_letOwnedTupleGo_zip (s:={s with heap:=g,toks:=tk}) f1 λg' f8 f9=>?_;obtain⟨x1,Ol⟩:∃ x1,xs[i]?=some x1:=⟨xs[i],by simp[l1]⟩;obtain⟨y1,Oj⟩:∃ y1,ys[i]?=some y1:=⟨ys[i],by simp[l2]⟩;obtain⟨u1,hu1,r1⟩:=v1.get Ol;obtain⟨u2,hu2,r2⟩:=v2.get Oj;have ex:x=u1:=by have z:lH.toArray[i]?=some x:=px;simp[hu1] at z;exact z.symm
  have ey:y=u2:=by have z:dJ.toArray[i]?=some y:=py;simp[hu2] at z;exact z.symm
  subst ex ey;have zlt:z≠s.heap.objs.size:=uc (Ua e1);have I1:Inv X pins σ H {s with heap:=g',toks:=tk}:=yB (ch:=[z,TI,TO,i1,i2]) I hf λc o iz e=>by
   simp only[Wb,Ud,or_false,not_or] at iz;exact(f9.2 c iz.1).trans (f7 c o iz.1 iz.2.2.1 iz.2.2.2.1 iz.2.2.2.2 e)
  have fT:=I.kB (b:=s.heap.objs.size) (Ub _) (I.aS.fresh (Ub _));have gT:g'.get? s.heap.objs.size=some {cls:=.type "tuple",data:=.seq #[x,y]}:=(f9.2 _ (Ke zlt)).trans f5;have I2:Inv X pins σ (upd H s.heap.objs.size (.tup [x1,y1])) {s with heap:=g',toks:=tk}:=Q0 I1 fT I.sz ⟨by show 2<=sizeLine;decide,[x,y],.cons r1 (.cons r2 .nil),⟨_,gT,rfl,_,rfl⟩⟩;have kz:∀ c∈[TI,TO,i1,i2],c≠z:=λc iz=>by
   simp only[Wb,Ud,or_false] at iz
   rcases iz with rfl|rfl|rfl|rfl
   ·exact ZZ.Ae
   ·exact ZZ.rF
   ·exactλq=>ZZ.z1 (q ▸ ZZ.m1)
   ·exactλq=>ZZ.z2 (q ▸ ZZ.m2)
  refine⟨.ref s.heap.objs.size,_,I2,rfl,⟨_,x1,y1,rfl,fT.1,rfl,λzs hz=>by rw[PV I hz q1];exact Ol,λzs hz=>by rw[PV I hz q2];exact Oj⟩,
   ⟨f8,(f9.2 TI (kz TI (by simp))).trans (f7 TI _ ZZ.Ae ZZ.sM ZZ.DX ZZ.DW e2),⟨x,y,(f9.2 TO (kz TO (by simp))).trans f2⟩,f3.1.keeps λo e=>(f9.2 i1 (kz i1 (by simp))).trans e,f4.1.keeps λo e=>(f9.2 i2 (kz i2 (by simp))).trans e⟩,λc iz=>?_⟩
  have lt:c<s.heap.objs.size:=by
   simp only[Wb,Ud,or_false] at iz
   rcases iz with rfl|rfl|rfl|rfl|rfl
   ·exact Ua e1
   ·exact Ua e2
   ·exact Ua e3
   ·exact let ⟨o,e,_⟩:=e4.obj;Ua e
   ·exact let ⟨o,e,_⟩:=e5.obj;Ua e
  rw[Qc (uc lt)];exact(hf c iz).1
 done:=by
  intro X hP hw hK hc i pins s σ H E I hf ⟨e1,e2,⟨a,b,e3⟩,e4,e5⟩ hg;subst hP hw hK;obtain⟨xs,ys,q1,q2,hk⟩:=hg;obtain⟨lH,v1,p1,_⟩:=Qt I q1;obtain⟨dJ,v2,p2,_⟩:=Qt I q2;have ZZ:=Z m h1 h2;have n1:a1≠i1:=uc (vb (h1 a1 (by simp)) (h2 i1 (by simp)));have n2:a2≠i2:=uc (vb (h1 a2 (by simp)) (h2 i2 (by simp)));have D1:=qM (prog:=X.prog) (w:=X.w) (yp (I.ok.hd hc)) b1 i1 a1 n1 lH.toArray;have D2:=qM (prog:=X.prog) (w:=X.w) (yp (I.ok.hd hc)) b2 i2 a2 n2 dJ.toArray;have hl1:=v1.length;have B':=v2.length;refine YX ZZ D1 D2 e1 e2 e3 ⟨e4,p1⟩ ⟨e5,p2⟩ (by simp;lia) λg tk k=>⟨rfl,?_⟩;exact yB (ch:=[z,TI,TO,i1,i2]) I hf λc o iz e=>by
   simp only[Wb,Ud,or_false,not_or] at iz;exact k c o iz.1 iz.2.2.1 iz.2.2.2.1 iz.2.2.2.2 e
 self:=λ_ _ _ _ _ st h=>eY st.1 h
end
section
variable {X:Cx}
theorem NI      (hc:X.calm=true)(T:Turn X.prog X.w X.K tg J fp it tn):J8 X tg J fp it tn :=
 λY e1 e2 e3 e4 e5 i pins s σ H E I f t g=>by
  have q:=T.item Y e1 e2 e3 (e4.trans hc) i pins s σ H E I f t g;rw[e5] at q;exact q
theorem LP      (hc:X.calm=true)(T:Turn X.prog X.w X.K tg J fp it tn):FD X J fp it tn :=
 λY e1 e2 e3 e4 e5 _ i pins s σ H E I f t g=>by
  have q:=T.done Y e1 e2 e3 (e4.trans hc) i pins s σ H E I f t g;rw[e5] at q;exact q
variable {elt iter tg:Expr} {ifs:List Expr} {cs:az} {pos:Pos} {wi:TI} {g:TG} {tc:TT} {te:TE}
theorem qcM(N')(bW)(js)(aS:QA X.env.scope X.N cs N' bW js=true)(hc:X.calm=true)(hi:PI X tg iter wi)(hg:∀ C s3 H ex,PG (ia X cs N' C s3 H ex) tg g)(nX:∀ C s3 H ex,nB (ia X cs N' C s3 H ex) ifs tc)
  (jG:∀ C s3 H ex,PE (ia X cs N' C s3 H ex) elt te) (hs:∀ x,bX iter X.env x=pure x:=by intro _;rfl):PE X (.ListComp elt [⟨tg,iter,ifs,0⟩] cs pos) (Fi wi bW js g tc te):=by
 intro pins s σ H Q I h;have ok:=hZ.of aS;rw[eval_ListComp];refine cD (use:=none) rfl hs (HG λy hy e=>I.ok.has y.1 (ok.free y hy e)) ok.kind ok.locs (bw (hi pins s σ H _ I h) λv s1 h1=>bw h1 λEA s2 h2=>?_);obtain⟨it,fp,tn,J,H2,e,I2,T,nE,f2,W,w0,turn⟩:=h2;subst e;refine K0 (Q:=Q) (RR:=λacc C=>lW (aj X.prog X.w) X.A X.xe none (EP X pins σ Q) acc C) ok hg nX jG I2 T.mem T.obj T.keep (NI hc T) (LP hc T) T.self nE f2 W w0 turn λD C acc H' s6 IX fC zC hm q=>?_;obtain⟨m,hm⟩:=hm;refine⟨m,hm,λh' sb=>⟨.ref D,_,?_,rfl,q⟩⟩;exact yB (t':=s6.toks) (ch:=[C]) IX (λb hb=>by obtain rfl:=vc.mp hb;exact fC) λb o hb e=>(sb.2 b λz=>hb (by simp[z])).trans e
theorem ZcE    (hN:X.N.Nodup)(pP:X.N[i]?=some x)(hx:Loc X.env.scope x)(N')(bW)(js)(aS:QA X.env.scope X.N cs N' bW js=true)(hc:X.calm=true)(hi:PI X tg iter wi)
  (hg:∀ C s3 H ex,PG (ia X cs N' C s3 H ex) tg g) (nX:∀ C s3 H ex,nB (ia X cs N' C s3 H ex) ifs tc) (jG:∀ C s3 H ex,PE (ia X cs N' C s3 H ex) elt te)
  (tP:bq (.ListComp elt [⟨tg,iter,ifs,0⟩] cs pos) (some (.Name x pos')) sT.line X.env=pure true:=by rfl) (hs:∀ x,bX iter X.env x=pure x:=by intro _;rfl)
  (hf:X.fn x=true\/X.env.scope.names.lookup x=some .local:=by first|exact .inl rfl|exact .inr rfl|assumption) :
  PS X (.Assign [.Name x pos'] (.ListComp elt [⟨tg,iter,ifs,0⟩] cs pos) sT) (vO (Fi wi bW js g tc te) (rQ i)):=by
 intro pins s σ H D0 I h;have ok:=hZ.of aS;rw[fN _ _ _ _ tP];refine aa (dw (aa ?_));show ah _ X.A (do let _<-kF (.ListComp elt [⟨tg,iter,ifs,0⟩] cs pos) cs X.env _ (newList []) false (eval iter X.env) (some (dh (.Name x pos') X.env))) _ _ s;refine aa (aU (cD (use:=some (dh (.Name x pos') X.env)) (Q:=λ_ s'=>SP X pins D0 .next s') rfl hs (HG λy hy e=>I.ok.has y.1 (ok.free y hy e)) ok.kind ok.locs (bw (hi pins s σ H _ I h) λv s1 h1=>bw h1 λEA s2 h2=>?_))
  (λ_ s' hq=>af (af hq)) λ_ _ e=>e)
 obtain⟨it,fp,tn,J,H2,e,I2,T,nE,f2,W,w0,turn⟩:=h2;subst e;refine K0 (Q:=λv H'=>rQ i v σ H' D0.nx) (RR:=λacc C=>lW (aj X.prog X.w) X.A X.xe (some (dh (.Name x pos') X.env)) (λ_ s'=>SP X pins D0 .next s') acc C) ok hg nX jG I2 T.mem T.obj T.keep (NI hc T) (LP hc T) T.self nE f2 W w0 turn λD C acc H' s6 IX fC zC hm q=>?_;obtain⟨m,hm⟩:=hm;obtain⟨oC,JM,JQ,gC,dC,rC⟩:=id hm;have nc:∀ v,oC.data≠.cell v:=λv z=>by rw[dC] at z;cases z
 have Ln:=IX.pinned (fp:=[C]) (λb hb=>by obtain rfl:=vc.mp hb;exact fC) (λb hb=>by obtain rfl:=vc.mp hb;exact⟨oC,gC,nc⟩);show ah (aj X.prog X.w) X.A (dh (.Name x pos') X.env (.ref D)) _ X.xe s6;refine bw (Fg hN pP hx hf _ s6 σ _ (.ref D) (.ref D) _ Ln rfl q) λ_ s7 ⟨σ7,H7,I7,q7⟩=>?_;obtain⟨g7,d7⟩:=Yn I7 (Wf _ (qq (vc.mpr rfl) gC));refine⟨m,⟨oC,JM,JQ,g7,dC,rC⟩,λh' sb=>⟨σ7,H7,?_,q7⟩⟩;obtain⟨_,c1,c2,c3,c4,c5⟩:=fC;exact yB (t':=s7.toks) (ch:=[C]) I7.fV (λb hb=>by obtain rfl:=vc.mp hb;exact⟨d7,c1,c2,c3,c4,c5⟩) λb o hb e=>(sb.2 b λz=>hb (by simp[z])).trans e
theorem QB{a b:Nat}(h:a<b\/b<a):a≠b:=by lia
theorem vQ  (h1:a≠b)(h2:a≠c):(a:ae)∉([b,c]:List ae):=by
 simp only[Wb,Ud,or_false,not_or];exact⟨h1,h2⟩
theorem Mz(n a1 a2:Nat)(h1:a1<n)(h2:a2<n):mT (n+4) (n+2) (n+3) n (n+1) [n,a1] [n+1,a2] where
 Ae:=QB (a:=n+2) (b:=n+4) (by lia)
 rF:=QB (a:=n+3) (b:=n+4) (by lia)
 sM:=QB (a:=n+2) (b:=n+3) (by lia)
 DX:=QB (a:=n+2) (b:=n) (by lia)
 DW:=QB (a:=n+2) (b:=n+1) (by lia)
 z1:=vQ (QB (by lia)) (QB (by lia))
 z2:=vQ (QB (by lia)) (QB (by lia))
 t1:=vQ (QB (by lia)) (QB (by lia))
 t2:=vQ (QB (by lia)) (QB (by lia))
 m1:=by simp
 m2:=by simp
 a1:=vQ (QB (by lia)) (QB (by lia))
 a2:=vQ (QB (by lia)) (QB (by lia))
theorem JE  (h:(b:ae)∈([n+4,n+2,n+3,n,n+1]:List ae)):n<=b:=by
 simp only[Wb,Ud,or_false] at h
 rcases h with h|h|h|h|h <;> (have h':b=_:=h;rw[h'];first|exact Nat.le_add_right _ _|exact Ub _)
noncomputable def BV(K:Gc)(ta:TA):TI:=λσ H R=>ta σ H λvs H1=>∃ b1 b2 a1 a2,vs=[.ref a1,.ref a2]/\(∃ xs,i8 K H1 b1 a1 xs)/\(∃ ys,i8 K H1 b2 a2 ys)/\R (Lm K b1 b2 a1 a2) H1
theorem Zc6       (hg:Gl X "zip")(hm:X.mg "zip"=none)(ha:PA X [a,b] ta)(hs:ao [a,b] X.env=[(false,eval a X.env),(false,eval b X.env)]:=by rfl)(kR:ao [b] X.env=[(false,eval b X.env)]:=by rfl) :
  PI X (.Tuple es kt pt) (.Call (.Name "zip" p) [a,b] [] pos) (BV X.K ta):=by
 intro pins s σ H R I h;refine Call_ (YY I hg hm boot_zip (kg (bw (ha pos pins s σ H _ I h) λus s1 ⟨vs,H1,I1,r1,q1⟩=>?_) (by rw[hs,kR]) (by rw[kR];rfl)));obtain⟨b1,b2,a1,a2,e,⟨xs,h1⟩,⟨ys,h2⟩,q⟩:=q1;subst e;cases r1 with
 |cons r rr =>
  cases rr with
  |cons r' rr =>
   cases rr;obtain rfl:_=Ka a1:=r;obtain rfl:_=Ka a2:=r';obtain⟨lH,v1,p1,_⟩:=Qt I1 h1;obtain⟨dJ,v2,p2,_⟩:=Qt I1 h2;have l1:=p1.lt;have l2:=p2.lt;refine OX p1 p2 λg f1 f2 f3 f4 f5 f6=>?_;refine eY f1 ?_;refine⟨s1.heap.objs.size+4,[s1.heap.objs.size+4,s1.heap.objs.size+2,s1.heap.objs.size+3,s1.heap.objs.size,s1.heap.objs.size+1],_,_,H1,rfl,I1.kept (t':=s1.toks) f6,qb6 (b1:=b1) (b2:=b2) (a1:=a1) (a2:=a2) (λ_ _ _=>Mz _ a1 a2 l1 l2) s1.heap.objs.size (λa EN=>?_) (λa EN=>JE EN),⟨f1,f2,⟨_,_,f3⟩,f4,f5⟩,λb hb=>I1.kB (JE hb) (I1.aS.fresh (JE hb)),q⟩;simp only[Wb,Ud,or_false] at EN
   rcases EN with rfl|rfl <;> assumption
end
noncomputable def kL(P:ak)(w:World):mG:=λouter H s E e s'=>∃ x C t tb H',e=.ref x/\s'.os=s.os/\dS s'.gens/\Un (mr outer) [] H H' s.heap s'.heap/\fQ P w H' s'.heap/\s'.heap.get? x=some (Qn C t tb)/\Tb s'.heap x tb /\
 H' x=none/\s.heap.get? x=none/\(∀ T,tb=.ref T->H' T=none/\s.heap.get? T=none)/\E (.ref C) none H'
structure kJ (X:Cx) (pins:List (ae×Obj)) (H:Hp) (b:ae):Prop where
 un:H b=none
 loc:b≠X.env.locals
 fs:b∉X.fs
 new:X.s₀.heap.get? b=none
 cell:∀ x c,X.env.cells.lookup x=some c->c≠b
 pin:∀ p∈X.pn++pins,p.1≠b
def Ec(X:Cx)(E:XK):Prop:=∀(pins:List (ae×Obj)) (σ:L2.St) (H:Hp) (s:ag) (x C t:ae) (tb:Value),Inv X pins σ H s->s.heap.get? x=some (Qn C t tb)->Tb s.heap x tb->kJ X pins H x->(∀ T,tb=.ref T->kJ X pins H T)->E (.ref C) none H->X.xe (.ref x) s
section
variable {X:Cx} {pins:List (ae×Obj)} {σ:L2.St} {H H':Hp} {s:ag}
theorem YV  (I:Inv X pins σ H s)(hx:X.ex=[])(hb:s.heap.get? b=none)(hn:H' b=none):kJ X pins H' b:=by
 have al:∀{c o},s.heap.get? c=some o->c≠b:=λ{c o} e z=>by rw[z,hb] at e;cases e
 refine⟨hn,λz=>?_,λz=>?_,?_,λx c e=>?_,λp hp=>al (I.pin p hp).1⟩
 ·obtain⟨m,⟨o,_,_,e,_⟩,_⟩:=I.loc;exact al e z.symm
 ·obtain⟨_,o,e,_⟩:=I.gw.mem z;exact al e rfl
 ·cases q:X.s₀.heap.get? b with
  |none=>rfl
  |some o =>
   obtain⟨o',e⟩:=I.base.there b o q (by rw[hx];exactλz=>nomatch z);exact absurd rfl (al e)
 ·obtain⟨v,o,e,_⟩:=I.cell x c e;exact al e
theorem Yb3  (hx:X.ex=[])(T:Ec X E):Qdd (kL X.prog X.w) X E:=by
 intro pins σ H s e s' I h;obtain⟨x,C,t,tb,H',rfl,os,bare,un,aS,e1,e2,e3,e4,e5,q⟩:=h;have I':Inv X pins σ H' s':=I.oj (ch:=[]) os un aS bare λb z=>nomatch z;exact T pins σ H' s' x C t tb I' e1 e2 (YV I hx e4 e3) (λT' z=>YV I hx (e5 T' z).2 (e5 T' z).1) q
theorem PZ       (ok:fQ P w H h)(n:jV fs x tb h h')(hf:∀ b∈fs,H b=none)(hx:H x=none)(ht:∀ T,tb=.ref T->H T=none):fQ P w H h':=λb u e=>by
 have go:∀ c v,H c≠none->h.get? c=some v->h'.get? c=some v:=λc v hc q=>n.keep c v (λz=>hc (hf c z)) (λz=>hc (z ▸ hx)) (λz=>hc (ht c z.symm)) q;refine(ok b u e).kU (λc v hc q=>go c v ?_ q) (λ_ q=>q) λ_ _ q=>q
 rcases hc with z|z
 ·rw[z,e];exactλz=>nomatch z
 ·rw[z];exactλz=>nomatch z
theorem YR       (n:jV fs x tb h h')(h1:b≠x)(h2:Ka b≠tb)(e:h.get? b=some o):∃ sl,h'.get? b=some {o with slots:=sl}:=by
 by_cases z:b∈fs
 ·exact n.slot b o z h1 h2 e
 ·exact⟨o.slots,n.keep b o z h1 h2 e⟩
theorem Ms      (u:Un fs ex H0 H h0 h)(n:jV JI x tb h h')(hx:h0.get? x=none)(ht:∀ T,tb=.ref T->h0.get? T=none)(hs:∀ b o,h0.get? b=some o->b∉fs->b∉JI):Un fs ex H0 H h0 h':=by
 have ne:∀ b o,h0.get? b=some o->b≠x/\Ka b≠tb:=λb o e=>⟨λz=>(by rw[z,hx] at e;cases e),λz=>(by rw[ht b z.symm] at e;cases e)⟩;refine⟨λb o e q hb lL=>n.keep b o (hs b o e hb) (ne b o e).1 (ne b o e).2 (u.keep b o e q hb lL),λb o e q hb lL=>?_,u.free,λb o e lL=>?_,u.iF,u.iU,u.jz⟩
 ·obtain⟨sl,z⟩:=u.slot b o e q hb lL;obtain⟨D6,z'⟩:=YR n (ne b o e).1 (ne b o e).2 z;exact⟨D6,z'⟩
 ·obtain⟨o',z⟩:=u.there b o e lL;obtain⟨D6,z'⟩:=YR n (ne b o e).1 (ne b o e).2 z;exact⟨_,z'⟩
theorem O9(I:Inv X pins σ H s)   (e:X.s₀.heap.get? b=some o)(hb:b∉X.fs):b∉mr X.stack:=λz=>by
 rcases Wb.mp (I.gY b z) with y|y
 ·exact absurd (vb (Ua e) I.ok.above) (by rw[y];exact Wj _)
 ·exact hb y
theorem ZbU     (I:Inv X pins σ H s)(n:jV (mr X.stack) x tb s.heap h')(he:s.heap.get? x=some (Qn C t tb))(htb:Tb s.heap x tb)(fx:kJ X pins H x)(ft:∀ T,tb=.ref T->kJ X pins H T):Inv X pins σ H {s with heap:=h',toks:=t'}:=by
 -- a M6 that is no record is Eo pf exception nor aw vT
 have mZ:∀ b o,s.heap.get? b=some o->(∀ vs,o.data≠.fields vs)->b≠x/\Ka b≠tb:=λb o e nf=>by
  refine⟨λz=>?_,λz=>?_⟩
  ·rw[z,he] at e;cases e;exact nf _ rfl
  ·cases htb with
   |no=>cases z
   |@«at» T oT ts ne ho hd h3 =>
    cases z;rw[ho] at e;cases e;exact nf ts hd
 have cellK:∀ c v,s.heap.IsCell c v->h'.IsCell c v:=λc v ⟨o,ho,hd⟩=>by
  obtain⟨a,b⟩:=mZ c o ho λvs z=>by rw[hd] at z;cases z
  obtain⟨sl,q⟩:=YR n a b ho;exact⟨_,q,hd⟩
 refine⟨I.ok,I.os,I.bare,Ms I.base n fx.new (λT z=>(ft T z).new) λb o e hb=>O9 I e hb,?_,λy c e=>?_,I.free,I.dN,λp hp=>?_,PZ I.aS n I.iX fx.un λT z=>(ft T z).un,I.len⟩
 ·obtain⟨m,⟨o,es,ep,ho,hd,r⟩,hl⟩:=I.loc;obtain⟨a,b⟩:=mZ _ o ho λvs z=>by rw[hd] at z;cases z
  obtain⟨sl,q⟩:=YR n a b ho;refine⟨m,⟨_,es,ep,q,hd,r⟩,λi y v e1 e2 e3=>?_⟩;obtain⟨u,ru,l⟩:=hl i y v e1 e2 e3;refine⟨u,ru,?_⟩
  rcases l with l|⟨k,c,e,z⟩
  ·exact .inl l
  ·exact .inr ⟨k,c,e,cellK c _ z⟩
 ·obtain⟨v,z⟩:=I.cell y c e;exact⟨v,cellK c v z⟩
 ·obtain⟨e1,e2,e3,e4,e5⟩:=I.pin p hp;refine⟨n.keep _ _ (λz=>?_) (fx.pin p hp) (λz=>(ft p.1 z.symm).pin p hp rfl) e1,e2,e3,e4,e5⟩
  rcases Wb.mp (I.gY p.1 z) with y|y
  ·exact e3 y
  ·exact e4 y
end
theorem P6{P:ak}{w:World}{K:Gc}{mg:Str->Option Value}{base:Heap}{N:List Str}{qual:Str}{scope:az}{f:ae}{cd:Value}{A:Around}{outer:List Env}{s0:ag}{H0:Hp}{E:XK} :
  Ec (mM (kL P w) P w K mg base N qual scope f cd A outer s0 H0 E) E:=by
 intro pins σ H s x C t tb I e1 e2 fx ft q;refine ybS (env:=dt qual scope s0.heap.objs.size f cd) (outer:=outer) (L:=s0.heap.objs.size) I.ok.frames I.stack rfl e1 e2 λh' T n g1 g2 g3=>?_;refine⟨x,C,t,.ref T,H,rfl,I.os,I.bare,Ms I.base n fx.new (λT z=>(ft T z).new) λb o e hb=>O9 I e hb,PZ I.aS n I.iX fx.un λT z=>(ft T z).un,g1,g2,fx.un,fx.new,λT' z=>?_,q⟩;cases z;exact⟨I.aS.fresh g3,VE (xf I.sz g3)⟩
theorem YcI{P:ak}{w:World}{K:Gc}{mg:Str->Option Value}{base:Heap}{N:List Str}{qual:Str}{scope:az}{f:ae}{cd:Value}{A:Around}{outer:List Env}{s0:ag}{H0:Hp}{E:XK}{CX:mG} :
  gG (aj P w) (mM CX P w K mg base N qual scope f cd A outer s0 H0 E).A (mM CX P w K mg base N qual scope f cd A outer s0 H0 E).env (mM CX P w K mg base N qual scope f cd A outer s0 H0 E).xe:=gG.leaving
abbrev wV:List Value:=[.type "ValueError",.type "Exception",.type "BaseException",.type "object"]
def YO(K:Gc)(C:ae):Prop:=xB K C wV "ValueError.__new__"=true
noncomputable def ZB(K:Gc)(C:ae):List Value:=match K.lookup C with
 |some ⟨_,_,.cls cd,_⟩=>cd.mro.tail
 |_=>[]
set_option tactic.hygienic true in
theorem xU{K:Gc}{h:Heap}{C:ae}(KX:K.In h)(q:YO K C) :
  ∃ N nm qn bs hdct sn sub ab col dd k0 k1 k2 k3 k5 mN,h.get? C=some (excClassObj nm qn C N bs (ZB K C) hdct sn sub ab col dd k0 k1 k2 k3 k5 "ValueError.__new__")/\h.Ns N mN/\mN "__init__"=none/\OwnTail h wV (ZB K C):=by
 unfold YO xB at q;split at q
 next dd cd sl ho =>
  split at q
  next C' bm k0 k1 k2 k3 n k5 hm hs =>
   simp only[Wa,beq_iff_eq,Wi] at q;obtain(⟨⟨⟨⟨⟨q1,q2⟩,q3⟩,q4⟩,q5⟩,q6⟩):=q;subst q1 q2;have JT:ZB K C'=bm:=by unfold ZB;rw[ho];dsimp only;rw[hm];rfl
   cases cd with
   |mk nm bs mro ns qn hd sn sub ab col del =>
    dsimp only at hm q3 q5 q6;subst hm q3;obtain(⟨l⟩):=sl;dsimp only at hs;subst hs;rw[JT];exact⟨ns,nm,qn,bs,hd,sn,sub,ab,col,dd,k0,k1,k2,k3,k5,_,KX _ _ ho,.of_isNs (PySem.W.isNs_of_in KX q5),PySem.W.nsMap_none_of_in KX q5 q6,PySem.W.tail_of_in KX q4⟩
  next=>cases q
 next=>cases q
section
variable {X:Cx} {e:Expr} {es:List Expr} {ta:TA} {c:Str} {np eU pos:Pos} {C:ae} {E:XK}
noncomputable def Yc8(C:ae)(E:XK)(ta:TA):TS:=λ_ σ H=>ta σ H λvs H1=>vs.length<=sizeLine/\E (.ref C) none H1
theorem ych(hc:X.calm=true)(hx:X.ex=[])(T:Ec X E)(q:YO X.K C)(hg:Gl X c)(hm:X.mg c=some (.ref C))(ha:PA X (e::es) ta)(hd:(c==("__debug__":Str))=false:=by decide)
  (he:ao (e::es) X.env=(false,eval e X.env)::ao es X.env:=by rfl) (cC:(a9 eU (ao es X.env)).any (·.1)=false:=by rfl) :
  PS X (.Raise (some (.Call (.Name c np) (e::es) [] eU)) none pos) (Yc8 C E ta):=by
 intro pins s σ H D I h;obtain⟨N,nm,qn,bs,hdct,sn,sub,ab,col,dd,k0,k1,k2,k3,k5,mN,oC,oN,ni,TL⟩:=xU I.ok.mod.rY q;refine wpAny_Raise_call_subT (C:=C) (nm:=nm) (q:=qn) (N:=N) (bs:=bs) (bm:=ZB X.K C) (hdct:=hdct) (sn:=sn) (sub:=sub) (ab:=ab) (col:=col) (dd:=dd) (k0:=k0) (k1:=k1) (k2:=k2) (k3:=k3) (k5:=k5) (mN:=mN)
  PySem.F.excBase_ValueError (TL.hasType (by decide)) (I.ok.hd hc) (by rw[he];show(false||(a9 eU (ao es X.env)).any (·.1))=false;rw[cC];rfl) ni (ZQ I hg hm ⟨rfl,?_⟩ hd)
 have hw:=ha eU pins s σ H _ I h;rw[he] at hw ⊢;refine Ge (aU hw (λus s2 ⟨vs,H2,I2,r,z,q2⟩=>?_) λ_ _ y=>y);refine⟨rfl,by rw[<- r.length];exact z,I2.bk _ _ oC,oN.keeps I2.bk,TL.keeps I2.bk,λh' x nj=>?_⟩;obtain⟨t,e1,e2,e3⟩:=nj.there;have I3:Inv X pins σ H2 {s2 with heap:=h'}:=I2.kept (t':=s2.toks) nj.keeps;have nx:H2 x=none:=by
  cases z:H2 x with
  |none=>rfl
  |some o =>
   obtain⟨o',e'⟩:∃ o',s2.heap.get? x=some o':=by
    have lt:=I2.aS x o z;cases q0:s2.heap.get? x with
    |some o'=>exact⟨o',rfl⟩
    |none =>
     exfalso;have z0:=lt;cases o with
     |lst xs=>obtain⟨_,_,_,_,e0⟩:=z0;rw[q0] at e0;cases e0
     |tup xs=>obtain⟨_,_,_,ob,e0,_⟩:=z0;rw[q0] at e0;cases e0
     |dK kvs=>obtain⟨_,_,_,_,ob,_,_,e0,_⟩:=z0;rw[q0] at e0;cases e0
     |dT kvs=>obtain⟨_,_,_,_,ob,_,_,e0,_⟩:=z0;rw[q0] at e0;cases e0
     |set S n=>obtain⟨ob,_,_,_,e0,_⟩:=z0;rw[q0] at e0;cases e0
     |ins C dx fs=>obtain⟨_,_,_,e0,_⟩:=z0;rw[q0] at e0;cases e0
     |own y=>obtain⟨_,e0⟩:=z0;rw[q0] at e0;cases e0
     |xd fs=>obtain⟨_,⟨_,_,_,e0,_⟩,_⟩:=z0;rw[q0] at e0;cases e0
     |D8 lo hi=>obtain⟨_,_,_,e0⟩:=z0;rw[q0] at e0;cases e0
     |eO ob u=>obtain⟨e0,_⟩:=z0;rw[q0] at e0;cases e0
     |rG ps=>have e0:s2.heap.get? x=some _:=z0;rw[q0] at e0;cases e0
     |met f y=>have e0:s2.heap.get? x=some _:=z0;rw[q0] at e0;cases e0
     |ext φ=>obtain⟨_,⟨_,e0⟩,_⟩:=z0;rw[q0] at e0;cases e0
   rw[nj.new] at e';cases e'
 exact T pins σ H2 _ x C t .none I3 e1 .no (YV I2 hx nj.new nx) (λT z=>nomatch z) q2
end
structure mF (K:Gc) (C:ae):Prop where
 q:YO K C
 ga:Wc K (.ref C) "__getattribute__"=some (some (.builtin "BaseException.__getattribute__"))
 gt:Wc K (.ref C) "__getattr__"=some none
 cl:Wc K (.ref C) "__class__"=some (some (.builtin "object.__class__"))
 gn:Vm K (.builtin "object.__class__") "__get__"=some (some (.builtin "getset_descriptor.__get__"))
 tk:Vo K (.builtin "object.__class__")=some true
 mo:vw K C (.type "object")=some true
 ci:(xj K C).isSome=true
def ExcAt(x C:ae)(h:Heap):Prop:=∃ t tb,h.get? x=some (Qn C t tb)
theorem LI    (e:h.get? x=some (Qn C t tb)):Gd h x (Qn C t tb) C none:=⟨e,rfl,rfl,Kg⟩
theorem Qa5{K:Gc}{C:ae}{a g:Value}{name:Str}(hc:(xj K C).isSome=true)(ha:Wc K (.ref C) name=some (some a))(hg:Vm K a "__get__"=some (some g))(ht:Vo K a=some true) :
  Hd K C none name=some (.bind g a):=by
 obtain⟨cd,hc⟩:=Vk.mp hc;unfold Hd;rw[hc,wm,ha,wm];simp[hg,ht]
theorem Qbz{K:Gc}{C:ae}(ci:(xj K C).isSome=true)(M:Model)(h:Heap)(X:K.In h):Kd M h (isType (.ref C)) true:=by
 unfold xj at ci;split at ci
 next ho =>
  intro A' Q' E' s' k q;unfold isType loadHead;exact aa (jv (k _ _ (X _ _ ho)) (af q))
 next=>cases ci
theorem ybT(v):bindSpecial (.builtin "BaseException.__getattribute__") v=pure (.builtin "BaseException.__getattribute__",[v]):=gh.ga.bind v
theorem zbU{K:Gc}{C x t:ae}{tb rX:Value}(q:YO K C){M:Model}{A:Around}{E:Value->ag->Prop}{Q:Unit->ag->Prop}{s:ag}(X:K.In s.heap)(e:s.heap.get? x=some (Qn C t tb))(hq:Q () s) :
  ah M A (iM "BaseException.__getattribute__" ⟨[.ref x,rX],[]⟩) Q E s:=by
 obtain⟨N,nm,qn,bs,hdct,sn,sub,ab,col,dd,k0,k1,k2,k3,k5,mN,oC,oN,ni,TL⟩:=xU X q;obtain⟨hh,g,d,tk,os⟩:=s;have hcB:(Ka C::ZB K C).contains (.type "BaseException")=true:=by rw[VA,TL.hasType (show wV.contains (.type "BaseException")=true by decide)];rfl
 have hk:builtinKind "BaseException.__getattribute__"=some .slot:=by decide +kernel
 have jD:splitId "BaseException.__getattribute__"=some ("BaseException","__getattribute__"):=by decide +kernel
 have ha:=PySem.F.args_bexc_ga (.ref x) rX;simp only[iM,hk,jD];refine aa ?_;unfold isInstance
 repeat (first|(with_reducible refine eL e ?_)|(with_reducible refine dM oC ?_;rw[hcB])|wp_step)
 exact hq
theorem ZbW{K:Gc}{C x t:ae}{tb:Value}(Z:mF K C){prog:ak}{w:World}{A:Around}{E:Value->ag->Prop}{Q:Option Value->ag->Prop}{s:ag}(X:K.In s.heap)(e:s.heap.get? x=some (Qn C t tb))(k:Q (some (.ref C)) {s with toks:=s.toks+1}) :
  ah (aj prog w) A (jJ (.ref x) "__class__") Q E s:=by
 have I:=LI e;obtain⟨N,nm,qn,bs,hdct,sn,sub,ab,col,dd,k0,k1,k2,k3,k5,mN,oC,oN,ni,TL⟩:=xU X Z.q;obtain⟨hh,g,d,tk,os⟩:=s;have L0:=I.type (M:=aj prog w);have L1:=vt (M:=aj prog w) X Z.ga;have L2:=vt (M:=aj prog w) X Z.gt;have L3:=PySem.W.looks_find (M:=aj prog w) X I (Qa5 Z.ci Z.cl Z.gn Z.tk);have nb:(kO (Ka C)&&Ja "BaseException.__getattribute__" == Ja "object.__getattribute__")=false:=by
  rw[show(Ja "BaseException.__getattribute__" == Ja "object.__getattribute__")=false from by decide +kernel];rfl
 unfold jJ getAttrBy? getAttrBy;refine aa (wpAny_mkText (aa (bT (av (aa (L0.at (aa (L1.at ?_))))))));show ah _ _ (if(kO (Ka C)&&Ja "BaseException.__getattribute__" == Ja "object.__getattribute__")=true then _ else _) _ _ _;rw[if_neg (by rw[nb];exact Xd)];unfold getAttrByItsOwn hookBefore;rw[if_pos (show kO (Ka C)=true from rfl)];refine aa (L2.at (aa (bT (av ?_))));show ah _ _ (jP (.builtin "BaseException.__getattribute__") (.ref x) _) _ _ _;unfold jP;rw[ybT];refine aa (af (dW (dG gh.ga.plain PySem.F.entry_bexc_ga ?_)));refine zbU Z.q X e ?_;show ah _ _ (typeOf (.ref x) >>= _) _ _ _;refine aa (L0.at (aa (L3.at ?_)));show ah _ _ (Builtin.ObjectAttr.bindTo (.builtin "getset_descriptor.__get__") (.builtin "object.__class__") (.ref x) (.ref C)) _ _ _;unfold Builtin.ObjectAttr.bindTo;refine aa (av (dW (PySem.W.class_get (ox:=Qn C t tb) (od:=none) X I Z.mo (af ?_))));exact PySem.W.handed_on rfl (af k)
theorem Qcu{K:Gc}{C x:ae}(Z:mF K C):PySem.W.KitX K (.ref x) (.ref C) (ExcAt x C) where
 ty:=λM h _ ⟨t,tb,e⟩=>(LI e).type
 it:=λM h X _=>Qbz Z.ci M h X
 ne:=λh tp dd aw n sl X htp=>by
  refine Bool.eq_false_iff.mpr λq=>?_;have e:C=tp:=Ka.inj (beq_iff_eq.mp q);subst e;have ci:=Z.ci;unfold xj at ci;split at ci
  next ho =>
   have z:=(X _ _ ho).symm.trans htp;cases z
  next=>cases ci
 ca:=λX ⟨t,tb,e⟩ k=>ZbW Z X e k
section
variable {X:Cx} {pins:List (ae×Obj)} {σ:L2.St} {H:Hp} {s:ag}
theorem YbZ     (I:Inv X pins σ H s) (hN:X.N.Nodup) (hi:X.N[i]?=some n)
     (hn:s.heap.Ns X.env.locals m) (hl:∀ (i:Nat) (x:Str) (v:V),X.N[i]?=some x→σ[i]?=some (some v)→Fp X.env.scope x→∃ u,RelV v u∧Look X.env s.heap m x u) (IF:h'.Ns X.env.locals m') (hm:∀ y,y≠n→m' y=m y) (hs:je X.env.locals s.heap h'):Inv X pins (σ.set i none) H {s with heap:=h',toks:=t'}:=by
  obtain ⟨oL,_,_,gL,_⟩:=id hn
  have EL:i < σ.length:=by rw [I.len]; exact (xa.mp hi).1
  have nl:∀ b o,X.s₀.heap.get? b=some o→b≠X.env.locals:=fun b o e=>uc (vb (Ua e) I.ok.above)
  refine ⟨I.ok,I.os,I.bare,⟨fun b o e q hb hx=>(hs.2 b (nl b o e)).trans (I.base.keep b o e q hb hx),fun b o e q hb hx=>?_,I.base.free,fun b o e hx=>?_,I.base.iF,I.base.iU,I.base.jz⟩,⟨m',IF,fun j y v e1 e2 e3=>?_⟩,fun y c e=>?_,I.free,I.dN,fun p hp=>?_,fun b u e=>?_,by simpa using I.len⟩
  · obtain ⟨sl,z⟩:=I.base.slot b o e q hb hx
    exact ⟨sl,(hs.2 b (nl b o e)).trans z⟩
  · obtain ⟨o',z⟩:=I.base.there b o e hx
    exact ⟨o',(hs.2 b (nl b o e)).trans z⟩
  · by_cases hj:j=i
    · subst hj
      rw [uf EL] at e2
      cases e2
    · rw [we (Ke hj)] at e2
      obtain ⟨u,r,q⟩:=hl j y v e1 e2 e3
      refine ⟨u,r,?_⟩
      rcases q with ⟨k,e⟩ | ⟨k,c,e,z⟩
      · exact .inl ⟨k,by rw [hm y fun z=>hj (KL hN e1 (z ▸ hi))]; exact e⟩
      · exact .inr ⟨k,c,e,z.sameBut hs (I.pX y c e)⟩
  · obtain ⟨v,z⟩:=I.cell y c e
    exact ⟨v,z.sameBut hs (I.pX y c e)⟩
  · obtain ⟨e,q,ne,nf,d⟩:=I.pin p hp
    exact ⟨(hs.2 p.1 ne).trans e,q,ne,nf,d⟩
  · refine (I.aS b u e).kU (fun c v hc q=>(hs.2 c ?_).trans q) (fun _ q=>q) fun _ _ q=>q
    rintro rfl
    rcases hc with rfl | hc
    · rw [I.free] at e; cases e
    · rw [I.free] at hc; cases hc
theorem yZ       (I:Inv X pins σ H s)(hN:X.N.Nodup)(hi:X.N[i]?=some n)(hk:X.env.scope.names.lookup n=some .local)
  (h:∀ s',Inv X pins (σ.set i none) H s'->Q () s'):ah (aj X.prog X.w) A (do bindName X.env n .none;fW X.env n pos) Q E s:=by
 have hp:(X.env.scope.kind == .class||(X.env.scope.kind == .module&&X.env.locals != X.env.globals))=false:=by rw[I.ok.kind];rfl
 obtain⟨m,hn,hl⟩:=id I.loc;refine aa (wpAny_bindName (fJ hk hn (λh1 n1 s1=>?_) hp));unfold fW;refine dy (wpAny_unbindName_local hk n1 (v:=.none) (by simp) hp λh2 u n2 s2=>h _ ?_);show Inv X pins (σ.set i none) H {s with heap:=h2,toks:=s.toks+1};exact YbZ (s:=s) I hN hi hn hl n2 (λy hy=>by simp[hy]) (s1.trans s2)
end
theorem ybh{K:Gc}{C B x t:ae}{tb:Value}(q:YO K C)(qB:YO K B)(jE:(ZB K C).contains (.ref B)=true){M:Model}{A:Around}{E:Value->ag->Prop}{Q:Bool->ag->Prop}{s:ag}(X:K.In s.heap)(e:s.heap.get? x=some (Qn C t tb))(hq:Q true s) :
  ah M A (excMatches (.ref x) (.ref B)) Q E s:=by
 obtain⟨N,nm,qn,bs,hdct,sn,sub,ab,col,dd,k0,k1,k2,k3,k5,mN,oC,oN,ni,TL⟩:=xU X q;obtain⟨N',nS,qn',bs',Ox,sn',sub',ab',col',dd',k0',k1',k2',k3',k5',mN',oB,oN',ni',TL'⟩:=xU X qB;obtain⟨hh,g,d,tk,os⟩:=s;have hB:(Ka B::ZB K B).contains (.type "BaseException")=true:=by rw[VA,TL'.hasType (show wV.contains (.type "BaseException")=true by decide)];rfl
 have hC:(Ka C::ZB K C).contains (.ref B)=true:=by rw[VA,jE,Bool.or_true]
 have f:=tc_notTuple;unfold excMatches
 repeat (first|(with_reducible refine eL e ?_)|(with_reducible refine eL oB ?_)|(with_reducible refine dM oB ?_;rw[hB])|(with_reducible refine dM oC ?_;rw[hC])|wp_step)
 exact hq
def Wt(X:Cx)(pins:List (ae×Obj))(σ:L2.St)(E:XK):Value->ag->Prop:=λe s'=>∃ x C t tb H',e=.ref x/\Inv X pins σ H' s'/\s'.heap.get? x=some (Qn C t tb)/\Tb s'.heap x tb/\kJ X pins H' x/\(∀ T,tb=.ref T->kJ X pins H' T)/\E (.ref C) none H'
noncomputable def pU(X:Cx)(pins:List (ae×Obj))(σ:L2.St)(E:XK):Cx:={X with pn:=X.pn++pins,xe:=Wt X pins σ E}
section
variable {X:Cx} {pins pl:List (ae×Obj)} {σ σ0:L2.St} {H:Hp} {s:ag} {E:XK}
theorem Qcz(I:Inv X pins σ H s):Inv (pU X pins σ0 E) [] σ H s :=
 ⟨⟨I.ok.mod,I.ok.kind,I.ok.glob,I.ok.blt,I.ok.above,I.ok.inj,I.ok.has,I.ok.uU,I.ok.hd,I.ok.frames,I.ok.pq,I.ok.EU,I.ok.bs,I.ok.nI,I.ok.l9,I.ok.nq,I.ok.gw,I.ok.oS⟩,I.os,I.bare,I.base,I.loc,I.cell,I.free,I.dN,λp hp=>I.pin p (by rw[xh] at hp;exact hp),I.aS,I.len⟩
theorem AX(I:Inv (pU X pins σ0 E) pl σ H s):Inv X pins σ H s :=
 ⟨⟨I.ok.mod,I.ok.kind,I.ok.glob,I.ok.blt,I.ok.above,I.ok.inj,I.ok.has,I.ok.uU,I.ok.hd,I.ok.frames,I.ok.pq,I.ok.EU,I.ok.bs,I.ok.nI,I.ok.l9,I.ok.nq,I.ok.gw,I.ok.oS⟩,I.os,I.bare,I.base,I.loc,I.cell,I.free,I.dN,λp hp=>I.pin p (Uf _ hp),I.aS,I.len⟩
theorem Mu  (f:kJ (pU X pins σ0 E) pl H b):kJ X pins H b:=⟨f.un,f.loc,f.fs,f.new,f.cell,λp hp=>f.pin p (Uf _ hp)⟩
def qt(CX:mG)(X:Cx)(σ:L2.St)(E:XK):Prop:=∀(pins:List (ae×Obj)) (H:Hp) (s:ag) (e:Value) (s':ag),Inv X pins σ H s->CX X.stack H s E e s'->X.xe e s'
theorem yby(hx:X.ex=[]):qt (kL X.prog X.w) (pU X pins σ E) σ E:=by
 intro pl H s e s' I h;obtain⟨x,C,t,tb,H',rfl,os,bare,un,aS,e1,e2,e3,e4,e5,q⟩:=h;have I':Inv (pU X pins σ E) pl σ H' s':=I.oj (ch:=[]) os un aS bare λb z=>nomatch z;exact⟨x,C,t,tb,H',rfl,AX I',e1,e2,Mu (YV I hx e4 e3),λT' z=>Mu (YV I hx (e5 T' z).2 (e5 T' z).1),q⟩
end
section
variable {X:Cx} {CX:mG} {k:Nat} {f C:ae} {fd:bu} {ps:List Str} {sp:Sp} {dvs:List V} {ds:List Value} {E:XK} {x m:Str} {p pos apos:Pos} {e o:Expr} {es:List Expr} {ta:TE} {t:TA} {σ0:L2.St}
theorem HP       (F:fF X.prog X.w X.K X.mg X.base CX k f fd ps sp)(hr:df k X.A)(hb:Binds X.K fd ps ds)(hd:Vals dvs ds)(hx:qt CX X σ0 E)
  (I:Inv X pins σ0 H s) (r:Vals vs us) (h:sp (vs++dvs) H Q E):ah (aj X.prog X.w) X.A (call (.ref f) us) (EP X pins σ0 Q) X.xe s:=by
 have r2:Vals (vs++dvs) (us++ds):=r.append hd;have hl:(us++ds).length=ps.length:=by rw[<- r2.length];exact F.len _ _ _ _ h
 refine dW (dQ (F.run X.A X.stack s H ⟨us,[]⟩ (us++ds) (vs++dvs) Q E hr I.uQ (hb s us I.gO hl) r2 h) λr s' hq=>?_);cases r with
 |error e=>exact hx pins H s e s' I hq
 |ok fl =>
  cases fl with
  |ret u=>exact I.after hq
  |next=>exact Hg hq
  |brk=>exact Hg hq
  |cont=>exact Hg hq
noncomputable def Pn(σ0:L2.St)(sp:Sp)(dvs:List V)(E:XK)(t:TA):TE:=λσ H Q=>σ=σ0/\t σ H λvs H1=>sp (vs++dvs) H1 Q E
theorem ycc(F:fF X.prog X.w X.K X.mg X.base CX k f fd ps sp)(hr:df k X.A)(hg:Gl X x)(hm:X.mg x=some (.ref f))(hk:vg X.K (.ref f)=true)(hb:Binds X.K fd ps ds)(hd:Vals dvs ds)(hx:qt CX X σ0 E)
  (ha:PA X (e::es) t) (kS:(x==("__debug__":Str))=false:=by decide) (he:ao (e::es) X.env=(false,eval e X.env)::ao es X.env:=by rfl) (cC:(a9 pos (ao es X.env)).any (·.1)=false:=by rfl) :
  PE X (.Call (.Name x p) (e::es) [] pos) (Pn σ0 sp dvs E t):=by
 intro pins s σ H Q I h;obtain(⟨rfl,h⟩):=h;refine aV (ZQ I hg hm ?_ kS);refine Vv (h₀:=X.base) I.ok.mod.rY hk (bw (ha pos pins s σ H _ I h) λus s1 ⟨vs,H1,I1,r,q⟩=>⟨I1.gO,?_⟩) he cC;exact HP F hr hb hd hx I1 r q
theorem qb3       (M:Mk X.K C f)(F:fF X.prog X.w X.K X.mg X.base CX k f fd ps sp)(hr:df (k+1) X.A)(hb:Binds X.K fd ps ds)(hd:Vals dvs ds)
  (hx:qt CX X σ0 E) (I:Inv X pins σ0 H s) (r:Vals vs us)
  (h:∀ x dx,H x=none->H dx=none->dx≠x->sp (.ref x::(vs++dvs)) (upd (upd H dx (.own x)) x (.ins C dx [])) (λv H2=>v=.bh/\Q (.ref x) H2) E) :
  ah (aj X.prog X.w) X.A (call (.ref C) us) (EP X pins σ0 Q) X.xe s:=by
 have hq:=h (s.heap.objs.size+1) s.heap.objs.size (I.aS.fresh (vA _)) (I.aS.fresh (Ub _)) (uc (uo _));have I2:=Inv.made (C:=C) I;have r2:Vals (V.ref (s.heap.objs.size+1)::(vs++dvs)) (Ka (s.heap.objs.size+1)::(us++ds)):=.cons rfl (r.append hd);have hl:(Ka (s.heap.objs.size+1)::us++ds).length=ps.length:=by
  have e:=r2.length;rw[F.len _ _ _ _ hq] at e;exact e.symm
 refine dW (Qcr (f:=f) I.gO M.makes M.init (beq_iff_eq.mp M.fn) (dQ (F.run _ X.stack _ _ ⟨Ka (s.heap.objs.size+1)::us,[]⟩ (Ka (s.heap.objs.size+1)::(us++ds)) _ _ E (hr.make C us [])
  (I2.uQ.make C us []) (hb _ (Ka (s.heap.objs.size+1)::us) I2.gO hl) r2 hq) λr s' B7=>?_))
 cases r with
 |error e=>exact hx pins _ _ e s' I2 B7
 |ok fl =>
  cases fl with
  |ret u =>
   obtain⟨v,H',I3,rv,ev,q3⟩:=I2.after B7;subst ev;exact⟨rv,⟨V.ref (s.heap.objs.size+1),H',I3,rfl,q3⟩⟩
  |next=>exact Hg B7
  |brk=>exact Hg B7
  |cont=>exact Hg B7
noncomputable def Lv(σ0:L2.St)(C:ae)(sp:Sp)(dvs:List V)(E:XK)(t:TA):TE:=λσ H Q=>σ=σ0/\t σ H λvs H1=>∀ x dx,H1 x=none->H1 dx=none->dx≠x ->
 sp (.ref x::(vs++dvs)) (upd (upd H1 dx (.own x)) x (.ins C dx [])) (λv H2=>v=.bh/\Q (.ref x) H2) E
theorem Zce(M:Mk X.K C f)(F:fF X.prog X.w X.K X.mg X.base CX k f fd ps sp)(hr:df (k+1) X.A)(hg:Gl X x)(hm:X.mg x=some (.ref C))(hb:Binds X.K fd ps ds)(hd:Vals dvs ds)(hx:qt CX X σ0 E)
  (ha:PA X (e::es) t) (kS:(x==("__debug__":Str))=false:=by decide) (he:ao (e::es) X.env=(false,eval e X.env)::ao es X.env:=by rfl) (cC:(a9 pos (ao es X.env)).any (·.1)=false:=by rfl) :
  PE X (.Call (.Name x p) (e::es) [] pos) (Lv σ0 C sp dvs E t):=by
 intro pins s σ H Q I h;obtain(⟨rfl,h⟩):=h;refine aV (ZQ I hg hm ?_ kS);refine Vv (h₀:=X.base) I.ok.mod.rY M.kp (bw (ha pos pins s σ H _ I h) λus s1 ⟨vs,H1,I1,r,q⟩=>⟨I1.gO,?_⟩) he cC;exact qb3 M F hr hb hd hx I1 r q
end
section
variable {M:Model} {A:Around} {E:Value->ag->Prop} {s:ag}
theorem zbw
  (t6:A.frames=some (env::outer)) (hl:s.heap.FunFrames base (env::outer)) (hf:env.frame=some L) (he:s.heap.get? x=some (Qn C t tb)) (ht:Tb s.heap x tb)
  (h:∀ h' T,jV ((env::outer).filterMap (·.frame)) x tb s.heap h'->h'.get? x=some (Qn C t (.ref T))->Tb h' x (.ref T)->s.heap.objs.size<=T->Q () {s with heap:=h'}) :
  ah M A (iI (.ref x) env) (λ_ s'=>ah M A (iH (.ref x) none) Q E s') E s:=by
 unfold iI;simp only[hf];refine aa (au he rfl (x:=tb) rfl ?_);cases ht with
 |no =>
  rw[if_neg (by decide)];exact ZT t6 hl hf he λh' T k1 k2 e1 e2 e3=>h h' T ⟨λb o hb nb _ eb=>k1 b o hb nb eb,λb o hb _ _ eb=>k2 b o hb eb⟩ e1 e2 e3
 |@«at» T o ts ne ho hd h3 =>
  rw[if_pos (show(Ka T != ja)=true from by simp)];refine aa (au ho hd h3 ?_);rw[if_neg (show ¬((ja==a8 L)=true) from by simp[a8])];refine aa (bJ ho hd (xu.mp h3).1 ?_);have other:∀ b,b≠T->(s.heap.update T (jl (·.setIfInBounds 3 ja))).get? b=s.heap.get? b:=λb nb=>wg _ _ (Ke nb);have mZ:∀ b o,s.heap.get? b=some o->(∀ vs,o.data≠.fields vs)->b≠T:=λb o eb nf z=>by
   rw[z,ho] at eb;cases eb;exact nf ts hd
  refine ZT (s:={s with heap:=s.heap.update T (jl (·.setIfInBounds 3 ja))}) t6 (hl.of_keeps λb o eb nf=>⟨o,(other b (mZ b o eb nf)).trans eb,rfl⟩) hf ((other x (Ke ne)).trans he)
   λh' T' k1 k2 e1 e2 e3=>h h' T' ⟨λb o hb nb nt eb=>k1 b o hb nb ((other b λz=>nt (z ▸ rfl)).trans eb),λb o hb _ nt eb=>k2 b o hb ((other b λz=>nt (z ▸ rfl)).trans eb)⟩ e1 e2 ?_
  have CP:(s.heap.update T (jl (·.setIfInBounds 3 ja))).objs.size<=T':=e3;rw[uD] at CP;exact CP
theorem Qbl   (he:s.heap.get? x=some (Qn C t (.ref T)))(ht:Tb s.heap x (.ref T))(h:Q () s):ah M A (iH (.ref x) none) Q E s:=by
 cases ht with
 |@«at» _ o ts ne ho hd h3 =>
  refine wpAny_setFlight_none he rfl rfl ho hd (xu.mp h3).1 ?_;have e:=Heap.update_setField_same s.heap T o ts 3 .none ho hd h3;have e':({s with heap:=s.heap.update T (jl (·.setIfInBounds 3 ja))}:ag)=s:=by rw[e]
  rw[e'];exact h
end
noncomputable def nu(X:Cx)(x:ae)(o:Obj):Cx:={X with A:=X.A.mark (some (.ref x)),calm:=false,pn:=X.pn++[(x,o)],xe:=λ_ _=>False}
section
variable {X:Cx} {pins:List (ae×Obj)} {σ:L2.St} {H:Hp} {s:ag} {x:ae} {o:Obj}
theorem qcC(I:Inv X pins σ H s)(g:s.heap.get? x=some o)(f:kJ X pins H x)(d:∀ v,o.data≠.cell v):Inv (nu X x o) pins σ H s :=
 ⟨⟨I.ok.mod,I.ok.kind,I.ok.glob,I.ok.blt,I.ok.above,I.ok.inj,I.ok.has,I.ok.uU,λz=>absurd (show false=true from z) Xd,I.ok.frames,I.ok.pq,I.ok.EU,I.ok.bs,I.ok.nI,I.ok.l9,I.ok.nq,I.ok.gw,I.ok.oS⟩,I.os,I.bare,I.base,I.loc,I.cell,I.free,I.dN,λp hp=>by
  rcases vf.mp hp with hp|hp
  ·rcases vf.mp hp with hp|hp
   ·exact I.pin p (Uf _ hp)
   ·obtain rfl:=vc.mp hp;exact⟨g,f.un,f.loc,f.fs,d⟩
  ·exact I.pin p (Wf _ hp),I.aS,I.len⟩
theorem Fm(ok:X.Ok)(I:Inv (nu X x o) pins σ H s):Inv X pins σ H s :=
 ⟨ok,I.os,I.bare,I.base,I.loc,I.cell,I.free,I.dN,λp hp=>by
  rcases vf.mp hp with hp|hp
  ·exact I.pin p (Uf _ (Uf _ hp))
  ·exact I.pin p (Wf _ hp),I.aS,I.len⟩
end
section
variable {X:Cx} {body rH:List Stmt} {c0 n:Str} {b0:Stmt} {np tR pos:Pos} {i:Nat} {B:ae} {tb:L2.St->XK->TS} {th:ae->ae->ae->ae->TS}
noncomputable def GC(K:Gc)(i:Nat)(B:ae)(tb:L2.St->XK->TS)(th:ae->ae->ae->ae->TS):TS:=λD σ H=>∃ E:XK,tb σ E D σ H/\∀ C H',E (.ref C) none H'->YO K C/\(ZB K C).contains (.ref B)=true /\
 ∀ x t T,H' x=none->th x C t T {nx:=λσ' H2=>D.nx (σ'.set i none) H2,rt:=D.rt,bk:=λσ' H2=>D.bk (σ'.set i none) H2,ct:=λσ' H2=>D.ct (σ'.set i none) H2} (σ.set i (some (.ref x))) H'
theorem NM(nh:X.stack=X.env::X.outer)(hef:X.env.frame=some X.env.locals)(hN:X.N.Nodup)(hi:X.N[i]?=some n)(hk:X.env.scope.names.lookup n=some .local)(qB:YO X.K B)(hg:Gl X c0)(hm:X.mg c0=some (.ref B))
  (hb:∀ pins σ E,fj (pU X pins σ E) body (tb σ E)) (hh:∀ x C t T,fj (nu X x (Qn C t (.ref T))) (b0::rH) (th x C t T)) (hd:(c0==("__debug__":Str))=false:=by decide) :
  PS X (.Try body [.ExceptHandler (some (.Name c0 np)) (some n) (b0::rH) tR] [] [] pos) (GC X.K i B tb th):=by
 intro pins s σ H D I h;obtain(⟨E,Jz,hand⟩):=h;refine wpAny_Try_except (aU (hb pins σ E [] s σ H D (Qcz I) Jz) (λf s1 q=>?_) λe s1 q=>?_)
 ·cases f with
  |next=>obtain(⟨σ',H',I',q⟩):=q;exact cP ⟨σ',H',AX I',q⟩
  |brk=>obtain(⟨σ',H',I',q⟩):=q;exact⟨σ',H',AX I',q⟩
  |cont=>obtain(⟨σ',H',I',q⟩):=q;exact⟨σ',H',AX I',q⟩
  |ret u=>obtain(⟨v,σ',H',I',r,q⟩):=q;exact⟨v,σ',H',AX I',r,q⟩
 ·obtain(⟨x,C,t,tb',H',rfl,I1,g1,t1,fx,ft,q⟩):=q;obtain(⟨qC,jE,hand⟩):=hand C H' q;refine zbw (env:=X.env) (outer:=X.outer) (L:=X.env.locals) (by rw[I1.ok.frames,nh]) (by have z:=I1.stack;rw[nh] at z;exact z) hef g1 t1 λh' T n1 g2 t2 g3=>?_;have n1':jV (mr X.stack) x tb' s1.heap h':=by rw[nh];exact n1
  have I2:Inv X pins σ H' {s1 with heap:=h'}:=ZbU (t':=s1.toks) I1 n1' g1 t1 fx ft;have IH:=qcC (o:=Qn C t (.ref T)) I2 g2 fx (λv z=>nomatch z);refine wpAny_handleBy_cons (codeAny_handlers_test (ZQ (X:=nu X x (Qn C t (.ref T))) IH hg hm ?_ hd)) (λz=>nomatch z);refine ybh qC qB jE IH.gO g2 (codeAny_handlers_suite_as (Qbl g2 t2 ?_));refine KI (X:=nu X x (Qn C t (.ref T))) IH hN hi (.inl hk) (v:=.ref x) (u:=.ref x) rfl (λs3 I3=>?_) (.inr hk);refine aU (hh x C t T pins s3 _ H' _ I3 (hand x t T fx.un)) (λf s4 q4=>?_) λ_ _ z=>z.elim;cases f with
  |next=>obtain(⟨σ4,H4,I4,q4⟩):=q4;exact yZ (Fm I.ok I4) hN hi hk λs5 I5=>⟨_,H4,I5,q4⟩
  |brk=>obtain(⟨σ4,H4,I4,q4⟩):=q4;exact yZ (Fm I.ok I4) hN hi hk λs5 I5=>⟨_,H4,I5,q4⟩
  |cont=>obtain(⟨σ4,H4,I4,q4⟩):=q4;exact yZ (Fm I.ok I4) hN hi hk λs5 I5=>⟨_,H4,I5,q4⟩
  |ret u=>obtain(⟨v,σ4,H4,I4,r4,q4⟩):=q4;exact yZ (Fm I.ok I4) hN hi hk λs5 I5=>⟨v,_,H4,I5,r4,q4⟩
end
structure oA (K:Gc) (x qual:Str) (st:Stmt) (f:ae) (fd:bu):Prop where
 ex:∃(oc:Value)(od:Option ae)(dV kV doc pm:Value)(an:Option ae)(cU ct:Value) (lj:Array (Option Value)),
  fd=Xi x qual (Yr st) (qj st) (yb st) dV kV doc pm an cU ct/\K.lookup f=some ⟨oc,od,.func fd,lj⟩/\Uo K cU qual=true
 kp:vg K (.ref f)=true
theorem ZcH{K:Gc}{x qual:Str}{st:Stmt}{f:ae}{oc:Value}{od an:Option ae}{lj:Array (Option Value)}{dV kV doc pm cU ct:Value}(l:K.lookup f=some ⟨oc,od,.func (Xi x qual (Yr st) (qj st) (yb st) dV kV doc pm an cU ct),lj⟩)
  (c:Uo K cU qual=true) (k:vg K (.ref f)=true):oA K x qual st f (Xi x qual (Yr st) (qj st) (yb st) dV kV doc pm an cU ct):=⟨⟨oc,od,dV,kV,doc,pm,an,cU,ct,lj,rfl,l,c⟩,k⟩
structure iu (k:Nat) (A:Around) (x:ae):Prop where
 hd:A.handled=some (.ref x)
 dp:A.depth+3*k+5<f'
 un:A.units+16*k+200<dn
theorem iu.of    (r:df k A):iu k (A.mark (some (.ref x))) x:=⟨rfl,r.dp,r.un⟩
theorem iu.deeper    (r:iu (k+1) A x)(env):iu k (A.deeper env) x :=
 ⟨r.hd,by have:=r.dp;show A.depth+1+3*k+5<_;lia,by have:=r.un;show A.units+3+16*k+200<_;lia⟩
structure oE (P:ak) (w:World) (K:Gc) (mg:Str->Option Value) (base:Heap) (k:Nat) (f:ae) (fd:bu) (ps:List Str) (sp:ae->ae->Sp):Prop where
 len:∀ x C vs H Q E,sp x C vs H Q E->vs.length=ps.length
 run:∀(x C t T:ae)(A:Around)(outer:List Env)(s:ag)(H:Hp) (args:Args) (us:List Value) (vs:List V) (Q:VK),iu k A x->lh P w K mg base A outer s H->s.heap.get? x=some (Qn C t (.ref T))->H x=none->gH s fd args (ps.zip us)->Vals vs us->sp x C vs H Q E0 ->
  bG (aj P w) A (.call (.ref f) args) (CR Lr outer P w H s Q E0) s
theorem YcN        (I:Inv X [] σ H s)(Oq:X.pn=[])(hA:A'.frames=X.A.frames)(g:s.heap.get? x=some o)(un:H x=none)(nl:x≠X.env.locals)(nf:x∉X.fs)(d:∀ v,o.data≠.cell v) :
  Inv {X with A:=A',calm:=false,pn:=[(x,o)],xe:=λ_ _=>False} [] σ H s :=
 ⟨⟨I.ok.mod,I.ok.kind,I.ok.glob,I.ok.blt,I.ok.above,I.ok.inj,I.ok.has,I.ok.uU,λz=>absurd (show false=true from z) Xd,hA.trans I.ok.frames,I.ok.pq,I.ok.EU,I.ok.bs,I.ok.nI,I.ok.l9,I.ok.nq,I.ok.gw,I.ok.oS⟩,I.os,I.bare,I.base,I.loc,I.cell,I.free,I.dN,λp hp=>by
  have nG:p∈[(x,o)]++[]:=hp;rw[xh] at nG;obtain rfl:=vc.mp nG;exact⟨g,un,nl,nf,d⟩,I.aS,I.len⟩
noncomputable def pV(P:ak)(w:World)(K:Gc)(mg:Str->Option Value)(base:Heap)(N:List Str)(qual:Str)(scope:az)(f:ae)(cd:Value)(A:Around)(outer:List Env)(s:ag)(H:Hp)(x:ae)(o:Obj):Cx :=
 {mM Lr P w K mg base N qual scope f cd {A with handled:=none} outer s H E0 with A:=A.deeper (dt qual scope s.heap.objs.size f cd),calm:=false,pn:=[(x,o)],xe:=λ_ _=>False}
theorem YcW{P:ak}{w:World}{K:Gc}{mg:Str->Option Value}{base:Heap}{k:Nat}{f:ae}{nm qual:Str}{st:Stmt}{fd:bu}{N ps:List Str}{sp:ae->ae->Sp}(F:oA K nm qual st f fd)(S:fE N ps (yb st))
  (len:∀ x C vs H Q E,sp x C vs H Q E->vs.length=ps.length)
  (jH:∀(x C t T:ae)(cU:Value)(A:Around)(outer:List Env)(s:ag) (H:Hp) (vs:List V) (Q:VK),iu k (A.deeper (dt qual (yb st) s.heap.objs.size f cU)) x->sp x C vs H Q E0 ->
   ∃ tr,fj (pV P w K mg base N qual (yb st) f cU A outer s H x (Qn C t (.ref T))) (qj st) tr/\tr {nx:=λ_ H'=>Q .bh H',rt:=Q} (start N vs) H) :
  oE P w K mg base (k+1) f fd ps sp:=by
 obtain⟨oc,od,dV,kV,doc,pm,an,cU,ct,lj,rfl,lk,lR⟩:=F.ex;refine⟨len,λx C t T A outer s H args us vs Q hr e0 gx nx hb r jD=>?_⟩;have hl:=len _ _ _ _ _ _ jD;have KX:K.In s.heap:=e0.mod.rY.keeps λb o e=>(e0.bs b o e).1;have lim:s.heap.NoLimit:=e0.mod.nolimit.keeps λb o e=>(e0.bs b o e).1;have nW:∀ y∈ps.zip us,(yb st).names.lookup y.1=some .local\/((yb st).names.lookup y.1=some .cell/\((aE (s.heap.objs.size+1) (yb st).names []).lookup y.1).isSome=true):=λ⟨n,v⟩ hy=>by
  rcases S.par n (uv hy).1 with q|q
  ·exact .inl q
  ·exact .inr ⟨q,Xw _ _ _ (.inl q)⟩
 refine fP (by have:=hr.dp;lia) (KX _ _ lk) rfl S.co S.gen rfl (VF KX lR) (hb _ _ _ _ ?_);refine dU S.kind nW λenv he s1 xx=>?_;subst he;refine⟨lim.keeps xx.toInCall.keep,codeAny_func ?_⟩;obtain⟨tr,ht,hq⟩:=jH x C t T cU A outer s H vs Q (hr.deeper _) jD;have e0':lh P w K mg base {A with handled:=none} outer s H:=⟨e0.frames,e0.mod,e0.bs,e0.nI,e0.gw,e0.oS,e0.aS,e0.bare⟩;have I0:Inv (mM Lr P w K mg base N qual (yb st) f cU {A with handled:=none} outer s H E0) [] (start N vs) H s1:=RK S rfl e0' hl r xx;have I:Inv (pV P w K mg base N qual (yb st) f cU A outer s H x (Qn C t (.ref T))) [] (start N vs) H s1:=by
  refine YcN I0 rfl rfl (xx.toInCall.keep _ _ gx) nx (uc (Ua gx)) (λz=>?_) (λv z=>nomatch z);obtain⟨_,o,e,nf⟩:=e0.gw.mem z;rw[gx] at e;cases e;exact nf _ rfl
 refine aU (ht [] s1 (start N vs) H _ I hq) (λfl s' hs=>?_) λe s' hs=>hs.elim;have fin:∀{σ':L2.St}{H':Hp}{v:V}{u:Value},Inv (pV P w K mg base N qual (yb st) f cU A outer s H x (Qn C t (.ref T))) [] σ' H' s'->RelV v u->Q v H'->CE outer P w H s Q u s' :=
  λ{σ' H' v u} J rv q=>⟨v,H',J.os,J.bare,J.base,J.aS,rv,q⟩
 cases fl with
 |ret u=>obtain⟨v,σ',H',J,rv,q⟩:=hs;exact fin J rv q
 |next=>obtain⟨σ',H',J,q⟩:=hs;exact fin (v:=V.bh) (u:=ja) J rfl q
 |brk=>obtain⟨_,_,_,q⟩:=hs;exact Hg q
 |cont=>obtain⟨_,_,_,q⟩:=hs;exact Hg q
section
variable {X:Cx} {k:Nat} {f x0 C t T:ae} {fd:bu} {ps:List Str} {sp:ae->ae->Sp} {x:Str} {p pos:Pos} {e:Expr} {es:List Expr} {ta:TA}
theorem yck(F:oE X.prog X.w X.K X.mg X.base k f fd ps sp)(hr:df k X.A)(hg:Gl X x)(hm:X.mg x=some (.ref f))(hk:vg X.K (.ref f)=true)(hb:Binds X.K fd ps [])
  (ha:PA (nu X x0 (Qn C t (.ref T))) (e::es) ta) (kS:(x==("__debug__":Str))=false:=by decide) (he:ao (e::es) X.env=(false,eval e X.env)::ao es X.env:=by rfl) (cC:(a9 pos (ao es X.env)).any (·.1)=false:=by rfl) :
  PE (nu X x0 (Qn C t (.ref T))) (.Call (.Name x p) (e::es) [] pos) (DK (sp x0 C) [] E0 ta):=by
 intro pins s σ H Q I h;refine aV (ZQ I hg hm ?_ kS);refine Vv (h₀:=X.base) I.ok.mod.rY hk (bw (ha pos pins s σ H _ I h) λus s1 ⟨vs,H1,I1,r,q⟩=>⟨I1.gO,?_⟩) he cC;have q':sp x0 C (vs++[]) H1 Q E0:=q;rw[xh] at q';have pin:=I1.pin (x0,Qn C t (.ref T)) (Uf _ (Wf _ (vc.mpr rfl)));have hl:us.length=ps.length:=by rw[<- r.length];exact F.len _ _ _ _ _ _ q'
 have bb:=hb s1 us I1.gO (by rw[xh];exact hl);rw[xh] at bb;refine dW (dQ (F.run x0 C t T _ X.stack s1 H1 ⟨us,[]⟩ us vs Q (iu.of hr) I1.uQ pin.1 pin.2.1 bb r q') λr s' hq=>?_);cases r with
 |error e=>exact Hg hq
 |ok fl =>
  cases fl with
  |ret u=>exact I1.after hq
  |next=>exact Hg hq
  |brk=>exact Hg hq
  |cont=>exact Hg hq
end
theorem qcg   (it)(lo)(n):J8 X tg (vM lo n) [it] it (λi h=>cx h it (lo+(i:Nat)*1) ((n:Int)-(i:Nat)) 1):=by
 intro Y e1 e2 e3 e4 e5 i pins s σ H E I hf st hg;obtain⟨f0,f1,f2,f3,f4,f5⟩:=hf it (by simp);have hg':i<n:=hg;refine wpAny_pyNext_range_item st (by lia) λh' mW sb=>?_;have I1:Inv Y pins σ H {s with heap:=h',toks:=s.toks+1}:=I.turned (λb o hb e=>(sb.2 b hb).trans e) f0 f1 f3 f4 f5;have nE:cx h' it (lo+((i+1:Nat):Int)*1) ((n:Int)-((i+1:Nat):Int)) 1:=by
  have a:lo+((i+1:Nat):Int)*1=lo+(i:Nat)*1+1:=by push_cast;lia
  have b:(n:Int)-((i+1:Nat):Int)=(n:Int)-(i:Nat)-1:=by push_cast;lia
  rw[a,b];exact mW
 refine⟨_,rfl,Eb (s:={s with heap:=h',toks:=s.toks+1}) (n:="range_iterator") mW rfl rfl (by decide) ⟨.int (lo+i),H,I1,⟨s.toks,?_⟩,⟨rfl,rfl⟩,nE,λb hb=>(hf b hb).1⟩⟩;rw[uH]
theorem yce   (it)(lo)(n)(hA:X.A.handled=some (.ref x))(hp:(x,Qn C t (.ref T))∈X.pn):FD X (vM lo n) [it] it (λi h=>cx h it (lo+(i:Nat)*1) ((n:Int)-(i:Nat)) 1):=by
 intro Y e1 e2 e3 e4 e5 e6 i pins s σ H E I hf st hg;have pin:=I.pin (x,Qn C t (.ref T)) (Uf _ (by rw[e6];exact hp));have hg':n<=i:=hg;exact qaF hA pin.1 rfl rfl st (by lia) λh' kk=>⟨rfl,I.kept (t':=s.toks) kk⟩
section
variable {X:Cx} {elt a:Expr} {tg:Expr} {ifs:List Expr} {cs:az} {pos p mX:Pos} {ta:TA} {g:TG} {tc:TT} {te:TE}
theorem Ycg     (hA:X.A.handled=some (.ref x))(Oq:(x,Qn C t (.ref T))∈X.pn)(hN:X.N.Nodup)(pP:X.N[i]?=some y)(hx:Loc X.env.scope y)(N')(bW)(js)(aS:QA X.env.scope X.N cs N' bW js=true)
  (hgr:Gl X "range") (hm:X.mg "range"=none) (ha:PA X [a] ta) (hg:∀ C s3 H ex,PG (ia X cs N' C s3 H ex) tg g) (nX:∀ C s3 H ex,nB (ia X cs N' C s3 H ex) ifs tc) (jG:∀ C s3 H ex,PE (ia X cs N' C s3 H ex) elt te)
  (tP:bq (.ListComp elt [⟨tg,.Call (.Name "range" p) [a] [] mX,ifs,0⟩] cs pos) (some (.Name y pos')) sT.line X.env=pure true:=by rfl) (hs:∀ x,bX (.Call (.Name "range" p) [a] [] mX) X.env x=pure x:=by intro _;rfl)
  (nh:ao [a] X.env=[(false,eval a X.env)]:=by rfl) (hf:X.fn y=true\/X.env.scope.names.lookup y=some .local:=by first|exact .inl rfl|exact .inr rfl|assumption) :
  PS X (.Assign [.Name y pos'] (.ListComp elt [⟨tg,.Call (.Name "range" p) [a] [] mX,ifs,0⟩] cs pos) sT) (vO (Fi (Px ta) bW js g tc te) (rQ i)):=by
 intro pins s σ H D0 I h;have ok:=hZ.of aS;rw[fN _ _ _ _ tP];refine aa (dw (aa ?_));show ah _ X.A (do let _<-kF (.ListComp elt [⟨tg,.Call (.Name "range" p) [a] [] mX,ifs,0⟩] cs pos) cs X.env _ (newList []) false (eval (.Call (.Name "range" p) [a] [] mX) X.env) (some (dh (.Name y pos') X.env))) _ _ s;refine aa (aU (cD (use:=some (dh (.Name y pos') X.env)) (Q:=λ_ s'=>SP X pins D0 .next s') rfl hs (HG λy hy e=>I.ok.has y.1 (ok.free y hy e)) ok.kind ok.locs ?_)
  (λ_ s' hq=>af (af hq)) λ_ _ e=>e)
 refine Call_ (YY I hgr hm boot_range (kg (bw (ha mX pins s σ H _ I h) λus s1 ⟨vs,H1,I1,r1,q1⟩=>?_) nh rfl));obtain⟨j,e,b1,b2,W,w0,turn⟩:=q1;subst e;cases r1 with
 |cons r rr =>
  cases rr;obtain⟨tk0,rfl⟩:=r;refine call_range_1 ?_;refine gV (IsRange.new ..) (small_one (by lia) (by lia) b1 b2) ?_;obtain⟨R0,hR0⟩:∃ R0:Obj,R0={cls:=.type "range",data:=.fields #[.int 0 s1.toks,.int j tk0,.int 1 (s1.toks+1)]}:=⟨_,rfl⟩;have hit:s1.heap.objs.size<=(s1.heap.push R0).objs.size:=by rw[Xg];exact vA _
  have I2:Inv X pins σ H1 {s1 with heap:=(s1.heap.push R0).push {cls:=.type "range_iterator",data:=.fields #[a8 0,a8 (gf 0 j 1),a8 1]},toks:=s1.toks+1+1}:=I1.kept λb o e=>wa _ (wa _ e);have st0:cx ((s1.heap.push R0).push {cls:=.type "range_iterator",data:=.fields #[a8 0,a8 (gf 0 j 1),a8 1]}) (s1.heap.push R0).objs.size (0+((0:Nat):Int)*1) ((j.toNat:Int)-((0:Nat):Int)) 1:=by
   have e1:(0:Int)+((0:Nat):Int)*1=0:=by simp
   have e2:(j.toNat:Int)-((0:Nat):Int)=gf 0 j 1:=by rw[j'];split <;> lia
   rw[e1,e2];exact xb _ rfl
  rw[<- hR0];refine K0 (Q:=λv H'=>rQ i v σ H' D0.nx) (J:=vM 0 j.toNat) (fp:=[(s1.heap.push R0).objs.size]) (tn:=λi h=>cx h (s1.heap.push R0).objs.size (0+(i:Nat)*1) ((j.toNat:Int)-(i:Nat)) 1) (RR:=λacc C=>lW (aj X.prog X.w) X.A X.xe (some (dh (.Name y pos') X.env)) (λ_ s'=>SP X pins D0 .next s') acc C)
   ok hg nX jG I2 (by simp) (λi h st b hb=>?_) (λi h h' st k=>k _ (by simp) _ st) (qcg _ 0 j.toNat) (yce _ 0 j.toNat hA Oq) (λ_ _ _ _ _ st h=>fq st h) st0 (λb hb=>?_) W w0 turn λD C acc H' s6 IX fC zC nj q=>?_
  ·obtain rfl:=vc.mp hb;exact⟨_,st,λv z=>nomatch z⟩
  ·obtain rfl:=vc.mp hb;exact I1.kB hit (I1.aS.fresh hit)
  ·obtain⟨m,nj⟩:=nj;obtain⟨oC,JM,JQ,gC,dC,rC⟩:=id nj;have nc:∀ v,oC.data≠.cell v:=λv z=>by rw[dC] at z;cases z
   have Ln:=IX.pinned (fp:=[C]) (λb hb=>by obtain rfl:=vc.mp hb;exact fC) (λb hb=>by obtain rfl:=vc.mp hb;exact⟨oC,gC,nc⟩);show ah (aj X.prog X.w) X.A (dh (.Name y pos') X.env (.ref D)) _ X.xe s6;refine bw (Fg hN pP hx hf _ s6 σ _ (.ref D) (.ref D) _ Ln rfl q) λ_ s7 ⟨σ7,H7,I7,q7⟩=>?_;obtain⟨g7,d7⟩:=Yn I7 (Wf _ (qq (vc.mpr rfl) gC));refine⟨m,⟨oC,JM,JQ,g7,dC,rC⟩,λh' sb=>⟨σ7,H7,?_,q7⟩⟩;obtain⟨_,c1,c2,c3,c4,c5⟩:=fC;exact yB (t':=s7.toks) (ch:=[C]) I7.fV (λb hb=>by obtain rfl:=vc.mp hb;exact⟨d7,c1,c2,c3,c4,c5⟩) λb o hb e=>(sb.2 b λz=>hb (by simp[z])).trans e
end
theorem Ee{prog:ak}{w:World}{A:Around}(hh:A.handled=none)(b:Bool)(I ax:ae)(iR:ax≠I)(items:Array Value) :
  Walks prog w A I [I,ax] [I] items.size (λi v=>items[i]?=some v) (λi h=>cK h b I ax i/\bY h b ax items):=by
 cases b with
 |false=>exact Walks.list hh I ax iR items
 |true =>
  exact{
   sub:=λb hb=>by simp at hb;simp[hb]
   frame:=λ_ _ _ st hk=>⟨st.1.keeps λo e=>hk I (by simp) o e,st.2.keeps λo e=>hk ax (by simp) o e⟩
   item:=λi s Q E hi st hQ=>by
    refine eX (show s.heap.IsTupleIter I ax i from st.1) (show s.heap.IsTuple ax items from st.2) (x:=items[i]) (by simp[hi]) λh' a sb=>?_;exact hQ _ h' s.toks (by simp[hi]) ⟨a,st.2.keeps λo e=>sb.extBut ax o iR e⟩ λb o hb e=>sb.extBut b o (λz=>hb (by simp[z])) e
   done:=λs Q E st hQ=>fk hh (show s.heap.IsTupleIter I ax items.size from st.1) (show s.heap.IsTuple ax items from st.2) (by simp) λh' he=>hQ h' s.toks λb o hb e=>he b o (λz=>hb (by simp[z])) e
   self:=λ_ _ _ _ st hQ=>fo (show Heap.IsTupleIter _ I ax _ from st.1) hQ}
theorem zJ{ns:List Int}{us:List Value}(r:Vals (ns.map V.int) us){i:Nat}{v:Value}(h:us.toArray[i]?=some v):∃ t,v=.int (ns.getD i 0) t:=by
 have h':us[i]?=some v:=by simpa using h
 have lt:i<us.length:=(xa.mp h').1;have hl:=r.length;rw[wc] at hl;obtain⟨u,hu,ru⟩:=r.get (i:=i) (x:=.int (ns.getD i 0)) (by rw[Xc,xc (by lia),Uh,xc (by lia)];rfl);rw[hu] at h';cases h';exact ru
theorem YcC{bs:List Bool}{us:List Value}(r:Vals (bs.map V.bl) us){i:Nat}{v:Value}(h:us.toArray[i]?=some v):v=.bool (bs.getD i true):=by
 have h':us[i]?=some v:=by simpa using h
 have lt:i<us.length:=(xa.mp h').1;have hl:=r.length;rw[wc] at hl;obtain⟨u,hu,ru⟩:=r.get (i:=i) (x:=.bl (bs.getD i true)) (by rw[Xc,xc (by lia),Uh,xc (by lia)];rfl);rw[hu] at h';cases h';exact ru
theorem MI(ns:List Int):∀ k,k<=ns.length->l8 (λi=>ns.getD i 0) k=(ns.take k).sum
 |0,_=>by simp[l8]
 |k+1,h=>by
  have e:ns.take (k+1)=ns.take k++[ns.getD k 0]:=by
   rw[List.take_succ_eq_append_getElem (by lia),Uh,xc (by lia)];rfl
  show l8 (λi=>ns.getD i 0) k+ns.getD k 0=_;rw[MI ns k (by lia),e,Xm,xp,List.sum_nil,Int.add_zero]
theorem Zcs(bs:List Bool):(Vb bs.length).all (λi=>bs.getD i true)=bs.all id:=by
 rw[xv,Vl,Vl];constructor
 ·intro h x hx;obtain⟨i,hi,e⟩:=uu hx;have:=h i (Xo.mpr hi);rw[Uh,xc hi] at this;rw[<- e];exact this
 ·intro h i hi;rw[Uh,xc (Xo.mp hi)];exact h _ (Uj _)
theorem Lj(val:Nat->Int)(bt:Nat->Nat->Bool)(hb:∀ i j,bt i j=decide (val i<val j)):∀ k,eQ bt k<=k/\∀ j,j<=k->val (eQ bt k)<=val j
 |0=>⟨Ub _,λj hj=>by
  have:j=0:=by lia
  subst this;exact UD _⟩
 |k+1=>by
  obtain⟨h1,h2⟩:=Lj val bt hb k;show(if bt (k+1) (eQ bt k) then k+1 else eQ bt k)<=k+1/\∀ j,j<=k+1->val (if bt (k+1) (eQ bt k) then k+1 else eQ bt k)<=val j;rw[hb];by_cases c:val (k+1)<val (eQ bt k)
  ·simp only[c,decide_true,if_true];refine⟨Ub _,λj hj=>?_⟩;by_cases e:j=k+1
   ·rw[e];exact UD _
   ·have:=h2 j (by lia);lia
  ·simp only[c,decide_false,uj,if_false];refine⟨by lia,λj hj=>?_⟩;by_cases e:j=k+1
   ·rw[e];lia
   ·exact h2 j (by lia)
theorem zcN(val:Nat->Int)(bt:Nat->Nat->Bool)(hb:∀ i j,bt i j=decide (val j<val i)):∀ k,eQ bt k<=k/\∀ j,j<=k->val j<=val (eQ bt k):=λk=>by
 have h:=Lj (λi=>- val i) bt (λi j=>by rw[hb];congr 1;apply propext;constructor <;> intro h <;> lia) k;exact⟨h.1,λj hj=>by have:=h.2 j hj;lia⟩
section
variable {X:Cx}
def AJ(K:Gc):List V->Hp->VK->Prop:=λxs H Q=>∃(b:Bool)(a:ae)(ns:List Int),xs=[.ref a]/\i8 K H b a (ns.map V.int)/\Q (.int ns.sum) H
def AU(K:Gc):List V->Hp->VK->Prop:=λxs H Q=>∃(b:Bool)(a:ae)(bs:List Bool),xs=[.ref a]/\i8 K H b a (bs.map V.bl)/\Q (.bl (bs.all id)) H
def AM(K:Gc):List V->Hp->VK->Prop:=λxs H Q=>∃(b:Bool)(a:ae)(ns:List Int),xs=[.ref a]/\i8 K H b a (ns.map V.int)/\ns≠[]/\∀ m,m∈ns->(∀ k∈ns,m<=k)->Q (.int m) H
def AN(K:Gc):List V->Hp->VK->Prop:=λxs H Q=>∃(b:Bool)(a:ae)(ns:List Int),xs=[.ref a]/\i8 K H b a (ns.map V.int)/\ns≠[]/\∀ m,m∈ns->(∀ k∈ns,k<=m)->Q (.int m) H
theorem xV{a:ae}{us:List Value}(r:Vals [V.ref a] us):us=[Ka a]:=by
 cases r with
 |cons r rr =>
  cases rr;obtain rfl:_=Ka a:=r;rfl
theorem J'{s:ag}{a:ae}(h:a<s.heap.objs.size)(o:Obj):∀ b∈[s.heap.objs.size,a],b<(s.heap.push o).objs.size:=λb hb=>by
 rw[Xg];simp only[Wb,Ud,or_false] at hb
 rcases hb with e|e
 ·rw[e];exact uo _
 ·rw[e];exact xn h
theorem Yb6(hc:X.calm=true):aO X (.builtin "sum") (AJ X.K):=by
 intro pins s σ H xs us Q I r h;obtain⟨b,a,ns,rfl,hq,q⟩:=h;obtain rfl:=xV r;obtain⟨aw,v,p,_⟩:=Qt I hq;have lt:=p.lt;refine call_sum_walkG (ZA p ⟨s.heap.objs.size,[s.heap.objs.size,a],[s.heap.objs.size],aw.toArray.size,_,_,λi=>ns.getD i 0,rfl,Ee (yp (I.ok.hd hc)) b _ a (uc lt) aw.toArray,⟨.new (xb _ rfl),p.keeps λo e=>wa _ e⟩,J' lt _,λi u hu=>zJ v hu,λh' tk t' k=>?_⟩);have hl:=v.length;rw[wc] at hl;have e:l8 (λi=>ns.getD i 0) aw.toArray.size=ns.sum:=by rw[Xa,<- hl,MI ns _ (Ub _),Vi]
 rw[e];exact⟨.int ns.sum,H,I.kept (t':=tk) (λc o e=>k c o (λz=>absurd (Ua e) (by simp at z;rw[z];exact Wj _)) (wa _ e)),⟨t',rfl⟩,q⟩
theorem qcs(hc:X.calm=true):aO X (.builtin "all") (AU X.K):=by
 intro pins s σ H xs us Q I r h;obtain⟨b,a,bs,rfl,hq,q⟩:=h;obtain rfl:=xV r;obtain⟨aw,v,p,_⟩:=Qt I hq;have lt:=p.lt;refine call_all_walk (ZA p ⟨s.heap.objs.size,[s.heap.objs.size,a],[s.heap.objs.size],aw.toArray.size,_,_,λi=>bs.getD i true,rfl,Ee (yp (I.ok.hd hc)) b _ a (uc lt) aw.toArray,⟨.new (xb _ rfl),p.keeps λo e=>wa _ e⟩,λi u s' Q' E' hu hQ=>?_,λh' tk k=>?_⟩)
 ·rw[YcC v hu];exact aP hQ
 have hl:=v.length;rw[wc] at hl;rw[Xa,<- hl,Zcs];exact⟨.bl _,H,I.kept (t':=tk) (λc o e=>k c o (λz=>absurd (Ua e) (by simp at z;rw[z];exact Wj _)) (wa _ e)),rfl,q⟩
theorem Rq{ns:List Int}{i:Nat}(h:i<ns.length):ns.getD i 0∈ns:=by
 rw[Uh,xc h];exact Uj _
theorem RA{ns:List Int}{k:Int}(h:k∈ns):∃ i,i<ns.length/\ns.getD i 0=k:=by
 obtain⟨i,hi,e⟩:=uu h;exact⟨i,hi,by rw[Uh,xc hi];exact e⟩
theorem ybV(hc:X.calm=true):aO X (.builtin "min") (AM X.K):=by
 intro pins s σ H xs us Q I r h;obtain⟨b,a,ns,rfl,hq,ne,q⟩:=h;obtain rfl:=xV r;obtain⟨aw,v,p,_⟩:=Qt I hq;have lt:=p.lt;have hl:=v.length;rw[wc] at hl;have pos:0<ns.length:=Wo.mpr ne;refine call_min_walk (ZA p ⟨s.heap.objs.size,[s.heap.objs.size,a],[s.heap.objs.size],aw.toArray.size,_,_,λi j=>decide (ns.getD i 0<ns.getD j 0),rfl,Ee (yp (I.ok.hd hc)) b _ a (uc lt) aw.toArray,⟨.new (xb _ rfl),p.keeps λo e=>wa _ e⟩,J' lt _,by simp;lia,λi j vi vj s' Q' E' hi hj hQ=>?_,λu h' tk hu k=>?_⟩)
 ·obtain⟨t1,rfl⟩:=zJ v hi;obtain⟨t2,rfl⟩:=zJ v hj;exact lt_int hQ
 obtain⟨t,rfl⟩:=zJ v hu;obtain⟨b1,b2⟩:=Lj (λi=>ns.getD i 0) _ (λ_ _=>rfl) (aw.toArray.size-1);rw[Xa] at b1 b2 ⊢;refine⟨.int _,H,I.kept (t':=tk) (λc o e=>k c o (λz=>absurd (Ua e) (by simp at z;rw[z];exact Wj _)) (wa _ e)),⟨t,rfl⟩,q _ (Rq (by lia)) λm hm=>?_⟩;obtain⟨i,hi,e⟩:=RA hm;rw[<- e];exact b2 i (by lia)
theorem Zb1(hc:X.calm=true):aO X (.builtin "max") (AN X.K):=by
 intro pins s σ H xs us Q I r h;obtain⟨b,a,ns,rfl,hq,ne,q⟩:=h;obtain rfl:=xV r;obtain⟨aw,v,p,_⟩:=Qt I hq;have lt:=p.lt;have hl:=v.length;rw[wc] at hl;have pos:0<ns.length:=Wo.mpr ne;refine call_max_walk (ZA p ⟨s.heap.objs.size,[s.heap.objs.size,a],[s.heap.objs.size],aw.toArray.size,_,_,λi j=>decide (ns.getD j 0<ns.getD i 0),rfl,Ee (yp (I.ok.hd hc)) b _ a (uc lt) aw.toArray,⟨.new (xb _ rfl),p.keeps λo e=>wa _ e⟩,J' lt _,by simp;lia,λi j vi vj s' Q' E' hi hj hQ=>?_,λu h' tk hu k=>?_⟩)
 ·obtain⟨t1,rfl⟩:=zJ v hi;obtain⟨t2,rfl⟩:=zJ v hj;exact gt_int hQ
 obtain⟨t,rfl⟩:=zJ v hu;obtain⟨b1,b2⟩:=zcN (λi=>ns.getD i 0) _ (λ_ _=>rfl) (aw.toArray.size-1);rw[Xa] at b1 b2 ⊢;refine⟨.int _,H,I.kept (t':=tk) (λc o e=>k c o (λz=>absurd (Ua e) (by simp at z;rw[z];exact Wj _)) (wa _ e)),⟨t,rfl⟩,q _ (Rq (by lia)) λm hm=>?_⟩;obtain⟨i,hi,e⟩:=RA hm;rw[<- e];exact b2 i (by lia)
noncomputable def pY:V->Option Value
 |.ty n=>some (.type n)
 |.ref a=>some (.ref a)
 |_=>none
theorem OV   (h:pY x=some c)(r:RelV x u):u=c:=by
 cases x with
 |ty n=>cases h;exact r
 |ref a=>cases h;exact r
 |_=>cases h
def Ni(K:Gc):List V->Hp->VK->Prop:=λxs H Q=>∃ x cv t c b,xs=[x,cv]/\pY cv=some c/\hV K H x t/\Xe K t c=some b/\Q (.bl b) H
theorem ycD:aO X (.builtin "isinstance") (Ni X.K):=by
 intro pins s σ H xs us Q I r h;obtain⟨x,cv,t,c,b,rfl,e,ty,k,q⟩:=h;cases r with
 |cons r rr =>
  cases rr with
  |cons r' rr =>
   cases rr;have:=OV e r';subst this;exact zbT I r ty k λtk=>⟨.bl b,H,I.tok tk,rfl,q⟩
def Hy(K:Gc)(x C:ae):List V->Hp->VK->Prop:=λxs H Q=>∃ cv c b,xs=[.ref x,cv]/\pY cv=some c/\Xe K (.ref C) c=some b/\Q (.bl b) H
theorem Zr  (Z:mF X.K C)(hp:(x,Qn C t (.ref T))∈X.pn):aO X (.builtin "isinstance") (Hy X.K x C):=by
 intro pins s σ H xs us Q I r h;obtain⟨cv,c,b,rfl,e,k,q⟩:=h;cases r with
 |cons r rr =>
  cases rr with
  |cons r' rr =>
   cases rr;have:=OV e r';subst this;obtain rfl:_=Ka x:=r;exact xi (Qcu Z) I.gO ⟨t,_,(I.pin _ (Uf _ hp)).1⟩ k (λz=>nomatch z) λtk=>⟨.bl b,H,I.tok tk,rfl,q⟩
end
def JL(C x:ae):Heap->Prop:=λh=>∃ t T,h.get? x=some (Qn C t (.ref T))
def Src(K:Gc)(mg:Str->Option Value)(x:Str)(st:Stmt)(ps:List Str):Prop:=∃ f fd,oA K x x st f fd/\Binds K fd ps []/\mg x=some (.ref f)
def AV(P:ak)(w:World)(K:Gc)(mg:Str->Option Value)(base:Heap)(x:Str)(k:Nat)(ps:List Str)(sp:Sp):Prop :=
 ∃ f fd,fF P w K mg base (kL P w) k f fd ps sp/\Binds K fd ps []/\vg K (.ref f)=true/\mg x=some (.ref f)
section
variable {P:ak} {w:World} {K:Gc} {mg:Str->Option Value} {base:Heap} {x:Str} {ps:List Str} {sp:Sp}
noncomputable abbrev cxD(P:ak)(w:World)(K:Gc)(mg:Str->Option Value)(base:Heap)(N:List Str)(x:Str)(st:Stmt)(f:ae)(cd:Value)(A:Around)(outer:List Env)(s:ag)(H:Hp)(E:XK):Cx :=
 mM (kL P w) P w K mg base N x (yb st) f cd A outer s H E
theorem Yc6{st:Stmt}{N:List Str}{k:Nat}(S:Src K mg x st ps)(sc:fE N ps (yb st))(len:∀ vs H Q E,sp vs H Q E->vs.length=ps.length)
  (jH:∀(f:ae)(cU:Value)(A:Around)(outer:List Env)(s:ag) (H:Hp) (vs:List V) (Q:VK) (E:XK),df k (A.deeper (dt x (yb st) s.heap.objs.size f cU))->sp vs H Q E ->
   ∃ t,fj (cxD P w K mg base N x st f cU A outer s H E) (qj st) t/\t {nx:=λ_ H'=>Q .bh H',rt:=Q} (start N vs) H):AV P w K mg base x (k+1) ps sp:=by
 obtain⟨f,fd,F,b,m⟩:=S;refine⟨f,fd,?_,b,F.kp,m⟩;obtain⟨oc,od,dV,kV,doc,pm,an,cU,ct,lj,rfl,lk,lR⟩:=F.ex;exact FF lk lR sc len λA outer s H vs Q E hr jD=>jH f cU A outer s H vs Q E hr jD
end
section
variable {X:Cx} {k:Nat} {ps:List Str} {sp:Sp} {E:XK} {x:Str} {p pos:Pos} {e:Expr} {es:List Expr} {t:TA} {σ0:L2.St}
theorem Zb2(d:AV X.prog X.w X.K X.mg X.base x k ps sp)(hr:df k X.A)(hg:Gl X x)(hx:qt (kL X.prog X.w) X σ0 E)(ha:PA X (e::es) t)(kS:(x==("__debug__":Str))=false:=by decide)
  (he:ao (e::es) X.env=(false,eval e X.env)::ao es X.env:=by rfl) (cC:(a9 pos (ao es X.env)).any (·.1)=false:=by rfl):PE X (.Call (.Name x p) (e::es) [] pos) (Pn σ0 sp [] E t):=by
 obtain⟨f,fd,F,b,kp,m⟩:=d;exact ycc F hr hg m kp b .nil hx ha kS he cC
end
section
variable {q p a:ae} {H H' H2:Hp} {o u:HO}
theorem YG(h:H p=none)(o):iW H (upd H p o):=λb u z=>by rw[Qc (Qe z h)];exact z
end
section
variable {X:Cx} {tg:Expr}
noncomputable def oz(K:Gc)(b:Bool)(a:ae):It:=if b=true then RY K a else RZ K a
noncomputable def Oi(K:Gc)(tl:TE):TI:=λσ H R=>tl σ H λx H1=>∃ b a,x=.ref a/\(∃ xs,i8 K H1 b a xs)/\R (oz K b a) H1
theorem A1   (hl:PE X l tl):PI X tg l (Oi X.K tl):=by
 intro pins s σ H R I h;refine bw (hl pins s σ H _ I h) λv s1 ⟨x,H1,I1,r1,q1⟩=>?_;obtain⟨b,a,e,⟨xs,hq⟩,q⟩:=q1;subst e;cases r1;cases b with
 |false =>
  obtain⟨aw,rv,p,hz⟩:=I1.list (show fR X.K H1 a xs from hq);refine eJ p.isList ?_;refine⟨s1.heap.objs.size,[s1.heap.objs.size],_,_,H1,rfl,I1.kept (t':=s1.toks) λb o e=>wa _ e,ybZ a _,⟨_,xb _ rfl,rfl,rfl⟩,λb hb=>?_,q⟩;obtain rfl:=vc.mp hb;exact I1.kB (Ub _) (I1.aS.fresh (Ub _))
 |true =>
  obtain⟨aw,rv,p,hz⟩:=I1.tuple (show ir X.K H1 a xs from hq);refine gU (show s1.heap.IsTuple a aw.toArray from p) ?_;refine⟨s1.heap.objs.size,[s1.heap.objs.size],_,_,H1,rfl,I1.kept (t':=s1.toks) λb o e=>wa _ e,ybI a _,⟨_,xb _ rfl,rfl,rfl⟩,λb hb=>?_,q⟩;obtain rfl:=vc.mp hb;exact I1.kB (Ub _) (I1.aS.fresh (Ub _))
end
theorem oz.go{K:Gc}{b:Bool}{a:ae}{i:Nat}{H:Hp}{xs:List V}(h:i8 K H b a xs)(hi:i<xs.length):(oz K b a).go i H:=by
 cases b with
 |false=>exact⟨xs,xs[i],h,by simp[hi]⟩
 |true=>exact⟨xs,xs[i],h,by simp[hi]⟩
theorem oz.stop{K:Gc}{b:Bool}{a:ae}{H:Hp}{xs:List V}(h:i8 K H b a xs):(oz K b a).stop xs.length H:=by
 cases b with
 |false=>exact⟨xs,h,Ub _⟩
 |true=>exact⟨xs,h,Ub _⟩
theorem oz.mU{K:Gc}{b:Bool}{a:ae}{i:Nat}{H H':Hp}{xs:List V}{x:V}(h:i8 K H b a xs)(y:(oz K b a).mU i H x H'):H'=H/\xs[i]?=some x:=by
 cases b with
 |false=>exact⟨y.1,y.2 xs h⟩
 |true=>exact⟨y.1,y.2 xs h⟩
theorem JJ{J:It}{n:Nat}{g:TG}{tb:TS}{D:Ends}{σ:L2.St}{H:Hp}(Pv:Nat->L2.St->Hp->Prop)(h0:Pv 0 σ H)(go:∀ i σ H,i<n->Pv i σ H->J.go i H)(stop:∀ σ H,Pv n σ H->J.stop n H)
  (turn:∀ i σ H x H2,i<n->Pv i σ H->J.mU i H x H2->g x σ H2 λσ2 H3=>tb {D with nx:=Pv (i+1),ct:=Pv (i+1),bk:=D.nx} σ2 H3) (fin:∀ σ H,Pv n σ H->D.nx σ H) :
  ∃ W:Nat->Nat->L2.St->Hp->Prop,(∃ m,W 0 m σ H)/\∀ i m σ H,W i m σ H ->
   (J.stop i H/\D.nx σ H)\/(J.go i H/\∃ N:L2.St->Hp->Prop,(∀ σ' H',N σ' H'->∃ m',m'<m/\W (i+1) m' σ' H')/\∀ x H',J.mU i H x H'->g x σ H' λσ2 H2=>tb {D with nx:=N,ct:=N,bk:=D.nx} σ2 H2):=by
 refine⟨λi m σ H=>m=n-i/\i<=n/\Pv i σ H,⟨n,by simp,xl _,h0⟩,?_⟩;rintro i m σ H ⟨rfl,hi,p⟩;by_cases lt:i<n
 ·exact .inr ⟨go i σ H lt p,Pv (i+1),λσ' H' p'=>⟨n-(i+1),by lia,rfl,lt,p'⟩,λx H' y=>turn i σ H x H' lt p y⟩
 ·obtain rfl:i=n:=by lia
  exact .inl ⟨stop σ H p,fin σ H p⟩
def Wn(n:Nat)(Pv:Nat->List V->L2.St->Hp->Prop):Nat->Nat->List V->L2.St->Hp->Prop:=λi m acc σ H=>m=n-i/\i<=n/\Pv i acc σ H
theorem wn      (lt:i<n)(p:Pv (i+1) acc σ H):∃ m',m'<n-i/\Wn n Pv (i+1) m' acc σ H:=⟨n-(i+1),by lia,rfl,lt,p⟩
theorem zcI          (Pv:Nat->List V->L2.St->Hp->Prop)(h0:Pv 0 [] (stC bW js σ) H)(go:∀ i acc σ H,i<n->Pv i acc σ H->J.go i H)(stop:∀ acc σ H,Pv n acc σ H->J.stop n H)
  (turn:∀ i acc σ H x H2,i<n->Pv i acc σ H->J.mU i H x H2->g x σ H2 λσ2 H3=>tc σ2 H3 λb H4 =>
   if b=true then te σ2 H4 λy H5=>acc.length<sizeLine/\∃ m',m'<n-i/\Wn n Pv (i+1) m' (acc++[y]) σ2 H5 else ∃ m',m'<n-i/\Wn n Pv (i+1) m' acc σ2 H4)
  (fin:∀ acc σ H,Pv n acc σ H->∀ D,H D=none->Q (.ref D) (upd H D (.lst acc))) :
  J9 J bW js g tc te σ H Q:=by
 refine⟨Wn n Pv,⟨n,by simp,xl _,h0⟩,?_⟩;rintro i m acc σ' H' ⟨rfl,hi,p⟩;by_cases lt:i<n
 ·exact .inr ⟨go i acc σ' H' lt p,λx H2 y=>turn i acc σ' H' x H2 lt p y⟩
 ·obtain rfl:i=n:=by lia
  exact .inl ⟨stop acc σ' H' p,fin acc σ' H' p⟩
theorem xZ   (lt:i<n)(acc)(σ)(H):(∃ m',m'<n-i/\Wn n Pv (i+1) m' acc σ H)=Pv (i+1) acc σ H :=
 propext ⟨λ⟨_,_,_,_,p⟩=>p,λp=>wn lt p⟩
theorem Ycx          (Pv:Nat->List V->L2.St->Hp->Prop)(h0:Pv 0 [] (stC bW js σ) H)(go:∀ i acc σ H,i<n->Pv i acc σ H->J.go i H)(stop:∀ acc σ H,Pv n acc σ H->J.stop n H)
  (turn:∀ i acc σ H x H2,i<n->Pv i acc σ H->J.mU i H x H2->g x σ H2 λσ2 H3=>tc σ2 H3 λb H4 =>
   if b=true then te σ2 H4 λy H5=>acc.length<sizeLine/\Pv (i+1) (acc++[y]) σ2 H5 else Pv (i+1) acc σ2 H4)
  (fin:∀ acc σ H,Pv n acc σ H->∀ D,H D=none->Q (.ref D) (upd H D (.lst acc))):J9 J bW js g tc te σ H Q :=
 zcI Pv h0 go stop (λi acc σ H x H2 lt p y=>by simp only[xZ lt];exact turn i acc σ H x H2 lt p y) fin
def Rj(P:ak)(w:World)(K:Gc)(mg:Str->Option Value)(base:Heap)(x:Str)(C:ae)(k:Nat)(ps:List Str)(sp:Sp):Prop :=
 ∃ f fd,Mk K C f/\fF P w K mg base (kL P w) k f fd ps sp/\Binds K fd ps []/\mg x=some (.ref C)
section
variable {X:Cx} {k:Nat} {ps:List Str} {sp:Sp} {E:XK} {x:Str} {C:ae} {p pos:Pos} {e:Expr} {es:List Expr} {t:TA} {σ0:L2.St}
theorem Qb3(d:Rj X.prog X.w X.K X.mg X.base x C k ps sp)(hr:df (k+1) X.A)(hg:Gl X x)(hx:qt (kL X.prog X.w) X σ0 E)(ha:PA X (e::es) t)(kS:(x==("__debug__":Str))=false:=by decide)
  (he:ao (e::es) X.env=(false,eval e X.env)::ao es X.env:=by rfl) (cC:(a9 pos (ao es X.env)).any (·.1)=false:=by rfl):PE X (.Call (.Name x p) (e::es) [] pos) (Lv σ0 C sp [] E t):=by
 obtain⟨f,fd,M,F,b,m⟩:=d;exact Zce M F hr hg m b .nil hx ha kS he cC
end
section
variable {X:Cx} (K:Gc)
def G'(K:Gc):List V->Hp->VK->Prop:=λxs H Q=>∃ p ys,xs=[.ref p]/\(fR K H p ys\/ir K H p ys)/\Q (.int ys.length) H
def G9(K:Gc):List V->Hp->VK->Prop:=λxs H Q=>∃ p ys,xs=[.ref p]/\(fR K H p ys\/ir K H p ys)/\∀ l,H l=none->Q (.ref l) (upd H l (.lst ys))
def G4(K:Gc):List V->Hp->VK->Prop:=λxs H Q=>∃ p ys,xs=[.ref p]/\((fR K H p ys/\∀ l,H l=none->Q (.ref l) (upd H l (.tup ys)))\/(ir K H p ys/\Q (.ref p) H))
theorem Pt(h:X.K=K:=by rfl):aO X (.builtin "len") (G' K):=h ▸ qa3
theorem zc7(h:X.K=K:=by rfl):aO X (.type "list") (G9 K):=h ▸ ybb
theorem zcz(h:X.K=K:=by rfl):aO X (.type "tuple") (G4 K):=h ▸ yaS
theorem BC(c:X.calm=true:=by rfl)(h:X.K=K:=by rfl):aO X (.builtin "sum") (AJ K):=h ▸ Yb6 c
theorem k_all(c:X.calm=true:=by rfl)(h:X.K=K:=by rfl):aO X (.builtin "all") (AU K):=h ▸ qcs c
theorem BD(c:X.calm=true:=by rfl)(h:X.K=K:=by rfl):aO X (.builtin "min") (AM K):=h ▸ ybV c
theorem BE(c:X.calm=true:=by rfl)(h:X.K=K:=by rfl):aO X (.builtin "max") (AN K):=h ▸ Zb1 c
theorem BF(h:X.K=K:=by rfl):aO X (.builtin "isinstance") (Ni K):=h ▸ ycD
theorem FX(h:X.K=K:=by rfl):xM X (AO K):=h ▸ LS
noncomputable def Hw(K:Gc):R2:=λx y H Q=>∃ b p xs i v,x=.ref p/\y=.int i/\i8 K H b p xs/\oU xs i=some v/\Q v H
theorem HZ(h:X.K=K:=by rfl):xM X (Hw K):=by
 subst h;intro value slice pins s σ H x y v u Q I rx ry hq hs;obtain⟨b,p,xs,i,z,e1,e2,hq,ha,q⟩:=hq;cases b with
 |false=>exact LS value slice pins s σ H x y v u Q I rx ry ⟨p,xs,i,z,e1,e2,hq,ha,q⟩ hs
 |true=>exact qc3 value slice pins s σ H x y v u Q I rx ry ⟨p,xs,i,z,e1,e2,hq,ha,q⟩ hs
theorem BG     (he:PE X e ta)(hb:aZ e f X.env (eval e X.env)=eval e X.env:=by rfl)(h:X.K=K:=by rfl):PE X (.Attribute e f pos) (Ao K ta f):=h ▸ ydd he hb
theorem HY   (hl:PE X l tl)(h:X.K=K:=by rfl):PI X tg l (Oi K tl):=h ▸ A1 hl
theorem BB       (hg:Gl X "zip")(hm:X.mg "zip"=none)(ha:PA X [a,b] ta)(hs:ao [a,b] X.env=[(false,eval a X.env),(false,eval b X.env)]:=by rfl)(kR:ao [b] X.env=[(false,eval b X.env)]:=by rfl)(h:X.K=K:=by rfl) :
  PI X (.Tuple es kt pt) (.Call (.Name "zip" p) [a,b] [] pos) (BV K ta):=h ▸ Zc6 hg hm ha hs kR
end
end L3
end
section
namespace L3
open PySem PySem.Spec PyProof.Rows L2 M3
structure sy (K:Gc) (cs:List ae) (C:ae) (i:Nat):Prop where
 z:mF K C
 kj:∀(j:Nat) D,cs[j]?=some D->Xe K (.ref C) (.ref D)=some (decide (j=i))
 ve:Xe K (.ref C) (.type "ValueError")=some true
 i10:i<10
noncomputable def ic:List Str:=["picture","out","meet","tile","inks","shares","shade","stretches","way","text"]
noncomputable def DI(i:Nat):Str:=ic.getD i ""
def fG(P:ak)(w:World)(K:Gc)(mg:Str->Option Value)(base:Heap)(x:Str)(k:Nat)(ps:List Str)(sp:ae->ae->Sp):Prop :=
 ∃ f fd,oE P w K mg base k f fd ps sp/\Binds K fd ps []/\vg K (.ref f)=true/\mg x=some (.ref f)
section
variable {X:Cx} {k:Nat} {x0 C t T:ae} {ps:List Str} {sp:ae->ae->Sp} {x:Str} {p pos:Pos} {e:Expr} {es:List Expr} {ta:TA}
theorem MJ(d:fG X.prog X.w X.K X.mg X.base x k ps sp)(hr:df k X.A)(hg:Gl X x)
  (ha:PA (nu X x0 (Qn C t (.ref T))) (e::es) ta) (kS:(x==("__debug__":Str))=false:=by decide) (he:ao (e::es) X.env=(false,eval e X.env)::ao es X.env:=by rfl) (cC:(a9 pos (ao es X.env)).any (·.1)=false:=by rfl) :
  PE (nu X x0 (Qn C t (.ref T))) (.Call (.Name x p) (e::es) [] pos) (DK (sp x0 C) [] E0 ta):=by
 obtain⟨f,fd,F,b,kp,m⟩:=d;exact yck F hr hg m kp b ha kS he cC
end
theorem qcL{P:ak}{w:World}{K:Gc}{mg:Str->Option Value}{base:Heap}{x:Str}{st:Stmt}{N ps:List Str}{k:Nat}{sp:ae->ae->Sp}(S:Src K mg x st ps)(sc:fE N ps (yb st))(len:∀ x C vs H Q E,sp x C vs H Q E->vs.length=ps.length)
  (jH:∀(f:ae)(x0 C t T:ae)(cU:Value)(A:Around)(outer:List Env) (s:ag) (H:Hp) (vs:List V) (Q:VK),iu k (A.deeper (dt x (yb st) s.heap.objs.size f cU)) x0->sp x0 C vs H Q E0 ->
   ∃ tr,fj (pV P w K mg base N x (yb st) f cU A outer s H x0 (Qn C t (.ref T))) (qj st) tr/\tr {nx:=λ_ H'=>Q .bh H',rt:=Q} (start N vs) H):fG P w K mg base x (k+1) ps sp:=by
 obtain⟨f,fd,F,b,m⟩:=S;exact⟨f,fd,YcW F sc len λx0 C t T cU A outer s H vs Q hr jD=>jH f x0 C t T cU A outer s H vs Q hr jD,b,F.kp,m⟩
end L3
end
section
namespace L2
open PySem PySem.Spec PyProof.Rows
section
variable {X:Cx} {tg:Expr}
def ycu:V->List V->Hp->VK->Prop:=λx vs H Q=>∃ l b xs zs,x=.ref l/\vs=[.ref b]/\H l=some (.lst xs)/\Rd H b (.lst zs)/\xs.length+zs.length<=sizeLine/\Q .bh (upd H l (.lst (xs++zs)))
theorem Yby:vJ X "list.extend" ycu:=by
 intro pins s σ H x vs v us Q I rx rv h;obtain⟨l,b,xs,zs,rfl,rfl,hH,hB,hz,q⟩:=h;cases rx;obtain⟨u,rfl,ru⟩:=rv.one;cases ru;obtain⟨z,aw,n,r,hl,e⟩:=I.ky hH;obtain⟨z2,dJ,n2,r2,e2⟩:=hB.ok I.aS;have B':=r2.length;have hsz:aw.toArray.size+dJ.toArray.size<=sizeLine:=by rw[Xa,Xa];lia
 have lQ:¬(!aw.toArray.isEmpty&&Jn (aw.toArray.size+dJ.toArray.size))=true:=by
  rw[K1 hsz,Hf];exact Xd
 refine cw Hj ⟨_,e,rfl⟩ jj (Kj _ _)
  (jo l aw.toArray n b dJ.toArray n2 lQ (by rw[Xa];lia) (by lia)) ⟨e,e2,?_⟩
 refine⟨.bh,_,I.md (its':=aw++dJ) hH e (by simp) (r.append r2) ?_,rfl,q⟩;rw[ue]
 lia
end
end L2
end
section
namespace L3
open PySem PySem.Spec PyProof.Rows L2 M3
theorem zW
  (ij:aZ o name env (eval o env)=eval o env)
  (nZ:((a9 pos (ao args env)).all (λx=>!x.1)&&(eI pos (cb [] env)).all (λx=>x.1.isSome)&&decide (args.length+([]:List dA).length+(if([]:List dA).isEmpty then 0 else 1)<30))=true)
  (dg:(apos.endLine==pos.line)=true)
  (h:ah (aj prog w) A (eval o env) (λov s₁=>∀ pl,ah (aj prog w) A (kT ov name pl) (λfx s₂=>ah (aj prog w) A (callWith pos fx.1 fx.2 (a9 pos (ao args env)) (eI pos (cb [] env))) Q E s₂) E s₁) E s) :
  ah (aj prog w) A (eval (.Call (.Attribute o name apos) args [] pos) env) Q E s:=by
 rw[arm_eval_Call,ij];refine aa (aU h (λov s₁ h₁=>?_) λ_ _ e=>e);refine aa (dw ?_);have Cd:methodCallForm (args.length+([]:List dA).length) (a9 pos (ao args env)) (eI pos (cb [] env))=true:=nZ;have tR:kx true o env apos pos=pure pos:=by unfold kx;simp[dg]
 unfold methodCall;rw[Cd];refine aa (av (aU (h₁ _) (λfx s₂ h₂=>?_) λ_ _ e=>e));exact aa (iO tR h₂)
section
variable {X:Cx} {k:Nat} {E:XK} {x m:Str} {p pos apos:Pos} {e o:Expr} {es:List Expr} {ta:TE} {t:TA} {σ0:L2.St}
def Np(P:ak)(w:World)(K:Gc)(mg:Str->Option Value)(base:Heap)(k:Nat)(C:ae)(m:Str)(sp:Sp):Prop :=
 lZ K C/\∃ f fd ps,Meth K C m f/\fF P w K mg base (kL P w) k f fd ps sp/\Binds K fd ps []
noncomputable def Lw(X:Cx)(k:Nat)(σ0:L2.St)(m:Str)(E:XK)(ta:TE)(t:TA):TE:=λσ H Q=>σ=σ0/\ta σ H λx H1=>∃ a C dx fs sp,x=.ref a/\H1 a=some (.ins C dx fs)/\fs.lookup m=none/\Np X.prog X.w X.K X.mg X.base k C m sp /\
 t σ H1 λvs H2=>sp (x::vs) H2 Q E
theorem Ycq(he:PE X o ta)(hr:df k X.A)(hx:qt (kL X.prog X.w) X σ0 E)(ha:PA X (e::es) t)
  (nh:ao (e::es) X.env=(false,eval e X.env)::ao es X.env) (cC:(a9 pos (ao es X.env)).any (·.1)=false)
  (ij:aZ o m X.env (eval o X.env)=eval o X.env) (nZ:((a9 pos (ao (e::es) X.env)).all (λx=>!x.1)&&(eI pos (cb [] X.env)).all (λx=>x.1.isSome)&&decide ((e::es).length+([]:List dA).length+(if([]:List dA).isEmpty then 0 else 1)<30))=true) (dg:(apos.endLine==pos.line)=true) :
  PE X (.Call (.Attribute o m apos) (e::es) [] pos) (Lw X k σ0 m E ta t):=by
 intro pins s σ H Q I h;obtain(⟨rfl,h⟩):=h;refine zW ij nZ dg (bw (he pins s σ H _ I h) λu s1 ⟨x,H1,I1,rx,a,C,dx,fs,sp,ex,ea,l,⟨c,f,fd,ps,hm,F,hb⟩,q⟩ pl=>?_);subst ex;obtain rfl:u=Ka a:=rx;refine MW I1 ea c hm l ?_;refine Vv (first:=[.ref a]) (h₀:=X.base) I.ok.mod.rY hm.kp (bw (ha pos pins s1 σ H1 _ I1 q) λus s2 ⟨vs,H2,I2,r,q2⟩=>⟨I2.gO,?_⟩) nh cC;exact HP (us:=.ref a::us) (vs:=.ref a::vs) (dvs:=[]) F hr hb .nil hx I2 (.cons rfl r) (by rw[xh];exact q2)
theorem QbS(he:PE X o ta)(hr:df k X.A)(hx:qt (kL X.prog X.w) X σ0 E)
  (ij:aZ o m X.env (eval o X.env)=eval o X.env) (dg:(apos.endLine==pos.line)=true) :
  PE X (.Call (.Attribute o m apos) [] [] pos) (Lw X k σ0 m E ta Df):=by
 intro pins s σ H Q I h;obtain(⟨rfl,h⟩):=h;refine zW ij (by rfl) dg (bw (he pins s σ H _ I h) λu s1 ⟨x,H1,I1,rx,a,C,dx,fs,sp,ex,ea,l,⟨c,f,fd,ps,hm,F,hb⟩,q⟩ pl=>?_);subst ex;obtain rfl:u=Ka a:=rx;refine MW I1 ea c hm l ?_;exact XF (first:=[.ref a]) I1.gO hm.kp (HP (us:=[.ref a]) (vs:=[.ref a]) (dvs:=[]) F hr hb .nil hx I1 (.cons rfl .nil) (by rw[xh];exact q))
structure rp (K:Gc) (C:ae):Prop where
 makes:Xv K C=true
 init:Wc K (.ref C) "__init__"=some (some (.builtin "object.__init__"))
 kp:vg K (.ref C)=true
theorem ZbX       (M:rp X.K C)(I:Inv X pins σ H s)
  (h:∀ x dx,H x=none->H dx=none->dx≠x->Q (.ref x) (upd (upd H dx (.own x)) x (.ins C dx []))):ah (aj X.prog X.w) X.A (call (.ref C) []) (EP X pins σ Q) X.xe s:=by
 have hq:=h (s.heap.objs.size+1) s.heap.objs.size (I.aS.fresh (vA _)) (I.aS.fresh (Ub _)) (uc (uo _));have I2:=Inv.made (C:=C) I;have Y:=xC (M:=aj X.prog X.w) I.gO M.makes;have hx:((s.heap.push ug).push (Wh C s.heap.objs.size)).get? (s.heap.objs.size+1)=some (Wh C s.heap.objs.size):=by
  have:=xb (s.heap.push ug) (o:=Wh C s.heap.objs.size) rfl
  rwa [Xg] at this
 refine dW (qb0 I.gO M.makes M.init (λself=>PySem.W.Looks.of_pure (PySem.W.oi_bind self)) ?_);have t1:Kd (aj X.prog X.w) ((s.heap.push ug).push (Wh C s.heap.objs.size)) (typeOf (.ref (s.heap.objs.size+1))) (.ref C):=(PySem.W.Looks.ld hx).andThen .now;have t2:Kd (aj X.prog X.w) ((s.heap.push ug).push (Wh C s.heap.objs.size)) (isInstance (.ref (s.heap.objs.size+1)) (.type "object")) true:=t1.andThen (Y.top.keeps λb o e=>wa _ (wa _ e));refine dG PySem.W.oi_plain PySem.W.entry_oi (@PySem.W.check_slot (aj X.prog X.w) _ _ _ "object.__init__" "object" "__init__" (.ref (s.heap.objs.size+1)) [] [] _ PySem.W.oi_kind PySem.W.oi_split t2 (PySem.W.oi_args (.ref (s.heap.objs.size+1))) ?_);rw[PySem.W.oi_run];exact af (And.intro rfl ⟨V.ref (s.heap.objs.size+1),_,I2,rfl,hq⟩)
noncomputable def yc0(C:ae):TE:=λσ H Q=>∀ x dx,H x=none->H dx=none->dx≠x->Q (.ref x) (upd (upd H dx (.own x)) x (.ins C dx []))
theorem YbS  (M:rp X.K C)(hg:Gl X x)(hm:X.mg x=some (.ref C))(kS:(x==("__debug__":Str))=false):PE X (.Call (.Name x p) [] [] pos) (yc0 C):=by
 intro pins s σ H Q I h;refine aV (ZQ I hg hm ?_ kS);exact XF I.gO M.kp (ZbX M I h)
noncomputable def Ak(K:Gc)(te:TE)(ts:TO):TE:=λσ H Q=>te σ H λx H1=>ts σ H1 λst H2=>st=some (-1)/\∃ a xs,x=.ref a/\fR K H2 a xs/\∀ q,H2 q=none->Q (.ref q) (upd H2 q (.lst xs.reverse))
theorem qcJ{te:TE}{ts:TO}{st:Expr}{p2:Pos}(he:PE X e te)(hs:PO X (some st) ts):PE X (.Subscript e (.Slice none none (some st) p2) pos) (Ak X.K te ts):=by
 intro pins s σ H Q I h;refine jT (bw (he pins s σ H _ I h) λv s1 ⟨x,H1,I1,r1,q1⟩=>?_);refine wpAny_Slice ?_;rw[gP];refine af (af (bw (hs pins s1 σ H1 _ I1 q1) λvs s3 ⟨z,H3,I3,pz,q3⟩=>?_));obtain⟨rfl,a,xs,rfl,hx,q⟩:=q3;cases r1;have I4:Inv X pins σ H3 {s3 with heap:=s3.heap.push {cls:=.type "slice",data:=.fields #[.none,.none,vs]}}:=I3.kept (t':=s3.toks) λb ob q=>wa _ q;obtain⟨aw,r,ht,hz⟩:=I4.list hx;have hlen:aw.toArray.size=xs.length:=by rw[Xa];exact r.length.symm
 show ah (aj X.prog X.w) X.A (gN e (.Slice none none (some st) p2) (.ref a) (.ref s3.heap.objs.size)) (EP X pins σ Q) X.xe {s3 with heap:=s3.heap.push {cls:=.type "slice",data:=.fields #[.none,.none,vs]}};refine tail_any (ops:=[.ref a,.ref s3.heap.objs.size]) ht.isList.typeIs slot_list_getitem.lookup ?_ (by rfl);refine eS ht.isList (Heap.IsSliceOf.new ..) .none .none pz (by decide) ?_ (by rw[hlen];exact hz);rw[PySem.W.krv_pick];refine⟨.ref _,_,I4.laid (t':=s3.toks) (o:=.lst xs.reverse) (λb ob q=>wa _ q) (Ub _) ?_,rfl,q _ (I4.aS.fresh (Ub _))⟩;refine⟨by rw[xF];exact hz,aw.reverse,0,r.reverse,?_⟩;have:=xb (s3.heap.push {cls:=.type "slice",data:=.fields #[.none,.none,vs]}) (o:={cls:=.type "list",data:=.seq aw.reverse.toArray}) rfl;simpa using this
end
end L3
end
section
namespace L3
open PySem PySem.Spec PyProof.Rows L2 M3
def Ah(P:ae)(lp:Pos)(oc:Option ae):Heap->Prop:=λh=>∃ ps:Array Value,h.get? P=some (PySem.W.tabObj ps)/\TriplesOk ps.toList/\codeAmong lp ps.toList=oc.map Ka
def JY(c':ae)(q:Str):Heap->Prop:=λh=>h.CodeRec (.ref c') q
structure vL (mg:Str->Option Value) (base:Heap) (c P:ae):Prop where
 code:PySem.W.CodeHd base c P
 bmain:∃ bm ob,mg "__builtins__"=some (.ref bm)/\bm≠builtinsNs/\base.get? bm=some ob/\ob.cls=.type "module"/\ob.dict=some builtinsNs/\ob.data=.plain
end L3
end
section
namespace L3
open PySem PySem.Spec PyProof.Rows L2 M3
theorem yP{α β:Type}{F:α->β->Prop}:∀{l₁:List α}{l₂:List β},du F l₁ l₂->l₁.length=l₂.length
 |_,_,.nil=>rfl
 |_,_,.cons r t=>by simp[yP t]
end L3
end
section
namespace L3
open PySem PySem.Spec PyProof.Rows L2 M3
theorem zca:fu (.type "list") "__getattr__"=pure none:=by rw[dI,bV];kernel_rfl
theorem zbB:fu (.type "list") "keys"=pure none:=by rw[dI,bV];kernel_rfl
section
variable {prog:ak} {w:World} {A:Around} {h:Heap} {g:Array lY} {d:Drawn} {t:Nat} {os:OsState} {a:ae} {aw:Array Value} {n:Nat}
noncomputable abbrev xT(aw:Array Value)(n:Nat):Obj:={cls:=.type "list",data:=.seq aw n}
theorem Ycu    (hx:h.get? a=some (xT aw n))(hh:A.handled=none)
  (hE:∀ h' pd e,Je h h' e (.ref a) "keys"->E (.ref e) ⟨h',g,d,pd,os⟩) :
  ah (aj prog w) A (Builtin.«object.__getattribute__» ⟨[.ref a,.str "keys" tk],[]⟩) Q E ⟨h,g,d,t,os⟩:=by
 have hT:(⟨h,g,d,t,os⟩:ag).TypeIs (.ref a) "list":=⟨_,hx,rfl⟩;have f1:=zbB;unfold Builtin.«object.__getattribute__»
 repeat (any_goals (first|assumption|wp_step))
 exact wpAny_raiseAttrError hh hE (attrMsg_fits (by decide +kernel) (by decide +kernel))
theorem ycK   (hx:h.get? a=some (xT aw n))(hh:A.handled=none)
  (hR:∀ h' pd e,Je h h' e (.ref a) "keys"->R (.error (.ref e)) ⟨h',g,d,pd,os⟩) :
  bG (aj prog w) A (.call (.builtin "list.__getattribute__") ⟨[.ref a,.str "keys" tk],[]⟩) R ⟨h,g,d,t,os⟩ :=
 dG Gg.plain PySem.F.entry_list_ga (Gg.check _ _ _ _ _ _ _ _ (show(⟨h,g,d,t,os⟩:ag).TypeIs (.ref a) "list" from⟨_,hx,rfl⟩) (PySem.F.args_list_getattribute_2 _ _) (Ycu hx hh hR))
theorem Bx    (hx:h.get? a=some (xT aw n))(hh:A.handled=none)
  (hE:∀ h' pd e,Je h h' e (.ref a) "keys"->E (.ref e) ⟨h',g,d,pd,os⟩) :
  ah (aj prog w) A (getAttrBy (.ref a) (.str "keys" tk) false) Q E ⟨h,g,d,t,os⟩:=by
 have hT:(⟨h,g,d,t,os⟩:ag).TypeIs (.ref a) "list":=⟨_,hx,rfl⟩;have f2:=Gg.lookup;have f3:=Gg.bind (.ref a);have f4:=zca
 repeat (any_goals (first|assumption|wp_step))
 refine ycK hx hh λh' pd e ne=>?_;obtain⟨t',u',he⟩:=ne.there;have f5:=gW;show ah _ _ (hJ _ _ _ _ _ _ _) _ _ _;unfold hJ
 repeat (any_goals (first|assumption|wp_step))
 exact hE _ _ _ ne
theorem YcH   (hx:h.get? a=some (xT aw n))(hh:A.handled=none)
  (hQ:∀ h' pd,(∀ b o,h.get? b=some o->h'.get? b=some o)->Q none ⟨h',g,d,pd,os⟩) :
  ah (aj prog w) A (jJ (.ref a) "keys") Q E ⟨h,g,d,t,os⟩:=by
 have f5:=gW;unfold jJ getAttrBy?
 repeat (any_goals (first|assumption|with_reducible apply Bx hx hh|wp_step))
 intro h' pd e ne;obtain⟨t',u',he⟩:=ne.there
 repeat (any_goals (first|assumption|wp_step))
 exact hQ _ _ ne.keeps
end
theorem YZ:plainId "dict.update.loop"=true:=by decide +kernel
theorem MM:lU table "dict.update.loop"=some Builtin.«dict.update.loop»:=iL (by kernel_rfl)
noncomputable def zm(ps:List (List Key×ae×Value))(xs:List (List Key×ae×Value)):List (List Key×ae×Value):=ps.foldl (λacc p=>cA acc p.1 p.2.1 p.2.2) xs
theorem PU{K:Type} [DecidableEq K] (xs:List (K×ae×Value))(k:K)(a)(v):(cA xs k a v).length<=xs.length+1:=by
 unfold cA;split <;> simp
theorem RI:∀(ps xs:List (List Key×ae×Value)),(zm ps xs).length<=xs.length+ps.length
 |[],xs=>by simp[zm]
 |p::ps,xs=>by
  have h1:=RI ps (cA xs p.1 p.2.1 p.2.2);have h2:=PU xs p.1 p.2.1 p.2.2;show(zm ps (cA xs p.1 p.2.1 p.2.2)).length<=_;simp only[Vc];lia
section
variable {prog:ak} {w:World} {A:Around} {R:hX->ag->Prop} {D I l:ae} {items:Array Value} {h₀:Heap}
def QcF(prog:ak)(w:World)(h:Heap)(items:Array Value)(ps:List (List Key×ae×Value)):Prop :=
 ∀(i:Nat)(v:Value),items[i]?=some v->∃ T p,v=.ref T/\ps[i]?=some p/\gQ h T #[.ref p.2.1,p.2.2]/\(aq (zg prog w)).is h p.1 p.2.1
theorem Ma{h h':Heap}{xs:List (List Key×ae×Value)}{i:Nat}(x:h.DictOfH (aq (zg prog w)) D xs)(Cn:D≠I)(st:h.IsListIter I l i)(sb:∀ b o,b≠I->h.get? b=some o->h'.get? b=some o):h'.DictOfH (aq (zg prog w)) D xs:=by
 obtain⟨o,es,ep,e1,e2,e3,e4,e5,e6⟩:=x;refine⟨o,es,ep,sb D o Cn e1,e2,e3,e4,λy hy=>?_,e6⟩;obtain⟨o',aw,n,k1,k2,k3⟩:=e5 y hy;refine⟨o',aw,n,sb _ _ (λe=>?_) k1,k2,k3⟩;obtain⟨o2,q1,q2,_⟩:=st;rw[e,q1] at k1;cases k1;rw[q2] at k2;exact absurd k2 (by decide)
theorem yaN(ps:List (List Key×ae×Value))(i:Nat)(p:List Key×ae×Value)(h:ps[i]?=some p):zm (ps.take (i+1)) []=cA (zm (ps.take i) []) p.1 p.2.1 p.2.2:=by
 unfold zm;rw[Vj,h];simp
theorem Qcc(hu:A.units+2<dn)(hh:A.handled=none)(ps:List (List Key×ae×Value))(hps:ps.length=items.size)(hz:items.size<sizeLine)(Cn:D≠I)(hlI:l≠I)(hlD:l≠D)
  (By:∀ h',(∀ b o,b≠D->b≠I->h₀.get? b=some o->h'.get? b=some o)->QcF prog w h' items ps) :
  ∀(m i:Nat)(s:ag)(t:Tok),items.size-i=m->i<=items.size->s.heap.IsListIter I l i->s.heap.IsList l items->(∀ b o,b≠D->b≠I->h₀.get? b=some o->s.heap.get? b=some o) ->
  s.heap.DictOfH (aq (zg prog w)) D (zm (ps.take i) []) ->
  (∀ h' tk,h'.DictOfH (aq (zg prog w)) D (zm ps [])->(∀ b o,b≠D->b≠I->h₀.get? b=some o->h'.get? b=some o)->R (.ok (.ret .none)) {s with heap:=h',toks:=tk}) ->
  bG (aj prog w) A (.builtin "dict.update.loop" ⟨[.ref D,.ref I,.int i t,.none],[]⟩) R s:=by
 intro m
 induction m with
 |zero =>
  intro i s t hm hi st hl hk hd hR;have jE:i=items.size:=by lia
  refine cR MM ?_;rw[jg YZ _];show ah _ A.in1 (bU (.ref I) >>= _) _ _ s;refine aa (fK hh st hl (by simp[jE]) λh' eb=>?_);show ah _ _ (Gq D [] >>= _) _ _ _;refine aa (af (af (hR h' _ ?_ λb o h1 h2 e=>eb b o h2 (hk b o h1 h2 e))));have:=Ma hd Cn st eb
  rwa [jE,<- hps,Vi] at this
 |succ m ih =>
  intro i s t hm hi st hl hk hd hR;have lP:i<items.size:=by lia
  refine cR MM ?_;rw[jg YZ _];show ah _ A.in1 (bU (.ref I) >>= _) _ _ s;refine aa (fm st hl (x:=items[i]) (by simp[lP]) λh' mW sb=>?_);have wM:∀ b o,b≠D->b≠I->h₀.get? b=some o->h'.get? b=some o:=λb o h1 h2 e=>(sb.2 b h2).trans (hk b o h1 h2 e);obtain⟨T,p,e1,e2,e3,e4⟩:=By h' wM i items[i] (by simp[lP]);have n6:=Ma hd Cn st sb.extBut;obtain⟨oT,t1,t2,tn,t3⟩:=e3;have hlen:(zm (ps.take i) []).length<=sizeLine:=by
   have:=RI (ps.take i) [];simp only[ui,Ul] at this
   lia
  rw[e1];show ah _ _ (dP _ _ >>= _) _ _ _;refine aa (av ?_);refine aa (wpAny_tryCatch (aa (bN (T:="tuple") ⟨oT,t1,t2⟩ ?_)));rw[if_pos (by decide)];refine aa (aR t1 t3 (af ?_));show ah _ _ (dP [Ka p.2.1,p.2.2] (dictSet D (.ref p.2.1) p.2.2)) _ _ _;refine av (wpAny_dictSet_heap (knd:=aq (zg prog w)) (dX (by lia)) e4 n6 (λpR t9 sV=>?_) hlen);refine af ⟨dz YZ _,?_⟩;have IL:∀ b o,b≠D->b≠I->h₀.get? b=some o->pR.get? b=some o:=λb o h1 h2 e=>(sV.2 b h1).trans (wM b o h1 h2 e);refine ih (i+1) _ _ (by lia) lP (mW.at λo e=>(sV.2 I (Ke Cn)).trans e) (hl.at λo e=>(sV.2 l hlD).trans ((sb.2 l hlI).trans e)) IL (by rw[yaN ps i p e2];exact t9) λh3 tk hd3 hk3=>hR h3 tk hd3 hk3
end
section
variable {X:Cx}
def Ld(H:Hp):List V->List (List Key×V)->Prop:=du λv kv=>∃ T K,v=V.ref T/\H T=some (.tup [.ref K,kv.2])/\H K=some (.tup (kv.1.map kV))
noncomputable def qu(kQ kvs:List (List Key×V)):List (List Key×V):=kQ.foldl (λacc kv=>ow acc kv.1 kv.2) kvs
theorem yV:∀(kQ kvs:List (List Key×V)),(qu kQ kvs).length<=kvs.length+kQ.length
 |[],kvs=>by simp[qu]
 |p::kQ,kvs=>by
  have h1:=yV kQ (ow kvs p.1 p.2);have h2:=ybk kvs p.1 p.2;show(qu kQ (ow kvs p.1 p.2)).length<=_;simp only[Vc];lia
theorem Pz     (ok:fQ P w H h):∀{vs:List V}{kQ:List (List Key×V)} {us:List Value},Ld H vs kQ->Vals vs us ->
  ∃ ps,KT H kQ ps/\ps.length=us.length/\∀(i:Nat)(v:Value),us[i]?=some v->∃ T p,v=.ref T/\ps[i]?=some p/\gQ h T #[.ref p.2.1,p.2.2]/\(aq (zg P w)).is h p.1 p.2.1
 |_,_,_,.nil,.nil=>⟨[],.nil,rfl,λi v e=>by simp at e⟩
 |_,_,_,.cons (a:=v) (b:=kv) hv tv,.cons (b:=u) hu tu=>by
  obtain⟨ps,k1,k2,k3⟩:=Pz ok tv tu;obtain⟨T,K,rfl,hT,hK⟩:=hv;obtain rfl:u=Ka T:=hu;obtain⟨_,aw,r,o,e1,e2,n,e3⟩:=ok T _ hT
  rcases aw with _|⟨x,_|⟨y,_|⟨z,aw⟩⟩⟩
  ·cases r
  ·cases r with|cons _ t=>cases t
  ·cases r with
   |cons hx t=>cases t with
    |cons hy t =>
     obtain rfl:x=Ka K:=hx;refine⟨(kv.1,K,y)::ps,.cons ⟨rfl,hK,hy⟩ k1,by simp[k2],λi v e=>?_⟩;cases i with
     |zero=>simp at e;subst e;exact⟨T,_,rfl,rfl,⟨o,e1,e2,n,by simpa using e3⟩,KU ok hK⟩
     |succ i=>simpa using k3 i v (by simpa using e)
  ·cases r with|cons _ t=>cases t with|cons _ t=>cases t
theorem Nm    (k:KT H kQ ps):∀{kvs:List (List Key×V)} {xs:List (List Key×ae×Value)},KT H kvs xs->KT H (qu kQ kvs) (zm ps xs):=by
 induction k with
 |nil=>intro kvs xs r;exact r
 |@cons p q as bs h t ih =>
  intro kvs xs r;have e:=r.put p.1 (b:=q.2.1) h.2.1 h.2.2;show KT H (qu as (ow kvs p.1 p.2)) (zm bs (cA xs q.1 q.2.1 q.2.2));rw[<- h.1];exact ih e
def YcX:List V->Hp->VK->Prop:=λxs H Q=>∃ a vs kQ,xs=[.ref a]/\Rd H a (.lst vs)/\Ld H vs kQ/\kQ.length<sizeLine/\∀ p o,H p=none->Q (.ref p) (upd H p (.eO o (.dT (qu kQ []))))
theorem zbv(hc:X.calm=true)(hu:X.A.units+3<dn):aO X (.type "dict") YcX:=by
 intro pins s σ H xs us Q I r h;obtain⟨a,vs,kQ,rfl,ha,pv,hz,q⟩:=h;obtain rfl:=xV r;obtain⟨_,aw,n,rv,hg⟩:=ha.ok I.aS;obtain⟨ps,k1,k2,k3⟩:=Pz I.aS pv rv;have hh:=I.ok.hd hc;have hlk:kQ.length=ps.length:=yP k1;have Ob:a<s.heap.objs.size:=Ua hg;refine jO (Q₁:=λobj s₁=>obj=.ref s.heap.objs.size/\s₁={s with heap:=s.heap.push {cls:=.type "dict",data:=.dict #[]}}) PySem.F.kt_called_dict (PySem.F.kt_typeCall_dict_1 _) PySem.F.entry_dict_init (kt_code_dict_new _ ⟨rfl,rfl⟩) ?_;rintro obj s₁ ⟨rfl,rfl⟩;obtain⟨_,Il,xs0,r0,oD,es0,ep0,d1,d2,d3,d4,d5⟩:=LH (P:=X.prog) (w:=X.w) (H:=H) s.heap I.big;cases r0;generalize r9:s.heap.push {cls:=.type "dict",data:=.dict #[]}=h1 at d1;have IS:h1.get? a=some (xT aw.toArray n):=by rw[<- r9];exact wa _ hg
 have sz1:h1.objs.size=s.heap.objs.size+1:=by rw[<- r9];simp
 have kp1:∀ b o,s.heap.get? b=some o->h1.get? b=some o:=λb o e=>by rw[<- r9];exact wa _ e
 refine⟨⟨oD,d1,d2.1⟩,PySem.F.args_dict_init_2 _ _,?_⟩;unfold Builtin.«dict.__init__»;refine aa ?_;unfold Hq;refine aa (dj ⟨oD,d1,d2.1⟩ ?_);show ah _ _ (pure (s.heap.objs.size,[Ka a])) _ _ _;refine af ?_;show ah _ _ (jq "dict.__init__" s.heap.objs.size (.ref a) [] .none) _ _ _;unfold jq;refine aa (bN (T:="list") ⟨_,IS,rfl⟩ ?_);rw[if_pos (by decide)];refine aa (YcH IS hh λh2 tk2 Ez=>?_);have IQ:=Ez _ _ IS;rw[if_pos (by decide)];refine aa (bH ?_);refine aa (eJ (items:=aw.toArray) ⟨_,IQ,rfl,n,rfl⟩ ?_);refine af ⟨dz YZ _,?_⟩;generalize EJ:h2.push {cls:=.type "list_iterator",data:=.fields #[.ref a,.int 0 0]}=h3;have Oe:∀ b o,h2.get? b=some o->h3.get? b=some o:=λb o e=>by rw[<- EJ];exact wa _ e
 have kp:∀ b o,s.heap.get? b=some o->h3.get? b=some o:=λb o e=>Oe _ _ (Ez _ _ (kp1 _ _ e));have Eu:s.heap.objs.size<h2.objs.size:=Ua (Ez _ _ d1);refine Qcc (A:=X.A.in1) (D:=s.heap.objs.size) (I:=h2.objs.size) (l:=a) (items:=aw.toArray) (h₀:=s.heap) (by show X.A.units+1+2<dn;lia) hh ps (by simp[k2]) (by rw[Xa,<- k2,<- hlk];exact hz) (uc Eu) (uc (wt Ob Eu)) (uc Ob)
  (λh' kk i v e=>?_) aw.toArray.size 0 _ (0:Tok) (by simp) (xl _) ?_ ?_ ?_ ?_ λh' tk hd hk=>?_
 ·obtain⟨T,p,e1,e2,⟨oT,t1,t2⟩,oK,iK,nK,q1,q2⟩:=k3 i v (by simpa using e);have up:∀ b o,s.heap.get? b=some o->h'.get? b=some o:=λb o e=>kk b o (uc (Ua e)) (uc (wt (Ua e) Eu)) e;exact⟨T,p,e1,e2,⟨oT,up _ _ t1,t2⟩,oK,iK,nK,up _ _ q1,q2⟩
 ·exact⟨_,by rw[<- EJ];exact xb _ rfl,rfl,rfl⟩
 ·exact⟨_,kp _ _ hg,rfl,n,rfl⟩
 ·exactλb o _ _ e=>kp _ _ e
 ·refine⟨oD,es0,ep0,Oe _ _ (Ez _ _ d1),d2,d3,?_,λx hx=>?_,?_⟩
  ·simpa[zm] using d4
  ·simp[zm] at hx
  ·simp[zm]
 ·obtain⟨o,es,ep,e1,e2,e3,e4,e5,e6⟩:=hd;have up:∀ b o,s.heap.get? b=some o->h'.get? b=some o:=λb o e=>hk b o (uc (Ua e)) (uc (wt (Ua e) Eu)) e;have fr:H s.heap.objs.size=none:=I.aS.fresh (Ub _);refine⟨rfl,.ref s.heap.objs.size,_,I.laid (a:=s.heap.objs.size) (o:=.eO o (.dT (qu kQ []))) (t':=tk) up (Ub _) ⟨e1,?_⟩,rfl,q _ o fr⟩;refine⟨?_,Il,zm ps [],?_,o,es,ep,e1,e2,e3,e4,e6⟩
  ·have:=yV kQ [];simp only[ui] at this
   lia
  ·exact(Nm k1 (kvs:=[]) (xs:=[]) .nil).keeps λb ys e=>by rw[Qc (Qe e fr)];exact e
end
end L3
end
section
namespace L3
open PySem PySem.Spec PyProof.Rows L2 M3
noncomputable def Oz:Nat:=11400714785074694791
noncomputable def wQ:Nat:=14029467366897019727
noncomputable def EO:Nat:=2870177450012600261
noncomputable def ER:Nat:=839798700976720815
noncomputable def hM:Nat:=18446744073709551616
noncomputable def vS(x:Nat):Nat:=((x*2147483648)%hM+x/8589934592)*Oz%hM
noncomputable def hI1:Nat:=614540362697595703
theorem ZcG:Oz*hI1%hM=1:=by decide +kernel
theorem YcM:wQ*ER%hM=1:=by decide +kernel
theorem Zbn  (hi:p*i%hM=1)(h:x*p%hM=y*p%hM):x%hM=y%hM:=by
 have e:∀ z,(z*p%hM)*i%hM=z%hM:=λz=>by
  rw[uw (z*p%hM),Nat.mod_mod,<- uw,Nat.mul_assoc,uw,hi];simp
 rw[<- e x,<- e y,h]
theorem Nk  (hx:x<hM):(x*2147483648)%hM+x/8589934592=(x%8589934592)*2147483648+x/8589934592:=by
 have e:x*2147483648=(x%8589934592)*2147483648+hM*(x/8589934592):=by unfold hM;lia
 rw[e,Nat.add_mul_mod_self_left,Vq];unfold hM;lia
theorem QbX  (hx:x<hM)(hy:y<hM)(h:vS x=vS y):x=y:=by
 have:=Zbn ZcG h;rw[Nk hx,Nk hy] at this;have q1:x/8589934592<2147483648:=by unfold hM at hx;lia
 have q2:y/8589934592<2147483648:=by unfold hM at hy;lia
 have r1:x%8589934592<8589934592:=ul _ (by lia);have r2:y%8589934592<8589934592:=ul _ (by lia);have x1:=Uy x 8589934592;have y1:=Uy y 8589934592;generalize x/8589934592=q at *;generalize y/8589934592=q' at *;generalize x%8589934592=r at *;generalize y%8589934592=r' at *;rw[Vq (by unfold hM;lia),Vq (by unfold hM;lia)] at this;omega
noncomputable def C6(a:Nat):Nat:=vS ((EO+a*wQ)%hM)
noncomputable def mS(a b:Nat):Nat:=vS ((C6 a+b*wQ)%hM)
noncomputable def nQ(z:Nat):Nat:=(z+(2 ^^^ (EO ^^^ 3527539)))%hM
noncomputable def uO:Nat:=64
theorem ZaS:∀ a<uO,gF (a:Int)=(a:Int):=by decide +kernel
noncomputable def vR(m p1 p2 p5 q u v:Nat)(hashes:List Int):Int :=
 let acc:=hashes.foldl (init:=p5) λacc h =>
  let acc:=(acc+(h%(m:Int)).toNat*p2)%m
  let acc:=(acc*u)%m+acc/v
  (acc*p1)%m
 let acc:=(acc+(hashes.length ^^^ q))%m
 if acc==m-1 then 1546275796 else if acc<2^63 then acc else(acc:Int)-m
noncomputable def FL(m p1 u v x:Nat):Nat:=((x*u)%m+x/v)*p1%m
noncomputable def De(m p1 p2 p5 u v a b:Nat):Nat:=FL m p1 u v ((FL m p1 u v ((p5+(a%m)*p2)%m)+(b%m)*p2)%m)
theorem FH(hs):Hk hs=vR (2^64) 11400714785074694791 14029467366897019727 2870177450012600261 (2870177450012600261 ^^^ 3527539) (2^31) (2^33) hs:=rfl
theorem Ycv(m p1 p2 p5 q u v a b:Nat):vR m p1 p2 p5 q u v [(a:Int),(b:Int)]=if(De m p1 p2 p5 u v a b+(2 ^^^ q))%m=m-1 then 1546275796 else if(De m p1 p2 p5 u v a b+(2 ^^^ q))%m<2^63 then(((De m p1 p2 p5 u v a b+(2 ^^^ q))%m:Nat):Int) else(((De m p1 p2 p5 u v a b+(2 ^^^ q))%m:Nat):Int)-(m:Int):=by
 have e:∀ x:Nat,((x:Int)%(m:Int)).toNat=x%m:=λx=>by
  rw[<- Int.natCast_emod,Xn]
 simp only[vR,De,FL,Uk,jn,beq_iff_eq,Vc,ui,e,Xt,Nat.reduceAdd];rfl
theorem Pu:(2^64:Nat)=hM:=by decide +kernel
theorem A0:(2^31:Nat)=2147483648:=by decide +kernel
theorem AZ:(2^33:Nat)=8589934592:=by decide +kernel
theorem AY:(2^63:Nat)=9223372036854775808:=by decide +kernel
noncomputable def wX(a b:Nat):Nat:=nQ (vS ((vS ((EO+(a%hM)*wQ)%hM)+(b%hM)*wQ)%hM))
theorem ZbV(a b:Nat):Hk [(a:Int),(b:Int)]=if wX a b=hM-1 then 1546275796 else if wX a b<9223372036854775808 then(wX a b:Int) else(wX a b:Int)-(hM:Int):=by
 have h:=Ycv (2^64) 11400714785074694791 14029467366897019727 2870177450012600261 (2870177450012600261 ^^^ 3527539) (2^31) (2^33) a b;rw[<- FH,Pu,A0,AZ,AY] at h;exact h
end L3
end
section
namespace L3
open PySem PySem.Spec PyProof.Rows L2 M3
theorem PX{α:Type}(f:α->Int):∀(l:List α)(c:Int),(l.map f).Nodup->(l.filter λx=>f x==c).length<=1
 |[],_,_=>by simp
 |x::l,c,h=>by
  rw[Va,Vh] at h;have ih:=PX f l c h.2;by_cases e:f x=c
  ·have z:(l.filter λx=>f x==c)=[]:=by
    rw[List.filter_eq_nil_iff];intro y hy q;exact h.1 (Wd.mpr ⟨y,hy,by rw[e];simpa using q⟩)
   simp[Xx,e,z]
  ·simp[Xx,e];exact ih
section
variable {prog:ak} {w:World} {A:Around} {E:Value->ag->Prop} {s:ag} {K:Type} [DecidableEq K] {knd:KeyKind prog w K}
theorem zbk   (hT:s.TypeIs (.ref a) "tuple")(h:Q false s):ah (aj prog w) A (Jr (.ref a)) Q E s:=by
 unfold Jr;refine aa (cO hT PySem.F.slot_tuple_eq.lookup ?_);exact af h
theorem zcL{id:String}{d:ae}{o:Obj}{es:Array fc}{ep:Nat}{xs:List (List K×ae×Value)}{Q:Array fc->ag->Prop}(ho:s.heap.get? d=some o)(hd:o.data=.dict es ep)
  (he:es.toList=xs.map (en (aq knd))) (his:∀ x∈xs,(aq knd).is s.heap x.1 x.2.1) (hn:(xs.map λx=>(aq knd).hash x.1).Nodup) (h:Q es s) :
  ah (aj prog w) A (kr id d) Q E s:=by
 unfold kr;refine aa (a6 ho hd (aa ?_));rw[<- ur];have uJ:∀ c:Int,¬(es.filter λe=>e.hash==c).size>1:=λc q=>by
  have h1:(es.filter λe=>e.hash==c).size=(es.toList.filter λe=>e.hash==c).length:=by rw[<- Array.toList_filter,uk]
  have h2:=PX (λe:fc=>e.hash) es.toList c (by rw[he,Ue];exact hn)
  lia
 refine iD _ (λrest _ s'=>s'=s/\∀ e∈rest,∃ x∈xs,e=en (aq knd) x) _ ?_ ?_ _ _ ⟨rfl,λe hm=>?_⟩
 ·rintro e rest b s' ⟨rfl,hr⟩;obtain⟨x,hx,rfl⟩:=hr e (Ug);obtain⟨ok,ik,nk,k1,k2,k3⟩:=his x hx;refine aa (zbk ⟨ok,k1,k2⟩ ?_);rw[if_pos (by rfl)];rw[if_neg (uJ _)];exact af ⟨rfl,λe he=>hr e (Vd _ he)⟩
 ·rintro b s' ⟨rfl,_⟩;exact af h
 ·rw[he] at hm;obtain⟨x,hx,rfl⟩:=Wd.mp hm;exact⟨x,hx,rfl⟩
theorem Zb0{nm:String}{d o:ae}{xs more:List (List K×ae×Value)}{Q:Unit->ag->Prop}(Cg:d≠o)(IB:(o==bO)=false)
  (hd:s.heap.DictOfH (aq knd) d xs) (ho:s.heap.DictOfH (aq knd) o more) (hz:more.length<=sizeLine) (hn:(more.map λx=>(aq knd).hash x.1).Nodup) (hx:xs=[]\/more=[])
  (hQ:∀ h',h'.DictOfH (aq knd) d (if more=[] then xs else more)->je d s.heap h'->Q () {s with heap:=h'}) :
  ah (aj prog w) A (Jq nm d o) Q E s:=by
 obtain⟨od,EV,JP,d1,d2,d3,d4,d5,d6⟩:=id hd;obtain⟨oo,lu,epo,o1,o2,o3,o4,o5,o6⟩:=id ho;have hlen:lu.size=more.length:=by rw[<- uk,o4,wc]
 unfold Jq;rw[if_neg (by simpa using Cg)];unfold jr;rw[if_neg (by rw[IB];exact Xd)];refine aa (af ?_);refine aa (a6 o1 o3 ?_);by_cases hm:more=[]
 ·subst hm;obtain rfl:lu=#[]:=by
   apply vy;rw[hlen];rfl
  rw[if_neg (by simp)];refine aa (fH o1 o3 ?_);refine aa (a6 o1 o3 ?_);have hq:=hQ s.heap (by rw[if_pos rfl];exact hd) (gp _ _);refine aa ?_;rw[Gr];simp only[Js,Xa,ui,Vy,WG,Nat.div_one,List.range'_zero,Xq];exact af (af hq)
 ·obtain rfl:xs=[]:=hx.resolve_right hm;have he:EV=#[]:=by
   apply vy;rw[<- uk,d4];rfl
  subst he;have oa:(decide (lu.size<=8)&&lu.all λe=>(keyPart e.key).isSome)=false:=by
   rw[WE]
   right
   rw[<- WI,o4];cases more with
   |nil=>exact absurd rfl hm
   |cons x r=>rfl
  simp only[oa];rw[if_pos (by rfl)];refine aa (a6 d1 d3 ?_);rw[if_pos (by rfl)];refine aa (zcL o1 o3 o4 o5 hn ?_);have iR:lu.isEmpty=false:=by
   rw[XB];intro z;rw[z] at hlen;exact hm (Ww.mp (by simpa using hlen.symm))
  rw[if_pos (by rw[iR];rfl)];refine aa (wpAny_updateDictKeysTo d1 d3 (af (hQ _ ?_ (Jp ..))) (by lia));rw[if_neg hm];refine⟨_,_,JP+1,xg _ d1 (Jm (jm d3 _)),d2.mapDictKeys _,jm d3 _,o4,λx hx=>?_,o6⟩;exact(aq knd).keeps (o5 x hx) d1 d3 (Jp ..)
end
theorem qbW:typeOf (.builtin "dict.update")=pure (.type "method_descriptor"):=by
 show builtinType _=_;rw[builtinType_eq_fast]
 kernel_rfl
theorem N2:lU table "dict.update"=some Builtin.«dict.update»:=entryFor_of_tree (by kernel_rfl)
theorem L7(u v):argsOk "dict.update" ⟨[u,v],[]⟩:=by
 unfold argsOk;rw[signature?_of (id:="dict.update") (n:="etadpu".toList) (o:="tcid".toList) (by kernel_rfl) PySem.F.owner_dict]
 kernel_rfl
section
variable {X:Cx} {pins:List (ae×Obj)} {σ:L2.St} {H:Hp} {s:ag} {a b:ae} {A:Around} {E:Value->ag->Prop}
theorem Ycl   (I:Inv X pins σ H s)(ea:H a=some (.dT kvs))(eb:Rd H b (.dT more))(iR:a≠b)(hx:kvs=[]\/more=[])
  (hn:(more.map λx=>(aq (zg X.prog X.w)).hash x.1).Nodup) (h:∀ s',Inv X pins σ (upd H a (.dT (if more=[] then kvs else more))) s'->Q .none s') :
  ah (aj X.prog X.w) A (call (.builtin "dict.update") [.ref a,.ref b]) Q E s:=by
 obtain⟨za,ha,xs,ra,da⟩:=LG I.aS ea;obtain⟨zb,hb,ys,rb,db⟩:=xO I.aS eb;have hl:=yP rb;have hk:∀(l:List (List Key×V)) (m:List (List Key×ae×Value)),KT H l m->(m.map λx=>(aq (zg X.prog X.w)).hash x.1)=l.map λx=>(aq (zg X.prog X.w)).hash x.1:=by
  intro l m r
  induction r with
  |nil=>rfl
  |cons h t ih=>rw[Va,Va,ih,h.1]
 have e1:xs=[]\/ys=[]:=by
  rcases hx with rfl|rfl
  ·left;cases ra;rfl
  ·right;cases rb;rfl
 refine aL jh da.typeIs N2 ?_ (L7 _ _);unfold Builtin.«dict.update»;refine aa ?_;unfold Hq;refine aa (dj da.typeIs ?_);show ah _ _ (pure (a,[Ka b])) _ _ s;refine af ?_;show ah _ _ (jq "dict.update" a (.ref b) [] .none) _ _ s;unfold jq;refine aa (bN db.typeIs ?_);rw[if_neg (by decide)];refine aa ?_;unfold Hr;refine aa ?_;unfold Kr;refine aa (cz db.typeIs gI ?_);simp only[Bool.not_true,uj,if_false];refine aa (cO db.typeIs Ji.lookup (af ?_));simp only[beq_self_eq_true,if_true];refine aa (af ?_);refine Zb0 (knd:=zg X.prog X.w) iR hb da db (by rw[<- hl];exact zb) (by rw[hk _ _ rb];exact hn) e1 λh' dd hs=>?_;show ah _ _ (Gq a [] >>= _) _ _ _;refine aa (af (af ⟨_,rfl,h _ ?_⟩));obtain⟨q,es,ep,hq,h2,h3,h4,_,h5⟩:=dd;have kt:KT H (if more=[] then kvs else more) (if ys=[] then xs else ys):=by
  by_cases z:more=[]
  ·have z2:ys=[]:=by subst z;cases rb;rfl
   rw[if_pos z,if_pos z2];exact ra
  ·have z2:ys≠[]:=λz3=>z (by subst z3;cases rb;rfl);rw[if_neg z,if_neg z2];exact rb
 refine PQ (t':=s.toks) I (by rw[ea];exact Kg) hs ⟨q,hq⟩ ⟨by split <;> assumption,ha,_,kt.keeps λc ys ec=>?_,q,es,ep,hq,h2,h3,h4,h5⟩;rw[Qc (OS ec ea (λz=>nomatch z))];exact ec
end
end L3
end
section
namespace L3
open PySem PySem.Spec PyProof.Rows L2 M3
noncomputable def kN(n:Nat):Nat:=(n+(hM-2))%hM
noncomputable def kG(n:Nat):Nat:=C6 (kN n)*ER%hM
noncomputable def yT:Nat:=66
theorem OY:∀ a<yT,∀ c<yT,a≠c->yT<=(kG a+(hM-kG c))%hM:=by decide +kernel
theorem K3:∀ a<yT,∀ b<yT,nQ (mS (kN a) (kN b))≠hM-1:=by decide +kernel
theorem Zcj  (ha:a<yT)(hb:b<yT)(hc:c<yT)(hd:d<yT)(h:mS (kN a) (kN b)=mS (kN c) (kN d)):a=c/\b=d:=by
 have hm:0<hM:=by decide
 have h1:=QbX (ul _ hm) (ul _ hm) h;have h2:(kG a+kN b)%hM=(kG c+kN d)%hM:=by
  have e:∀ u v,((C6 u+v*wQ)%hM*ER)%hM=(C6 u*ER%hM+v)%hM:=λu v=>by
   rw[uw,Nat.mod_mod,<- uw,Ws,Nat.add_mod,Nat.mul_assoc,uw v,YcM];simp[Nat.add_mod]
  unfold kG;rw[<- e,<- e,h1]
 by_cases EM:a=c
 ·refine⟨EM,?_⟩;rw[EM] at h2;have:kG c<hM:=ul _ hm;unfold kN at h2;unfold hM yT at *
  lia
 ·exfalso;have q1:=OY a ha c hc EM;have q2:=OY c hc a ha (Ke EM);have l1:kG a<hM:=ul _ hm;have l2:kG c<hM:=ul _ hm;generalize kG a=x at *;generalize kG c=y at *;unfold kN at h2;unfold hM yT at *
  lia
theorem zcq(m p1 p2 p5 q u v:Nat)(x y x' y':Int)(hx:x%(m:Int)=x'%(m:Int))(hy:y%(m:Int)=y'%(m:Int)):vR m p1 p2 p5 q u v [x,y]=vR m p1 p2 p5 q u v [x',y']:=by
 simp only[vR,Uk,jn,hx,hy];rfl
noncomputable def zN(z:Int):Nat:=if z=-1 then 0 else z.toNat+2
theorem Fd  (h0:-1<=z)(h1:z<64):gF z%((2^64:Nat):Int)=(kN (zN z):Int)%((2^64:Nat):Int)/\zN z<yT:=by
 by_cases e:z=-1
 ·subst e;decide +kernel
 ·obtain⟨a,rfl⟩:=Vn (show 0<=z by lia);have la:a<uO:=by unfold uO;lia
  rw[ZaS a la,Pu];unfold zN;rw[if_neg e];unfold kN hM yT;constructor
  ·simp;lia
  ·simp;lia
theorem Pk  (hx:-1<=x)(hy:-1<=y)(h:zN x=zN y):x=y:=by
 unfold zN at h;split at h <;> split at h <;> lia
theorem LB  (ha:a<yT)(hb:b<yT):Hk [(kN a:Int),(kN b:Int)]=if nQ (mS (kN a) (kN b))<9223372036854775808 then(nQ (mS (kN a) (kN b)):Int) else(nQ (mS (kN a) (kN b)):Int)-(hM:Int):=by
 have la:kN a<hM:=ul _ (by decide);have lb:kN b<hM:=ul _ (by decide);rw[ZbV];have e:wX (kN a) (kN b)=nQ (mS (kN a) (kN b)):=by
  unfold wX mS C6;rw[Vq la,Vq lb]
 rw[e,if_neg (K3 a ha b hb)]
theorem zbY  (ha:a<yT)(hb:b<yT)(hc:c<yT)(hd:d<yT)(h:dY (Hk [(kN a:Int),(kN b:Int)])=dY (Hk [(kN c:Int),(kN d:Int)])):a=c/\b=d:=by
 have n1:=K3 a ha b hb;have n2:=K3 c hc d hd;have l1:nQ (mS (kN a) (kN b))<hM:=ul _ (by decide);have l2:nQ (mS (kN c) (kN d))<hM:=ul _ (by decide);have r:∀ z:Nat,z<hM->z≠hM-1->dY (if z<9223372036854775808 then(z:Int) else(z:Int)-(hM:Int))=if z<9223372036854775808 then(z:Int) else(z:Int)-(hM:Int):=λz l n=>by
  unfold hM at *;unfold dY;split
  ·rw[if_pos (by simp;lia),if_neg (by simp)]
  ·rw[if_pos (by simp;lia),if_neg (by simp;lia)]
 rw[LB ha hb,LB hc hd,r _ l1 n1,r _ l2 n2] at h;have e:nQ (mS (kN a) (kN b))=nQ (mS (kN c) (kN d)):=by
  unfold hM at *;split at h <;> split at h <;> lia
 refine Zcj ha hb hc hd ?_;have s1:mS (kN a) (kN b)<hM:=ul _ (by decide);have s2:mS (kN c) (kN d)<hM:=ul _ (by decide);unfold nQ at e;generalize (2 ^^^ (EO ^^^ 3527539))=k at e;unfold hM at *
 lia
def DP(k:Int×Int):Prop:=(-1<=k.1/\k.1<64)/\-1<=k.2/\k.2<64
theorem zci    (h1:DP k)(h2:DP k')(h:(aq (zg P w)).hash [(gb k.1:Key),gb k.2]=(aq (zg P w)).hash [(gb k'.1:Key),gb k'.2]):k=k':=by
 obtain⟨a,b⟩:=k;obtain⟨c,d⟩:=k';obtain⟨⟨a0,a1⟩,b0,b1⟩:=h1;obtain⟨⟨c0,c1⟩,d0,d1⟩:=h2;simp only at a0 a1 b0 b1 c0 c1 d0 d1;have h:dY (Hk [gF a,gF b])=dY (Hk [gF c,gF d]):=h;obtain⟨ea,la⟩:=Fd a0 a1;obtain⟨eb,lb⟩:=Fd b0 b1;obtain⟨ec,lc⟩:=Fd c0 c1;obtain⟨ed,ld⟩:=Fd d0 d1;have r:∀(x y:Int)(m n:Nat),x%((2^64:Nat):Int)=(kN m:Int)%((2^64:Nat):Int)->y%((2^64:Nat):Int)=(kN n:Int)%((2^64:Nat):Int)->Hk [x,y]=Hk [(kN m:Int),(kN n:Int)]:=λx y m n e1 e2=>by
  rw[FH,FH];exact zcq _ _ _ _ _ _ _ _ _ _ _ e1 e2
 rw[r _ _ _ _ ea eb,r _ _ _ _ ec ed] at h;obtain⟨e1,e2⟩:=zbY la lb lc ld h;rw[Pk a0 c0 e1,Pk b0 d0 e2]
section
variable {prog:ak} {w:World} {A:Around} {E:Value->ag->Prop} {s:ag} {K:Type} [DecidableEq K] {knd:HeapKind prog w K}
theorem Qbv      (ru:knd.room A)(ik:knd.is s.heap k b)(dd:s.heap.DictOfH knd D ys)(lz:ys.length<=sizeLine)
  (go:∀ h',h'.DictOfH knd D (cA ys k b v)->je D s.heap h'->Q () {s with heap:=h'}):ah (aj prog w) A (kE D (.ref b) (knd.hash k) v) Q E s:=by
 obtain⟨o,es,ep,o1,o2,o3,o4,o5,o6⟩:=dd;have sz:=size_of_entries o4;unfold kE;refine av (aa (wpAny_dictFind_heap ru ik o1 o3 o4 o5 o6 (λno=>?_) λj p hj=>?_))
 ·have e:=storedH_new (a:=b) (v:=v) (atKey_none_of_get no);refine aa (bH (wpAny_updateDictKeys (hz:=by lia) o1 o3 (go _ ?_ (Jp ..))));rw[e];refine⟨_,_,ep+1,xg _ o1 (Jm (jm o3 _)),o2.mapDictKeys _,jm o3 _,by simp[o4,en],λy hy=>?_,?_⟩
  ·rcases vf.mp hy with hy|hy
   ·exact knd.keeps (o5 y hy) o1 o3 (Jp ..)
   ·obtain rfl:=vc.mp hy;exact knd.keeps ik o1 o3 (Jp ..)
  ·rw[ud,Wl];refine⟨o6,by simp,λx hx y hy z=>?_⟩;have:y=k:=by simpa using hy
   exact not_mem_keys_of_get no (by rw[<- this,<- z];exact hx)
 ·have e:=storedH_old (a:=b) (v:=v) (atKey_of_get o6 hj);refine aa (bH (aa (wpAny_updateDict o1 o3 (wpAny_point (go _ ?_ (Jp ..))))));rw[e];refine⟨_,_,ep,xg _ o1 (Jm (Hm o3 _)),o2.mapDict _,Hm o3 _,?_,λy hy=>?_,by rw[keys_map_putAt];exact o6⟩
  ·have m:=modify_map_putAt (en knd) (λe:fc=>{e with val:=v}) k v (λ_ _=>rfl) o6 hj;rw[<- o4] at m;obtain⟨l⟩:=es;simpa using m
  ·obtain⟨z,hz,rfl⟩:=Wd.mp hy;unfold putAt;split <;> exact knd.keeps (o5 z hz) o1 o3 (Jp ..)
end
section
variable {prog:ak} {w:World} {A:Around} {E:Value->ag->Prop} {s:ag} {K:Type} [DecidableEq K] {knd:KeyKind prog w K}
noncomputable def rR(ps xs:List (List K×ae×Value)):List (List K×ae×Value):=ps.foldl (λacc p=>cA acc p.1 p.2.1 p.2.2) xs
theorem Rf:∀(ps xs:List (List K×ae×Value)),(rR ps xs).length<=xs.length+ps.length
 |[],xs=>by simp[rR]
 |p::ps,xs=>by
  have h1:=Rf ps (cA xs p.1 p.2.1 p.2.2);have h2:=PU xs p.1 p.2.1 p.2.2;show(rR ps (cA xs p.1 p.2.1 p.2.2)).length<=_;simp only[Vc];lia
theorem ybA(ps xs:List (List K×ae×Value))(i)(p:List K×ae×Value)(h:ps[i]?=some p):rR (ps.take (i+1)) xs=cA (rR (ps.take i) xs) p.1 p.2.1 p.2.2:=by
 unfold rR;rw[Vj,h];simp
theorem ycv    (dd:h.DictOfH (aq knd) D ys)(x:h.DictOfH (aq knd) O zs)(iR:D≠O)(sb:je D h h'):h'.DictOfH (aq knd) O zs:=by
 obtain⟨od,EV,JP,d1,_,d3,_⟩:=dd;obtain⟨o,es,ep,e1,e2,e3,e4,e5,e6⟩:=x;exact⟨o,es,ep,(sb.2 O (Ke iR)).trans e1,e2,e3,e4,λy hy=>(aq knd).keeps (e5 y hy) d1 d3 sb,e6⟩
theorem ZbC     (Cg:d≠o)(IB:(o==bO)=false)(ru:(aq knd).room A)
  (hd:s.heap.DictOfH (aq knd) d xs) (ho:s.heap.DictOfH (aq knd) o more) (hz:xs.length+more.length<=sizeLine) (hx:xs≠[]) (hm:more≠[])
  (hQ:∀ h',h'.DictOfH (aq knd) d (rR more xs)->je d s.heap h'->Q () {s with heap:=h'}) :
  ah (aj prog w) A (Jq nm d o) Q E s:=by
 obtain⟨od,EV,JP,d1,d2,d3,d4,d5,d6⟩:=id hd;obtain⟨oo,lu,epo,o1,o2,o3,o4,o5,o6⟩:=id ho;have hlen:lu.size=more.length:=by rw[<- uk,o4,wc]
 unfold Jq;rw[if_neg (by simpa using Cg)];unfold jr;rw[if_neg (by rw[IB];exact Xd)];refine aa (af ?_);refine aa (a6 o1 o3 ?_);have oa:(decide (lu.size<=8)&&lu.all λe=>(keyPart e.key).isSome)=false:=by
  rw[WE]
  right
  rw[<- WI,o4];cases more with
  |nil=>exact absurd rfl hm
  |cons x r=>rfl
 simp only[oa];rw[if_pos (by rfl)];refine aa (a6 d1 d3 ?_);have iR:EV.isEmpty=false:=by
  rw[XB];intro z;rw[z] at d4;exact hx (Uu.mp d4.symm)
 rw[if_neg (by rw[iR];exact Xd)];refine aa (fH o1 o3 (aa (a6 o1 o3 (aa ?_))));rw[Gr];simp only[Js,Vy,WG,Nat.div_one];refine iD _ (λrest _ s'=>∃ h' i,s'={s with heap:=h'}/\rest=List.range' i (lu.size-i)/\i<=lu.size/\h'.DictOfH (aq knd) d (rR (more.take i) xs)/\h'.DictOfH (aq knd) o more/\h'.get? o=some oo/\je d s.heap h') _ ?_ ?_ _ _
  ⟨s.heap,0,rfl,by simp,xl _,hd,ho,o1,gp _ _⟩
 ·rintro x rest b s' ⟨h',i,rfl,hr,hi,n6,mn,tU,tQ⟩;by_cases lP:i<lu.size
  ·rw[show lu.size-i=(lu.size-(i+1))+1 by lia,xI] at hr;obtain⟨rfl,B5⟩:=gm.inj hr;have IM:x<more.length:=by lia
   have hex:lu[x]?=some (en (aq knd) more[x]):=by
    rw[<- Xj,o4,Xc,xc IM];rfl
   refine aa (a6 tU o3 ?_);rw[hex];have ik:(aq knd).is h' more[x].1 more[x].2.1:=by
    obtain⟨_,_,_,_,_,_,_,k5,_⟩:=mn;exact k5 _ (Uj IM)
   refine aa (av (Qbv (s:={s with heap:=h'}) ru ik n6 ?_ λpR t9 sb=>?_))
   ·have:=Rf (more.take x) xs;rw[Ul] at this
    lia
   ·have sd:pR.get? o=some oo:=(sb.2 o (Ke Cg)).trans tU;refine aa (fH sd o3 ?_);rw[if_neg (by simp)];exact af ⟨pR,x+1,rfl,B5,lP,by rw[ybA more xs x more[x] (xc IM)];exact t9,ycv n6 mn Cg sb,sd,tQ.trans sb⟩
  ·rw[Nat.sub_eq_zero_of_le (by lia)] at hr;cases hr
 ·rintro b s' ⟨h',i,rfl,hr,hi,n6,mn,tU,tQ⟩;have jE:more.length<=i:=by
   by_cases lP:i<lu.size
   ·rw[show lu.size-i=(lu.size-(i+1))+1 by lia,xI] at hr;cases hr
   ·lia
  rw[Uw jE] at n6;exact af (hQ h' n6 tQ)
end
noncomputable def KO:Nat:=4194304
theorem Nu  (h:n<=KO):n<=sizeLine:=xf h (by decide)
section
variable {X:Cx} {pins:List (ae×Obj)} {σ:L2.St} {H:Hp} {s:ag} {a b:ae} {E:Value->ag->Prop}
theorem qbX   (I:Inv X pins σ H s)(ru:X.A.units+3<dn)(ea:H a=some (.dT kvs))(eb:Rd H b (.dT more))(iR:a≠b)(hx:kvs≠[])(hm:more≠[])(hz:kvs.length+more.length<=KO)
  (h:∀ s',Inv X pins σ (upd H a (.dT (qu more kvs))) s'->Q .none s') :
  ah (aj X.prog X.w) X.A (call (.builtin "dict.update") [.ref a,.ref b]) Q E s:=by
 obtain⟨za,ha,xs,ra,da⟩:=LG I.aS ea;obtain⟨zb,hb,ys,rb,db⟩:=xO I.aS eb;have hl:=yP rb;have tY:=yP ra;have e1:xs≠[]:=λz=>hx (Ww.mp (by rw[tY,z];rfl));have e2:ys≠[]:=λz=>hm (Ww.mp (by rw[hl,z];rfl));refine aL jh da.typeIs N2 ?_ (L7 _ _);unfold Builtin.«dict.update»;refine aa ?_;unfold Hq;refine aa (dj da.typeIs ?_);show ah _ _ (pure (a,[Ka b])) _ _ s;refine af ?_;show ah _ _ (jq "dict.update" a (.ref b) [] .none) _ _ s;unfold jq;refine aa (bN db.typeIs ?_);rw[if_neg (by decide)];refine aa ?_;unfold Hr;refine aa ?_;unfold Kr;refine aa (cz db.typeIs gI ?_);simp only[Bool.not_true,uj,if_false];refine aa (cO db.typeIs Ji.lookup (af ?_));simp only[beq_self_eq_true,if_true];refine aa (af ?_);refine ZbC (knd:=zg X.prog X.w) iR hb (by first|exact dX (by lia)|skip) da db (by rw[<- hl,<- tY];exact Nu hz) e1 e2 λh' dd hs=>?_;show ah _ _ (Gq a [] >>= _) _ _ _;refine aa (af (af ⟨_,rfl,h _ ?_⟩));obtain⟨q,es,ep,hq,h2,h3,h4,_,h5⟩:=dd;have kt:=Nm rb ra;have lk:=yV more kvs;refine PQ (t':=s.toks) I (by rw[ea];exact Kg) hs ⟨q,hq⟩ ⟨xf lk (Nu hz),ha,_,kt.keeps λc ys ec=>?_,q,es,ep,hq,h2,h3,h4,h5⟩;rw[Qc (OS ec ea (λz=>nomatch z))];exact ec
end
noncomputable def qcZ (X:Cx) (td ty:TE):TE:=fun σ H Q=>td σ H fun x H1=>∃ a,x=.ref a∧R3 H1 a∧ty σ H1 fun y H2=>∃ b kvs more,y=.ref b∧H2 a=some (.dT kvs)∧Rd H2 b (.dT more)∧a≠b ∧
  ((kvs=[]∨more=[])∧(more.map fun x=>(aq (zg X.prog X.w)).hash x.1).Nodup∧Q .bh (upd H2 a (.dT (if more=[] then kvs else more))) ∨
   kvs≠[]∧more≠[]∧kvs.length + more.length≤KO∧Q .bh (upd H2 a (.dT (qu more kvs))))
theorem Qcq     (ru:X.A.units+3<dn)(ho:PE X o td)(he:PE X e ty)(m:M1 X o "update" apos e eU):PE X (.Call (.Attribute o "update" apos) [e] [] eU) (qcZ X td ty):=by
 intro pins s σ H Q I h;refine wpAny_Call_method m.base m.few m.line PySem.F.plainAttrs_dict jh qbW (bw (ho pins s σ H _ I h) λu s1 ⟨x,H1,I1,rx,a,ex,d,q1⟩=>?_);subst ex;obtain rfl:u=Ka a:=rx;obtain⟨t1,t2,_⟩:=zc0 I1 d;refine⟨t1,t2,?_⟩;rw[m.trees];refine He rfl (Ge (kf (bw (he pins s1 σ H1 _ I1 q1) λiv s2 ⟨y,H2,I2,ry,b,kvs,more,ey,ea,eb,iR,q2⟩=>Kf ?_)));subst ey;obtain rfl:iv=Ka b:=ry
 rcases q2 with ⟨hx,hn,q2⟩|⟨hx,hm,hz,q2⟩
 ·exact Ycl I2 ea eb iR hx hn λs3 I3=>⟨.bh,_,I3,rfl,q2⟩
 ·exact qbX I2 ru ea eb iR hx hm hz λs3 I3=>⟨.bh,_,I3,rfl,q2⟩
end L3
end
section
namespace M3
open PySem
open Sem (wp)
abbrev qS(h:Heap)(z TI TO:ae)(p:ae)(fl:Bool):Prop :=
 h.get? z=some {cls:=.type "zip",dict:=none,data:=.fields #[a8 p,.bool fl,.bool false,.ref TI,.ref TO],slots:=#[]}
section
variable {prog:ak} {w:World} {A:Around} {E:Value->ag->Prop} {s:ag}
variable {z TI TO i1 i2 p:ae} {jL jK:List ae} {n1 n2 k:Nat} {P1 P2:Nat->Value->Prop} {S1 S2:Nat->Heap->Prop} {fl:Bool}
theorem YbV{Q:Value->ag->Prop}(Z:mT z TI TO i1 i2 jL jK)(D1:dq prog w A i1 jL n1 P1 S1)(D2:dq prog w A i2 jK n2 P2 S2)(hz:qS s.heap z TI TO p fl)(hp:∃ o,s.heap.get? p=some o)(hI:aG s.heap TI (.ref i1) (.ref i2))
  (s1:S1 k s.heap) (s2:S2 k s.heap) (k1:k<n1) (k2:k<n2)
  (hQ:∀ x y h' tk,P1 k x->P2 k y->qS h' z TI TO p true->S1 (k+1) h'->S2 (k+1) h'->aG h' s.heap.objs.size x y->h'.objs.size=s.heap.objs.size+1 ->
   (∀ c o,c≠z->c≠i1->c≠i2->s.heap.get? c=some o->h'.get? c=some o)->Q (.ref s.heap.objs.size) {s with heap:=h',toks:=tk}) :
  ah (aj prog w) A (Builtin.«zip.__next__» ⟨[.ref z],[]⟩) (λfin s'=>∃ v,fin=.done (.ret v)/\Q v s') E s:=by
 have r6:i1≠z:=λe=>Z.z1 (e ▸ Z.m1);have tM:i2≠z:=λe=>Z.z2 (e ▸ Z.m2);have i12:i1≠i2:=λe=>Z.a1 (e ▸ Z.m2);show ah _ _ (field (.ref z) 2 >>= _) _ _ _;refine aa (au hz rfl (x:=.bool false) rfl ?_);show ah _ _ (field (.ref z) 3 >>= _) _ _ _;refine aa (au hz rfl (x:=.ref TI) rfl ?_);refine aa (aR hI rfl ?_);show ah _ _ (Kp (.ref z) >>= _) _ _ _;refine aa ?_;unfold Kp;refine aa (au hz rfl (x:=a8 p) rfl ?_);obtain⟨op,Iw⟩:=hp;show ah _ _ (loadIfAlive ((p:Int)).toNat >>= _) _ _ _;rw[Xn];refine aa (xH Iw ?_);rw[if_neg (by simp)];refine aa (au hz rfl (x:=.bool fl) rfl ?_);cases fl
 case true =>
  rw[if_neg (by decide)];refine af ?_;obtain⟨h1,wN⟩:∃ h1,h1=s.heap:=⟨_,rfl⟩;have y1:qS h1 z TI TO p true:=by rw[wN];exact hz
  have g1:je z s.heap h1:=by rw[wN];exact gp z s.heap
  have es:s={s with heap:=h1}:=by subst wN;rfl
  rw[if_neg (by decide),es];refine aa ?_;show ah _ _ (forIn #[Ka i1,Ka i2] _ _) _ _ _;rw[<- ur];simp only[Wp,Xq];refine aa (aa (av ?_));show ah _ _ (Go (.ref i1) >>= _) _ _ _;refine aa (D1.item k _ _ _ k1 (D1.frame _ _ _ s1 λc hc o e=>g1.extBut c o (λq=>Z.z1 (q ▸ hc)) e) λx h2 t2 px q2 g2=>af ?_);refine af ?_;dsimp only;refine aa (aa (av ?_));show ah _ _ (Go (.ref i2) >>= _) _ _ _;refine aa (D2.item k _ _ _ k2 (D2.frame _ _ _ s2 λc hc o e=>g2.extBut c o (λq=>Z.a1 (q ▸ hc)) (g1.extBut c o (λq=>Z.z2 (q ▸ hc)) e)) λy h4 t4 py q4 g4=>af ?_);refine af ?_;dsimp only;refine af ?_;dsimp only;show ah _ _ (jC [x,y] >>= _) _ _ _;refine aa (fS ?_);refine af ⟨_,rfl,?_⟩;have sz:h4.objs.size=s.heap.objs.size:=by rw[g4.1,g2.1,g1.1]
  have keep:∀ c o,c≠z->c≠i1->c≠i2->s.heap.get? c=some o->h4.get? c=some o:=λc o c1 c2 c3 e=>g4.extBut _ _ c3 (g2.extBut _ _ c2 (g1.extBut _ _ c1 e));show Q (.ref h4.objs.size) _;rw[sz];refine hQ x y _ t4 px py (wa _ (g4.extBut _ _ (Ke tM) (g2.extBut _ _ (Ke r6) y1))) (D1.frame _ _ _ q2 λc hc o e=>wa _ (g4.extBut c o (λq=>Z.a2 (q ▸ hc)) e)) (D2.frame _ _ _ q4 λc hc o e=>wa _ e) ?_ ?_ λc o c1 c2 c3 e=>wa _ (keep c o c1 c2 c3 e)
  ·show(h4.push _).get? s.heap.objs.size=_;rw[<- sz];exact xb _ rfl
  ·rw[Xg,sz]
 case false =>
  rw[if_pos (by decide)];refine aa (aT hz (by simp) λh1 y1 g1=>?_);replace y1:qS h1 z TI TO p true:=y1;refine af ?_;rw[if_neg (by decide)];refine aa ?_;show ah _ _ (forIn #[Ka i1,Ka i2] _ _) _ _ _;rw[<- ur];simp only[Wp,Xq];refine aa (aa (av ?_));show ah _ _ (Go (.ref i1) >>= _) _ _ _;refine aa (D1.item k _ _ _ k1 (D1.frame _ _ _ s1 λc hc o e=>g1.extBut c o (λq=>Z.z1 (q ▸ hc)) e) λx h2 t2 px q2 g2=>af ?_);refine af ?_;dsimp only;refine aa (aa (av ?_));show ah _ _ (Go (.ref i2) >>= _) _ _ _;refine aa (D2.item k _ _ _ k2 (D2.frame _ _ _ s2 λc hc o e=>g2.extBut c o (λq=>Z.a1 (q ▸ hc)) (g1.extBut c o (λq=>Z.z2 (q ▸ hc)) e)) λy h4 t4 py q4 g4=>af ?_);refine af ?_;dsimp only;refine af ?_;dsimp only;show ah _ _ (jC [x,y] >>= _) _ _ _;refine aa (fS ?_);refine af ⟨_,rfl,?_⟩;have sz:h4.objs.size=s.heap.objs.size:=by rw[g4.1,g2.1,g1.1]
  have keep:∀ c o,c≠z->c≠i1->c≠i2->s.heap.get? c=some o->h4.get? c=some o:=λc o c1 c2 c3 e=>g4.extBut _ _ c3 (g2.extBut _ _ c2 (g1.extBut _ _ c1 e));show Q (.ref h4.objs.size) _;rw[sz];refine hQ x y _ t4 px py (wa _ (g4.extBut _ _ (Ke tM) (g2.extBut _ _ (Ke r6) y1))) (D1.frame _ _ _ q2 λc hc o e=>wa _ (g4.extBut c o (λq=>Z.a2 (q ▸ hc)) e)) (D2.frame _ _ _ q4 λc hc o e=>wa _ e) ?_ ?_ λc o c1 c2 c3 e=>wa _ (keep c o c1 c2 c3 e)
  ·show(h4.push _).get? s.heap.objs.size=_;rw[<- sz];exact xb _ rfl
  ·rw[Xg,sz]
theorem qch  (Z:mT z TI TO i1 i2 jL jK)(D1:dq prog w A i1 jL n1 P1 S1)(D2:dq prog w A i2 jK n2 P2 S2)(hz:qS s.heap z TI TO p fl)(hp:∃ o,s.heap.get? p=some o)(hI:aG s.heap TI (.ref i1) (.ref i2))
  (s1:S1 k s.heap) (s2:S2 k s.heap) (hk:k=n1\/(k<n1/\k=n2))
  (hE:∀ h' e,(∀ c o,c≠z->c≠i1->c≠i2->s.heap.get? c=some o->h'.get? c=some o)->(∃ o,h'.get? e=some o/\o.cls=.type "StopIteration")->∀ tk,E (.ref e) {s with heap:=h',toks:=tk}) :
  ah (aj prog w) A (Builtin.«zip.__next__» ⟨[.ref z],[]⟩) Q E s:=by
 have r6:i1≠z:=λe=>Z.z1 (e ▸ Z.m1);have tM:i2≠z:=λe=>Z.z2 (e ▸ Z.m2);have i12:i1≠i2:=λe=>Z.a1 (e ▸ Z.m2);show ah _ _ (field (.ref z) 2 >>= _) _ _ _;refine aa (au hz rfl (x:=.bool false) rfl ?_);show ah _ _ (field (.ref z) 3 >>= _) _ _ _;refine aa (au hz rfl (x:=.ref TI) rfl ?_);refine aa (aR hI rfl ?_);show ah _ _ (Kp (.ref z) >>= _) _ _ _;refine aa ?_;unfold Kp;refine aa (au hz rfl (x:=a8 p) rfl ?_);obtain⟨op,Iw⟩:=hp;show ah _ _ (loadIfAlive ((p:Int)).toNat >>= _) _ _ _;rw[Xn];refine aa (xH Iw ?_);rw[if_neg (by simp)];refine aa (au hz rfl (x:=.bool fl) rfl ?_);cases fl
 case true =>
  rw[if_neg (by decide)];refine af ?_;obtain⟨h1,wN⟩:∃ h1,h1=s.heap:=⟨_,rfl⟩;have g1:je z s.heap h1:=by rw[wN];exact gp z s.heap
  have es:s={s with heap:=h1}:=by subst wN;rfl
  rw[if_neg (by decide),es];refine aa ?_;show ah _ _ (forIn #[Ka i1,Ka i2] _ _) _ _ _;rw[<- ur];simp only[Wp,Xq];refine aa (aa (av ?_));show ah _ _ (Go (.ref i1) >>= _) _ _ _;have f1:S1 k h1:=D1.frame _ _ _ s1 λc hc o e=>g1.extBut c o (λq=>Z.z1 (q ▸ hc)) e
  rcases hk with hk|⟨k1,hk⟩
  ·refine aa (D1.done _ _ _ (hk ▸ f1) λh2 e g2 he=>?_);exact hE h2 e (λc o c1 c2 c3 q=>g2 _ _ c2 (g1.extBut _ _ c1 q)) he _
  ·refine aa (D1.item k _ _ _ k1 f1 λx h2 t2 px q2 g2=>af ?_);refine af ?_;dsimp only;refine aa (aa (av ?_));show ah _ _ (Go (.ref i2) >>= _) _ _ _;have f2:S2 k h2:=D2.frame _ _ _ s2 λc hc o e=>g2.extBut c o (λq=>Z.a1 (q ▸ hc)) (g1.extBut c o (λq=>Z.z2 (q ▸ hc)) e);refine aa (D2.done _ _ _ (hk ▸ f2) λh4 e g4 he=>?_);exact hE h4 e (λc o c1 c2 c3 q=>g4 _ _ c3 (g2.extBut _ _ c2 (g1.extBut _ _ c1 q))) he _
 case false =>
  rw[if_pos (by decide)];refine aa (aT hz (by simp) λh1 y1 g1=>?_);refine af ?_;rw[if_neg (by decide)];refine aa ?_;show ah _ _ (forIn #[Ka i1,Ka i2] _ _) _ _ _;rw[<- ur];simp only[Wp,Xq];refine aa (aa (av ?_));show ah _ _ (Go (.ref i1) >>= _) _ _ _;have f1:S1 k h1:=D1.frame _ _ _ s1 λc hc o e=>g1.extBut c o (λq=>Z.z1 (q ▸ hc)) e
  rcases hk with hk|⟨k1,hk⟩
  ·refine aa (D1.done _ _ _ (hk ▸ f1) λh2 e g2 he=>?_);exact hE h2 e (λc o c1 c2 c3 q=>g2 _ _ c2 (g1.extBut _ _ c1 q)) he _
  ·refine aa (D1.item k _ _ _ k1 f1 λx h2 t2 px q2 g2=>af ?_);refine af ?_;dsimp only;refine aa (aa (av ?_));show ah _ _ (Go (.ref i2) >>= _) _ _ _;have f2:S2 k h2:=D2.frame _ _ _ s2 λc hc o e=>g2.extBut c o (λq=>Z.a1 (q ▸ hc)) (g1.extBut c o (λq=>Z.z2 (q ▸ hc)) e);refine aa (D2.done _ _ _ (hk ▸ f2) λh4 e g4 he=>?_);exact hE h4 e (λc o c1 c2 c3 q=>g4 _ _ c3 (g2.extBut _ _ c2 (g1.extBut _ _ c1 q))) he _
theorem Yar{Q:Option Value->ag->Prop}(Z:mT z TI TO i1 i2 jL jK)(D1:dq prog w A.in1 i1 jL n1 P1 S1)(D2:dq prog w A.in1 i2 jK n2 P2 S2)(hz:qS s.heap z TI TO p fl)(hp:∃ o,s.heap.get? p=some o)(hI:aG s.heap TI (.ref i1) (.ref i2))
  (s1:S1 k s.heap) (s2:S2 k s.heap) (k1:k<n1) (k2:k<n2)
  (hQ:∀ x y h' tk,P1 k x->P2 k y->qS h' z TI TO p true->S1 (k+1) h'->S2 (k+1) h'->aG h' s.heap.objs.size x y->h'.objs.size=s.heap.objs.size+1 ->
   (∀ c o,c≠z->c≠i1->c≠i2->s.heap.get? c=some o->h'.get? c=some o)->Q (some (.ref s.heap.objs.size)) {s with heap:=h',toks:=tk}) :
  ah (aj prog w) A (bU (.ref z)) Q E s:=by
 have ty:s.TypeIs (.ref z) "zip":=⟨_,hz,rfl⟩;unfold bU;refine aa (bT (aA (name:=jk "__next__") ty gg (aL gg ty Hh ?_ (Jh _))));exact YbV Z D1 D2 hz hp hI s1 s2 k1 k2 λx y h' tk p1 p2 e1 e3 e4 e5 e6 e7=>af (hQ x y h' tk p1 p2 e1 e3 e4 e5 e6 e7)
theorem qax  (Z:mT z TI TO i1 i2 jL jK)(D1:dq prog w A.in1 i1 jL n1 P1 S1)(D2:dq prog w A.in1 i2 jK n2 P2 S2)(hz:qS s.heap z TI TO p fl)(hp:∃ o,s.heap.get? p=some o)(hI:aG s.heap TI (.ref i1) (.ref i2))
  (s1:S1 k s.heap) (s2:S2 k s.heap) (hk:k=n1\/(k<n1/\k=n2))
  (hQ:∀ h' tk,(∀ c o,c≠z->c≠i1->c≠i2->s.heap.get? c=some o->h'.get? c=some o)->Q none {s with heap:=h',toks:=tk}) :
  ah (aj prog w) A (bU (.ref z)) Q E s:=by
 have ty:s.TypeIs (.ref z) "zip":=⟨_,hz,rfl⟩;unfold bU;refine aa (bT (aA (name:=jk "__next__") ty gg (aL gg ty Hh ?_ (Jh _))));refine qch Z D1 D2 hz hp hI s1 s2 hk λh' e kk ho tk=>?_;obtain⟨o,e1,e2⟩:=ho;exact aa (cz (T:="StopIteration") (b:=true) ⟨o,e1,e2⟩ gv (af (hQ h' tk kk)))
end
end M3
end
section
namespace L3
open PySem PySem.Spec PyProof.Rows L2 M3
def iy(h:Heap)(acc xs ys:Array Value)(a0 i:Nat):Prop:=acc.size=i/\∀ j,j<i->∃ T x y,acc[j]?=some (.ref T)/\a0<=T/\xs[j]?=some x/\ys[j]?=some y/\aG h T x y/\∀ k,k<j->acc[k]?≠some (.ref T)
def J7(h:Heap)(z TI TO a0 i:Nat):Prop:=(i=0/\de h z TI TO .none/\∃ a b,aG h TO a b)\/(0<i/\∃ p fl,qS h z TI TO p fl/\a0<=p/\∃ o,h.get? p=some o)
section
variable {prog:ak} {w:World} {A:Around} {R:hX->ag->Prop} {S z TI TO i1 i2 l1 l2 a0:ae} {b1 b2:Bool} {xs ys:Array Value} {h₀:Heap}
theorem zcn(hh:A.handled=none)(Z:mT z TI TO i1 i2 [i1,l1] [i2,l2])(n1:l1≠i1)(n2:l2≠i2)(n)(hn:n<=xs.size/\n<=ys.size/\(n=xs.size\/(n<xs.size/\n=ys.size)))(wK:n<=sizeLine)
  (hS:S≠z/\S≠TI/\S≠TO/\S≠i1/\S≠i2/\S≠l1/\S≠l2) (ha0:z<a0/\TI<a0/\TO<a0/\i1<a0/\i2<a0/\S<a0) (res) :
  ∀(m i:Nat)(s:ag)(acc:Array Value)(c:Nat),n-i=m->i<=n->a0<=s.heap.objs.size->J7 s.heap z TI TO a0 i->aG s.heap TI (.ref i1) (.ref i2) ->
   (cK s.heap b1 i1 l1 i/\bY s.heap b1 l1 xs)->(cK s.heap b2 i2 l2 i/\bY s.heap b2 l2 ys)->s.heap.get? S=some {cls:=.type "list",dict:=none,data:=.seq acc c,slots:=#[]}->iy s.heap acc xs ys a0 i ->
   (∀ b o,b≠S->b≠z->b≠TO->b≠i1->b≠i2->h₀.get? b=some o->s.heap.get? b=some o) ->
   (∀ h' tk fb c',h'.get? S=some {cls:=.type "list",dict:=none,data:=.seq fb c',slots:=#[]}->iy h' fb xs ys a0 n->(∀ b o,b≠S->b≠z->b≠TO->b≠i1->b≠i2->h₀.get? b=some o->h'.get? b=some o)->R (.ok (.ret res)) {s with heap:=h',toks:=tk}) ->
   bG (aj prog w) A (.builtin "list.extend.loop" ⟨[.ref S,.ref z,res],[]⟩) R s:=by
 obtain⟨sz,vV,sW,s1,s2,vU,pA⟩:=hS;obtain⟨z0,t0,o0,Ia,k20,S0⟩:=ha0;have D1:=qM (prog:=prog) (w:=w) (A:=A.in1.in1) (by simpa using hh) b1 i1 l1 n1 xs;have D2:=qM (prog:=prog) (w:=w) (A:=A.in1.in1) (by simpa using hh) b2 i2 l2 n2 ys;have ge:∀{T:ae},a0<=T->T≠z/\T≠TO/\T≠i1/\T≠i2/\T≠S:=λ{T} q=>⟨vh (vb z0 q),vh (vb o0 q),vh (vb Ia q),vh (vb k20 q),vh (vb S0 q)⟩;have Bz:∀{h h':Heap}{acc:Array Value}{i:Nat},iy h acc xs ys a0 i->(∀ b o,a0<=b->h.get? b=some o->h'.get? b=some o)->iy h' acc xs ys a0 i:=λ{h h' acc i} q kk=>⟨q.1,λj hj=>by
  obtain⟨T,x,y,e1,e2,e3,e4,e5,e6⟩:=q.2 j hj;exact⟨T,x,y,e1,e2,e3,e4,kk T _ e2 e5,e6⟩⟩
 intro m
 induction m with
 |zero =>
  intro i s acc c hm hi hsz hz hI B0 kR mq hK hk hR;have jE:i=n:=by lia
  subst jE;refine cR Jj ?_;rw[jg Kh _];show ah _ A.in1 (bU (.ref z) >>= _) _ _ s;refine aa ?_;have fin:∀ h' tk,(∀ c o,c≠z->c≠TO->c≠i1->c≠i2->s.heap.get? c=some o->h'.get? c=some o)->R (.ok (.ret res)) {s with heap:=h',toks:=tk}:=λh' tk kk =>
   hR h' tk acc c (kk S _ sz sW s1 s2 mq) (Bz hK λb o hb e=>kk b o (ge hb).1 (ge hb).2.1 (ge hb).2.2.1 (ge hb).2.2.2.1 e) λb o q1 q2 q3 q4 q5 e=>kk b o q2 q3 q4 q5 (hk b o q1 q2 q3 q4 q5 e)
  rcases hz with ⟨pP,e1,a,b,e2⟩|⟨pP,p,fl,e1,e2,e3⟩
  ·exact YX Z D1 D2 e1 hI e2 B0 kR hn.2.2 λh' tk kk=>af (fin h' tk kk)
  ·exact qax Z D1 D2 e1 e3 hI B0 kR hn.2.2 λh' tk kk=>af (fin h' tk λc o q1 q2 q3 q4 e=>kk c o q1 q3 q4 e)
 |succ m ih =>
  intro i s acc c hm hi hsz hz hI B0 kR mq hK hk hR;have lP:i<n:=by lia
  refine cR Jj ?_;rw[jg Kh _];show ah _ A.in1 (bU (.ref z) >>= _) _ _ s;refine aa ?_
  rcases hz with ⟨pP,e1,a,b,e2⟩|⟨pP,p,fl,e1,e2,e3⟩
  ·refine zU Z D1 D2 e1 hI e2 B0 kR (by lia) (by lia) λx y h' tk px py f1 f1' f3 f4 f5 f6 f7=>?_;have f2:aG h' TI (.ref i1) (.ref i2):=f7 TI _ Z.Ae Z.sM Z.DX Z.DW hI;have tK:∀ c o,c≠z->c≠TO->c≠i1->c≠i2->s.heap.get? c=some o->h'.get? c=some o:=f7;have Cm:=tK S _ sz sW s1 s2 mq;have gZ:=hK.1;show ah _ A.in1 (gD S (·.push (.ref s.heap.objs.size)) >>= _) _ _ _;refine aa ?_;have ot:∀ b o,b≠S->h'.get? b=some o->(h'.update S (Jl (·.push (.ref s.heap.objs.size)))).get? b=some o:=λb o hb e=>(wg _ _ (Ke hb)).trans e;refine cL Cm rfl (af ⟨dz Kh _,?_⟩) (by rw[gZ];lia) (by show(acc.push _).size<=sizeLine+1;rw[wz,gZ];lia);have gS:=ge hsz;refine ih (i+1) _ (acc.push (.ref s.heap.objs.size)) _ (by lia) lP ?_ (.inr ⟨by lia,_,false,ot _ _ (Ke sz) f1,hsz,_,ot _ _ gS.2.2.2.2 f5⟩) (ot _ _ (Ke vV) f2) ⟨f3.1.keeps λo e=>ot _ _ (Ke s1) e,f3.2.keeps λo e=>ot _ _ (Ke vU) e⟩ ⟨f4.1.keeps λo e=>ot _ _ (Ke s2) e,f4.2.keeps λo e=>ot _ _ (Ke pA) e⟩ (xg _ Cm rfl) ?_ (λb o q1 q2 q3 q4 q5 e=>ot b o q1 (tK b o q2 q3 q4 q5 (hk b o q1 q2 q3 q4 q5 e))) λh3 Gz uX c3 g1 g2 g3=>hR h3 Gz uX c3 g1 g2 g3
   ·show a0<=(h'.update _ _).objs.size;rw[Vt,f6];lia
   ·refine⟨by rw[wz,gZ],λj hj=>?_⟩;by_cases q:j<i
    ·obtain⟨T,x',y',u1,u2,u3,u4,u5,u6⟩:=hK.2 j q;obtain⟨v1,v2,v3,v4,v5⟩:=ge u2;exact⟨T,x',y',by rw[vD (by rw[gZ];exact q)];rw[<- u1];exact(xm _).symm,u2,u3,u4,ot _ _ v5 (tK T _ v1 v2 v3 v4 u5),λk hk=>by rw[Vu,if_neg (by rw[gZ];lia)];exact u6 k hk⟩
    ·have:j=i:=by lia
     subst this;refine⟨s.heap.objs.size,x,y,by rw[<- gZ];simp,hsz,px,py,ot _ _ gS.2.2.2.2 f5,λk hk=>?_⟩;obtain⟨T,x',y',u1,u2,u3,u4,u5,u6⟩:=hK.2 k hk;rw[Vu,if_neg (by rw[gZ];lia),u1];intro z;have:=Ua u5;simp at z
     lia
  ·refine Yar Z D1 D2 e1 e3 hI B0 kR (by lia) (by lia) λx y h' tk px py f1 f3 f4 f5 f6 f7=>?_;have f2:aG h' TI (.ref i1) (.ref i2):=f7 TI _ Z.Ae Z.DX Z.DW hI;have ep:∃ o,h'.get? p=some o:=e3.imp λo e=>f7 p o (ge e2).1 (ge e2).2.2.1 (ge e2).2.2.2.1 e;have tK:∀ c o,c≠z->c≠TO->c≠i1->c≠i2->s.heap.get? c=some o->h'.get? c=some o:=λc o q1 q2 q3 q4 e=>f7 c o q1 q3 q4 e;have Cm:=tK S _ sz sW s1 s2 mq;have gZ:=hK.1;show ah _ A.in1 (gD S (·.push (.ref s.heap.objs.size)) >>= _) _ _ _;refine aa ?_;have ot:∀ b o,b≠S->h'.get? b=some o->(h'.update S (Jl (·.push (.ref s.heap.objs.size)))).get? b=some o:=λb o hb e=>(wg _ _ (Ke hb)).trans e;refine cL Cm rfl (af ⟨dz Kh _,?_⟩) (by rw[gZ];lia) (by show(acc.push _).size<=sizeLine+1;rw[wz,gZ];lia);have gS:=ge hsz;refine ih (i+1) _ (acc.push (.ref s.heap.objs.size)) _ (by lia) lP ?_ (.inr ⟨by lia,p,true,ot _ _ (Ke sz) f1,e2,ep.imp λo e=>ot _ _ (ge e2).2.2.2.2 e⟩) (ot _ _ (Ke vV) f2) ⟨f3.1.keeps λo e=>ot _ _ (Ke s1) e,f3.2.keeps λo e=>ot _ _ (Ke vU) e⟩ ⟨f4.1.keeps λo e=>ot _ _ (Ke s2) e,f4.2.keeps λo e=>ot _ _ (Ke pA) e⟩ (xg _ Cm rfl) ?_ (λb o q1 q2 q3 q4 q5 e=>ot b o q1 (tK b o q2 q3 q4 q5 (hk b o q1 q2 q3 q4 q5 e))) λh3 Gz uX c3 g1 g2 g3=>hR h3 Gz uX c3 g1 g2 g3
   ·show a0<=(h'.update _ _).objs.size;rw[Vt,f6];lia
   ·refine⟨by rw[wz,gZ],λj hj=>?_⟩;by_cases q:j<i
    ·obtain⟨T,x',y',u1,u2,u3,u4,u5,u6⟩:=hK.2 j q;obtain⟨v1,v2,v3,v4,v5⟩:=ge u2;exact⟨T,x',y',by rw[vD (by rw[gZ];exact q)];rw[<- u1];exact(xm _).symm,u2,u3,u4,ot _ _ v5 (tK T _ v1 v2 v3 v4 u5),λk hk=>by rw[Vu,if_neg (by rw[gZ];lia)];exact u6 k hk⟩
    ·have:j=i:=by lia
     subst this;refine⟨s.heap.objs.size,x,y,by rw[<- gZ];simp,hsz,px,py,ot _ _ gS.2.2.2.2 f5,λk hk=>?_⟩;obtain⟨T,x',y',u1,u2,u3,u4,u5,u6⟩:=hK.2 k hk;rw[Vu,if_neg (by rw[gZ];lia),u1];intro z;have:=Ua u5;simp at z
     lia
end
end L3
end
section
namespace L3
open PySem PySem.Spec PyProof.Rows L2 M3
theorem QbZ:fu (.type "zip") "__len__"=pure none:=by rw[dI,bV];kernel_rfl
theorem Qbt:fu (.type "zip") "__length_hint__"=pure none:=by rw[dI,bV];kernel_rfl
section
variable {prog:ak} {w:World} {A:Around} {E:Value->ag->Prop} {s:ag} {R:hX->ag->Prop} {S z TI TO i1 i2 l1 l2:ae} {b1 b2:Bool} {xs ys:Array Value} {a b:Value}
theorem Ycb   (hT:s.TypeIs (.ref r) "zip")(h:Q true s):ah (aj prog w) A (Gn (.ref r)) Q E s:=by
 unfold Gn;refine aa (cO hT QbZ ?_);show ah _ A (specialOf (Ka r) (jk "__length_hint__") >>= _) _ _ _;refine aa (cO hT Qbt ?_);exact af h
theorem ZbF(hh:A.handled=none)(Z:mT z TI TO i1 i2 [i1,l1] [i2,l2])(n1:l1≠i1)(n2:l2≠i2)(n)(hn:n<=xs.size/\n<=ys.size/\(n=xs.size\/(n<xs.size/\n=ys.size)))(wK:n<=sizeLine)
  (hS:S≠z/\S≠TI/\S≠TO/\S≠i1/\S≠i2/\S≠l1/\S≠l2) (res) (c₀)
  (e1:de s.heap z TI TO .none) (e2:aG s.heap TI (.ref i1) (.ref i2)) (e3:aG s.heap TO a b) (e4:cK s.heap b1 i1 l1 0/\bY s.heap b1 l1 xs) (e5:cK s.heap b2 i2 l2 0/\bY s.heap b2 l2 ys)
  (mq:s.heap.get? S=some {cls:=.type "list",data:=.seq #[] c₀})
  (hR:∀ h' tk fb c',h'.get? S=some {cls:=.type "list",dict:=none,data:=.seq fb c',slots:=#[]}->iy h' fb xs ys s.heap.objs.size n->(∀ b o,b≠S->b≠z->b≠TO->b≠i1->b≠i2->s.heap.get? b=some o->h'.get? b=some o)->R (.ok (.ret res)) {s with heap:=h',toks:=tk}) :
  ah (aj prog w) A.in1 (Hn (.ref S) (.ref z) res)
   (λfin s'=>match fin with | .done f=>R (.ok f) s' | .again c'=>c'.quiet=true/\bG (aj prog w) A c' R s') (λe s'=>R (.error e) s') s:=by
 have hT:s.TypeIs (.ref z) "zip":=⟨_,e1,rfl⟩;unfold Hn;refine aa (bN hT ?_);have q1:ko (.ref S) (.ref z)=false:=by simp[ko,hS.1]
 rw[if_neg (by rw[q1];decide)];refine aa (eY e1 ?_);refine aa (av (Ycb hT ?_));rw[if_pos (by simp)];refine aa (bH ?_);refine aa ?_;show ah _ _ (gD S (λv=>v.push .none) >>= λ_=>gD S (λv=>v.pop)) _ _ _;refine aa (cL mq rfl ?_);have g2:=xg (Jl (λv=>v.push ja)) mq rfl;refine cL (hz:=by seq_fits) g2 rfl ?_;have g3:=xg (Jl (λv=>v.pop)) g2 rfl;have ot:∀ b o,b≠S->s.heap.get? b=some o->((s.heap.update S (Jl (λv=>v.push ja))).update S (Jl (λv=>v.pop))).get? b=some o :=
  λb o hb e=>(wg _ _ (Ke hb)).trans ((wg _ _ (Ke hb)).trans e)
 have JC:=hS;obtain⟨sz,vV,sW,s1,s2,vU,pA⟩:=hS;refine af ⟨dz Kh _,?_⟩;have lt:∀{b:ae}{o:Obj},s.heap.get? b=some o->b<s.heap.objs.size:=λe=>Ua e;obtain⟨o1,IC,_⟩:=e4.1.obj;obtain⟨o2,sf,_⟩:=e5.1.obj;refine zcn (A:=A) (a0:=s.heap.objs.size) (h₀:=s.heap) hh Z n1 n2 n hn wK JC ⟨lt e1,lt e2,lt e3,lt IC,lt sf,lt mq⟩ res (n-0) 0 _ #[] _ rfl (xl _) ?_ (.inl ⟨rfl,ot _ _ (Ke sz) e1,a,b,ot _ _ (Ke sW) e3⟩) (ot _ _ (Ke vV) e2)
  ⟨e4.1.keeps λo e=>ot _ _ (Ke s1) e,e4.2.keeps λo e=>ot _ _ (Ke vU) e⟩ ⟨e5.1.keeps λo e=>ot _ _ (Ke s2) e,e5.2.keeps λo e=>ot _ _ (Ke pA) e⟩ g3 ⟨rfl,λj hj=>absurd hj (by lia)⟩ (λb o q1 _ _ _ _ e=>ot b o q1 e) λh' tk fb c' k1 k2 k3=>hR h' tk fb c' k1 k2 k3
 show s.heap.objs.size<=((s.heap.update _ _).update _ _).objs.size;rw[Vt,Vt];exact Ub _
theorem ycj(hh:A.handled=none)(Z:mT z TI TO i1 i2 [i1,l1] [i2,l2])(n1:l1≠i1)(n2:l2≠i2)(n)(hn:n<=xs.size/\n<=ys.size/\(n=xs.size\/(n<xs.size/\n=ys.size)))(wK:n<=sizeLine)
  (hS:S≠z/\S≠TI/\S≠TO/\S≠i1/\S≠i2/\S≠l1/\S≠l2)
  (e1:de s.heap z TI TO .none) (e2:aG s.heap TI (.ref i1) (.ref i2)) (e3:aG s.heap TO a b) (e4:cK s.heap b1 i1 l1 0/\bY s.heap b1 l1 xs) (e5:cK s.heap b2 i2 l2 0/\bY s.heap b2 l2 ys)
  (mq:s.heap.get? S=some {cls:=.type "list",data:=.seq #[]})
  (hR:∀ h' tk fb c',h'.get? S=some {cls:=.type "list",dict:=none,data:=.seq fb c',slots:=#[]}->iy h' fb xs ys s.heap.objs.size n->(∀ b o,b≠S->b≠z->b≠TO->b≠i1->b≠i2->s.heap.get? b=some o->h'.get? b=some o)->R (.ok (.ret .none)) {s with heap:=h',toks:=tk}) :
  ah (aj prog w) A.in1 (Builtin.«list.__init__» ⟨[.ref S,.ref z],[]⟩)
   (λfin s'=>match fin with | .done f=>R (.ok f) s' | .again c'=>c'.quiet=true/\bG (aj prog w) A c' R s') (λe s'=>R (.error e) s') s:=by
 show ah _ _ (do let old<-Ko (.ref S);Builtin.List.listUpdate (.ref S) (λ_=>#[]);letGo old.toList.reverse;Hn (.ref S) (.ref z) .none) _ _ s;refine aa ?_;unfold Ko;refine aa (aR mq rfl (af ?_));show ah _ _ (gD S (λ_=>#[]) >>= λ_=>letGo (#[]:Array Value).toList.reverse >>= λ_=>Hn (.ref S) (.ref z) .none) _ _ s;refine aa (cL mq rfl ?_);have g2:=xg (Jl (λ_=>(#[]:Array Value))) mq rfl;have ot:∀ b o,b≠S->s.heap.get? b=some o->(s.heap.update S (Jl (λ_=>(#[]:Array Value)))).get? b=some o :=
  λb o hb e=>(wg _ _ (Ke hb)).trans e
 refine aa (fU ?_);have JC:=hS;obtain⟨sz,vV,sW,s1,s2,vU,pA⟩:=hS;have zs:(s.heap.update S (Jl (λ_=>(#[]:Array Value)))).objs.size=s.heap.objs.size:=Vt ..;refine ZbF (s:={s with heap:=s.heap.update S (Jl (λ_=>(#[]:Array Value)))}) hh Z n1 n2 n hn wK JC .none _ (ot _ _ (Ke sz) e1) (ot _ _ (Ke vV) e2) (ot _ _ (Ke sW) e3)
  ⟨e4.1.keeps λo e=>ot _ _ (Ke s1) e,e4.2.keeps λo e=>ot _ _ (Ke vU) e⟩ ⟨e5.1.keeps λo e=>ot _ _ (Ke s2) e,e5.2.keeps λo e=>ot _ _ (Ke pA) e⟩ g2 λh' tk fb c' k1 k2 k3=>?_
 rw[zs] at k2;exact hR h' tk fb c' k1 k2 λb o q1 q2 q3 q4 q5 e=>k3 b o q1 q2 q3 q4 q5 (ot b o q1 e)
theorem Ycn  (hh:A.handled=none)(Z:mT z TI TO i1 i2 [i1,l1] [i2,l2])(n1:l1≠i1)(n2:l2≠i2)(n)(hn:n<=xs.size/\n<=ys.size/\(n=xs.size\/(n<xs.size/\n=ys.size)))(wK:n<=sizeLine)
  (e1:de s.heap z TI TO .none) (e2:aG s.heap TI (.ref i1) (.ref i2)) (e3:aG s.heap TO a b) (e4:cK s.heap b1 i1 l1 0/\bY s.heap b1 l1 xs) (e5:cK s.heap b2 i2 l2 0/\bY s.heap b2 l2 ys) (ll:l1<s.heap.objs.size/\l2<s.heap.objs.size)
  (hQ:∀ h' tk fb c',h'.get? s.heap.objs.size=some {cls:=.type "list",dict:=none,data:=.seq fb c',slots:=#[]}->iy h' fb xs ys (s.heap.objs.size+1) n->(∀ b o,b≠z->b≠TO->b≠i1->b≠i2->s.heap.get? b=some o->h'.get? b=some o)->Q (.ref s.heap.objs.size) {s with heap:=h',toks:=tk}) :
  ah (aj prog w) A (call (.type "list") [.ref z]) Q E s:=by
 refine jO (Q₁:=λobj s₁=>obj=.ref s.heap.objs.size/\s₁={s with heap:=s.heap.push {cls:=.type "list",data:=.seq #[]}}) PySem.F.called_list (PySem.F.typeCall_list_1 _) PySem.F.entry_list_init
  (code_list_new _ ⟨rfl,rfl⟩) λobj s₁ h₁=>?_
 obtain⟨rfl,rfl⟩:=h₁;have mq:(s.heap.push {cls:=.type "list",data:=.seq #[]}).get? s.heap.objs.size=some {cls:=.type "list",data:=.seq #[]}:=xb _ rfl;have up:∀{b:ae}{o:Obj},s.heap.get? b=some o->(s.heap.push {cls:=.type "list",data:=.seq #[]}).get? b=some o:=λe=>wa _ e;have lt:∀{b:ae}{o:Obj},s.heap.get? b=some o->s.heap.objs.size≠b:=λe=>vh (Ua e);obtain⟨o1,IC,_⟩:=e4.1.obj;obtain⟨o2,sf,_⟩:=e5.1.obj;have zs:(s.heap.push {cls:=.type "list",data:=.seq #[]}).objs.size=s.heap.objs.size+1:=Xg ..;refine⟨⟨_,mq,rfl⟩,PySem.F.args_list_init_2 _ _,ycj (A:=A.in1) (s:={s with heap:=s.heap.push {cls:=.type "list",data:=.seq #[]}}) hh Z n1 n2 n hn wK ⟨lt e1,lt e2,lt e3,lt IC,lt sf,vh ll.1,vh ll.2⟩ (up e1) (up e2) (up e3)
  ⟨e4.1.keeps λo e=>up e,e4.2.keeps λo e=>up e⟩ ⟨e5.1.keeps λo e=>up e,e5.2.keeps λo e=>up e⟩ mq λh' tk fb c' k1 k2 k3=>?_⟩
 rw[zs] at k2;exact⟨rfl,hQ h' tk fb c' k1 k2 λb o q2 q3 q4 q5 e=>k3 b o (Ke (lt e)) q2 q3 q4 q5 (up e)⟩
end
end L3
end
section
namespace L3
open PySem PySem.Spec PyProof.Rows L2 M3
noncomputable def nC:Hp->List ae->List (V×V)->Hp
 |H,T::Ts,p::ps=>nC (upd H T (.tup [p.1,p.2])) Ts ps
 |H,_,_=>H
theorem KQ:∀{Ts:List ae}{ps:List (V×V)} {H:Hp} {a:ae},a∉Ts->nC H Ts ps a=H a
 |[],_,_,_,_=>by simp[nC]
 |_::_,[],_,_,_=>rfl
 |T::Ts,p::ps,H,a,h=>by
  rw[Wb,not_or] at h;show nC (upd H T _) Ts ps a=H a;rw[KQ h.2,Qc h.1]
theorem ND      (hm:X.s₀.heap.objs.size<=m)(f:∀(H':Hp)(T:ae),m<=T->H' T=none->ZS X pins H' T) :
  ∀(Ts:List ae)(ps:List (V×V)) (H:Hp),Inv X pins σ H s->Ts.Nodup->(∀ T∈Ts,m<=T/\H T=none) ->
   (∀(j:Nat) T p,Ts[j]?=some T->ps[j]?=some p->∃ x y,RelV p.1 x/\RelV p.2 y/\aG s.heap T x y)->Inv X pins σ (nC H Ts ps) s
 |[],_,H,I,_,_,_=>by simpa[nC] using I
 |_::_,[],H,I,_,_,_=>I
 |T::Ts,p::ps,H,I,nd,hT,hp=>by
  rw[Vh] at nd;obtain⟨x,y,r1,r2,g⟩:=hp 0 T p rfl rfl;have q:=hT T Ug;have I2:Inv X pins σ (upd H T (.tup [p.1,p.2])) s:=Q0 I (f H T q.1 q.2) (xf hm q.1) ⟨by show 2<=sizeLine;decide,[x,y],.cons r1 (.cons r2 .nil),⟨_,g,rfl,_,rfl⟩⟩;refine ND hm f Ts ps _ I2 nd.2 (λT' h'=>⟨(hT T' (Vd _ h')).1,?_⟩) λj T' p' e1 e2=>hp (j+1) T' p' e1 e2;have ne:T'≠T:=λz=>nd.1 (by rw[<- z];exact h');rw[Qc ne];exact(hT T' (Vd _ h')).2
theorem iy.iF    (k:iy h acc xs ys a0 n):∃ Ts:List ae,acc.toList=Ts.map Ka/\Ts.length=n/\Ts.Nodup/\(∀ T∈Ts,a0<=T) /\
  ∀(j:Nat) T,Ts[j]?=some T->∃ x y,xs[j]?=some x/\ys[j]?=some y/\aG h T x y:=by
 obtain⟨hs,k⟩:=k;refine⟨acc.toList.map (λv=>match v with | .ref T=>T|_=>0),?_,by simpa using hs,?_,?_,?_⟩
 ·rw[Ue];refine(xk λj=>?_);rw[Xc];by_cases q:j<n
  ·obtain⟨T,x,y,e,_⟩:=k j q;rw[Xj,e];rfl
  ·rw[Xj,VD (by lia)];rfl
 ·rw[List.nodup_iff_pairwise_ne,List.pairwise_iff_getElem];intro i j hi hj hij z;simp only[wc,uk,List.getElem_map,Array.getElem_toList] at hi hj z;obtain⟨T,x,y,e,_,_,_,_,d⟩:=k j (by lia);obtain⟨T',x',y',e',_⟩:=k i (by lia);have u:=d i hij;rw[xm hj] at e;rw[xm hi] at e';rw[xm hi] at u;simp only[Kc.injEq] at e e';rw[e,e'] at z;rw[e'] at u;exact u (by rw[show T'=T from z])
 ·intro T hT;obtain⟨v,hv,rfl⟩:=Wd.mp hT;obtain⟨j,hj,e⟩:=uu hv;obtain⟨T,x,y,e1,q,_⟩:=k j (by simpa[hs] using hj);have:v=.ref T:=by
   have z:=Xj (xs:=acc) (i:=j);rw[e1,xc hj,e] at z;simpa using z
  rw[this];exact q
 ·intro j T e;rw[Xc] at e;by_cases q:j<n
  ·obtain⟨T',x,y,e1,_,e3,e4,e5,_⟩:=k j q;rw[Xj,e1] at e;obtain rfl:T'=T:=by simpa using e
   exact⟨x,y,e3,e4,e5⟩
  ·rw[Xj,VD (by lia)] at e;cases e
theorem RJ:∀ Ts:List ae,Vals (Ts.map V.ref) (Ts.map Ka)
 |[]=>.nil
 |_::Ts=>.cons rfl (RJ Ts)
section
variable {X:Cx} {a b:Expr} {ta:TA} {p1 p2 p3 p4:Pos}
noncomputable def Ai(K:Gc)(ta:TA):TE:=λσ H Q=>ta σ H λvs H1=>∃(b1 b2:Bool)(a1 a2:ae)(xs ys:List V),vs=[.ref a1,.ref a2]/\i8 K H1 b1 a1 xs/\i8 K H1 b2 a2 ys /\
 ∀(Ts:List ae)(p:ae),Ts.Nodup->(∀ T∈Ts,H1 T=none)->p∉Ts->H1 p=none->Ts.length=(xs.zip ys).length->Q (.ref p) (upd (nC H1 Ts (xs.zip ys)) p (.lst (Ts.map V.ref)))
theorem QcE(hc:X.calm=true)(ha:PA X [a,b] ta)(hg:Gl X "list")(hm:X.mg "list"=none)(IQ:Gl X "zip")(IG:X.mg "zip"=none)(hs:ao [a,b] X.env=[(false,eval a X.env),(false,eval b X.env)])(kR:ao [b] X.env=[(false,eval b X.env)]) :
  PE X (.Call (.Name "list" p1) [.Call (.Name "zip" p2) [a,b] [] p3] [] p4) (Ai X.K ta):=by
 intro pins s σ H Q I h;refine aV (YY I hg hm (show bc "list"=some (.type "list") by decide +kernel) ?_ (by decide) (by decide));refine kg (T:="list") ?_ rfl rfl;show ah _ _ (spliced ((false,eval (.Call (.Name "zip" p2) [a,b] [] p3) X.env)::a9 p4 (ao [] X.env))) _ _ s;refine kf ?_;refine aV (YY I IQ IG (show bc "zip"=some (.type "zip") by decide +kernel) ?_ (by decide) (by decide));refine kg (T:="zip") (bw (ha p3 pins s σ H _ I h) λus s1 ⟨vs,H1,I1,r1,q1⟩=>?_) (by rw[hs,kR]) (by rw[kR];rfl);obtain⟨b1,b2,a1,a2,xs,ys,e,h1,h2,q⟩:=q1;subst e;cases r1 with
 |cons r rr =>
  cases rr with
  |cons r' rr =>
   cases rr;obtain rfl:_=Ka a1:=r;obtain rfl:_=Ka a2:=r';obtain⟨lH,v1,k1,z1⟩:=Qt I1 h1;obtain⟨dJ,v2,k2,z2⟩:=Qt I1 h2;have l1:=k1.lt;have l2:=k2.lt;have w1:=v1.length;have w2:=v2.length;refine OX k1 k2 λg f1 f2 f3 f4 f5 f6=>Kf ?_;have lt:∀{c:ae}{o:Obj},s1.heap.get? c=some o->c<s1.heap.objs.size:=λe=>Ua e;have gs:s1.heap.objs.size+4<g.objs.size:=Ua f1;refine Ycn (I.ok.hd hc) (Mz _ a1 a2 l1 l2) (uc l1) (uc (xn l2)) (min lH.length dJ.length) (by simp;lia) (by lia) f1 f2 f3 ⟨f4,k1.keeps λo e=>f6 _ o e⟩ ⟨f5,k2.keeps λo e=>f6 _ o e⟩ ⟨by lia,by lia⟩ λh' tk acc c hS kp keep=>?_;have ne:∀{c m:Nat}{o:Obj},s1.heap.get? c=some o->s1.heap.objs.size<=m->c≠m:=λe hm=>uc (vb (lt e) hm);have k:∀ c u,s1.heap.get? c=some u->h'.get? c=some u:=λc u e=>keep c u (ne e (by lia)) (ne e (by lia)) (ne e (by lia)) (ne e (by lia)) (f6 c u e);have I2:Inv X pins σ H1 {s1 with heap:=h',toks:=tk}:=I1.kept k;obtain⟨Ts,t1,t2,t3,t4,t5⟩:=kp.iF;have fr:∀ T∈Ts,H1 T=none:=λT hT=>I1.aS.fresh (by have:=t4 T hT;lia);have I3:=ND (m:=s1.heap.objs.size) I1.sz (λH' T hT hn=>I1.kB hT hn) Ts (xs.zip ys) H1 I2 t3 (λT hT=>⟨by have:=t4 T hT;lia,fr T hT⟩) λj T pr e1 e2=>by
    obtain⟨x,y,ex,ey,ip⟩:=t5 j T e1;rw[VB] at e2;obtain⟨u,eu,ru⟩:=v1.get e2.1;obtain⟨v,ev,rv⟩:=v2.get e2.2;have e3:lH.toArray[j]?=some x:=ex;have e4:dJ.toArray[j]?=some y:=ey;rw[xE,eu] at e3;rw[xE,ev] at e4;cases e3;cases e4;exact⟨_,_,ru,rv,ip⟩
   have np:g.objs.size∉Ts:=λz=>by have:=t4 _ z;lia
   have fp:H1 g.objs.size=none:=I1.aS.fresh (by lia);refine⟨.ref g.objs.size,_,Q0 (D:=g.objs.size) (o:=.lst (Ts.map V.ref)) I3 (I1.kB (by lia) (by rw[KQ np];exact fp)) (xf I1.sz (by lia)) ⟨by rw[wc,t2];lia,acc.toList,c,?_,by simpa using hS⟩,rfl,q Ts _ t3 fr np fp (by rw[t2,WD];lia)⟩;rw[t1];exact RJ Ts
end
end L3
end
section
namespace MP
open PySem
inductive FV where
 |bh|bl (b:Bool)|int (i:Int)|str (s:Str)
 |tup (xs:List FV)|lst (xs:List FV)|obj (c:String) (ns:List String) (vs:List FV)|eZ (ns:List Int)|tab (kvs:List ((Int×Int)×Int))|cE (ks:List (Int×Int))
inductive MV where
 |f (x:FV)|ref (a:Nat)|tup (xs:List MV)|exc (c:String)
inductive Cell where
 |lst (xs:List MV)|obj (c:String) (fs:List (String×MV))|uS (ks:List Int)|tab (kvs:List ((Int×Int)×Int))|cE (ks:List (Int×Int))|code|dead
noncomputable abbrev MH:=List Cell
noncomputable abbrev aI:=List (Option MV)
inductive R (α:Type) where
 |ok (x:α) (h:MH)|exc (c:String) (h:MH)|stuck
noncomputable abbrev RD{γ δ:Sort _}(_k:γ->δ)(τ:Type):Type:=τ
namespace R
noncomputable def bind{α β:Type}(r:R α)(k:α->MH->R β):RD k (R β):=match r with
 |.ok x h=>k x h
 |.exc c h=>.exc c h
 |.stuck=>.stuck
variable {α β:Type}
@[simp] theorem aH{x:α}{h:MH}{k:α->MH->R β}:(R.ok x h).bind k=k x h:=id rfl
@[simp] theorem oq{c:String}{h:MH}{k:α->MH->R β}:(R.exc c h:R α).bind k=.exc c h:=id rfl
@[simp] theorem mz{k:α->MH->R β}:(R.stuck:R α).bind k=.stuck:=id rfl
end R
noncomputable def opt{α β:Type}(o:Option α)(k:α->R β):RD k (R β):=match o with
 |some x=>k x
 |none=>.stuck
@[simp] theorem qc{α β:Type}{x:α}{k:α->R β}:opt (some x) k=k x:=id rfl
@[simp] theorem A7{α β:Type}{k:α->R β}:opt none k=.stuck:=id rfl
noncomputable def qw:MV->Bool
 |.f .bh=>true
 |_=>false
noncomputable def Zm:List MV->Option (List FV)
 |[]=>some []
 |.f x::r=>(Zm r).map (x::·)
 |_::_=>none
noncomputable def Qi(xs:List MV):MV:=match Zm xs with
 |some ys=>.f (.tup ys)
 |none=>.tup xs
noncomputable def Yq(fz:Bool)(xs:List MV)(h:MH):R MV:=match fz with
 |true=>opt (Zm xs) λys=>.ok (.f (.lst ys)) h
 |false=>.ok (.ref h.length) (h++[.lst xs])
noncomputable def Ze(h:MH)(a:Nat):Option (List MV):=match h[a]? with
 |some (.lst xs)=>some xs
 |_=>none
noncomputable def Qa(h:MH):MV->Option (List MV)
 |.f (.tup xs)=>some (xs.map .f)
 |.f (.lst xs)=>some (xs.map .f)
 |.f (.eZ ns)=>some (ns.map λi=>.f (.int i))
 |.tup xs=>some xs
 |.ref a=>Ze h a
 |_=>none
noncomputable def listOf(h:MH):MV->Option (List MV)
 |.f (.lst xs)=>some (xs.map .f)
 |.ref a=>Ze h a
 |_=>none
noncomputable def Yj:MV->Option (List MV)
 |.f (.tup xs)=>some (xs.map .f)
 |.tup xs=>some xs
 |_=>none
noncomputable def yd:MV->Option Int
 |.f (.int i)=>some i
 |_=>none
noncomputable def ZE:MV->Option Bool
 |.f (.bl b)=>some b
 |_=>none
@[simp] noncomputable def yh:List MV->Option (List Int)
 |[]=>some []
 |.f (.int i)::r=>(yh r).map (i::·)
 |_::_=>none
@[simp] noncomputable def Qw:List MV->Option (List Bool)
 |[]=>some []
 |.f (.bl i)::r=>(Qw r).map (i::·)
 |_::_=>none
noncomputable def Qq(h:MH):Nat->MV->Option FV
 |0,_=>none
 |_+1,.f x=>some x
 |n+1,.tup xs=>(xs.mapM (Qq h n)).map .tup
 |n+1,.ref a=>(Ze h a).bind λxs=>(xs.mapM (Qq h n)).map .lst
 |_+1,.exc _=>none
noncomputable def QP(h:MH)(v:MV):Option FV:=Qq h 5 v
noncomputable def zt(h:MH):Nat->MV->List Nat
 |0,_=>[]
 |_+1,.f _=>[]
 |n+1,.tup xs=>xs.flatMap (zt h n)
 |n+1,.ref a=>a::((Ze h a).getD []).flatMap (zt h n)
 |_+1,.exc _=>[]
noncomputable def kill(as:List Nat)(h:MH):MH:=h.mapIdx λi c=>if i∈as then .dead else c
noncomputable def qN(v:MV)(h:MH):R MV:=opt (QP h v) λx=>.ok (.f x) (kill (zt h 5 v) h)
noncomputable def AG(x:Str):Bool:=x.cps.all (· < 0x110000)
noncomputable def cF:Nat->FV->Bool
 |_+1,.bh=>true
 |_+1,.bl _=>true
 |_+1,.int _=>true
 |_+1,.str s=>AG s
 |n+1,.tup xs=>xs.all (cF n)
 |n+1,.lst xs=>xs.all (cF n)
 |_,_=>false
mutual
noncomputable def fO:FV->FV->Bool
 |.bh,.bh=>true
 |.bl a,.bl b=>a==b
 |.bl a,.int j=>(if a then 1 else 0)==j
 |.int i,.bl b=>i==(if b then 1 else 0)
 |.int a,.int b=>a==b
 |.str a,.str b=>a==b
 |.tup xs,.tup ys=>mY xs ys
 |.lst xs,.lst ys=>mY xs ys
 |_,_=>false
noncomputable def mY:List FV->List FV->Bool
 |[],[]=>true
 |x::xs,y::ys=>fO x y&&mY xs ys
 |_,_=>false
end
noncomputable def ly(x y:FV):Option Bool:=if cF 8 x=true/\cF 8 y=true then some (fO x y) else none
noncomputable def tN(x:FV)(ys:List FV):Option Bool:=if cF 8 x=true/\ys.all (cF 8)=true then some (ys.any λy=>fO y x) else none
inductive BO where
 |add|sub|mul|fdiv|mod|pow
inductive CO where
 |lt|le|gt|ge|eq|ne|i6|v7
noncomputable def big:Nat:=2^4096
def pE(i j:Int):Prop:=i.natAbs<2^64\/j.natAbs<2^64\/(i.natAbs<big/\j.natAbs<big)
def xK(i j:Int):Prop:=0<j/\(j<1073741824\/j.natAbs<big)
open Classical in
noncomputable def QL:BO->Int->Int->Option Int
 |.add,i,j=>some (i+j)
 |.sub,i,j=>some (i-j)
 |.mul,i,j=>if pE i j then some (i*j) else none
 |.fdiv,i,j=>if xK i j then some (i/j) else none
 |.mod,i,j=>if 0<j then some (i%j) else none
 |.pow,i,j=>if 0<=j/\j<=1000000/\i.natAbs<2^64 then some (i^j.toNat) else none
noncomputable def aD:Nat:=4194304
open Classical in
noncomputable def qh(fz:Bool)(op:BO)(x y:MV)(h:MH):R MV:=match yd x,yd y with
 |some i,some j=>opt (QL op i j) λk=>.ok (.f (.int k)) h
 |none,some j=>match op with
  |.mul=>opt (listOf h x) λxs=>if -(2^63)<=j/\j<2^63/\xs.length*j.toNat<=aD then Yq fz (va j.toNat xs).flatten h else .stuck
  |_=>.stuck
 |none,none=>match op with
  |.add=>match Yj x,Yj y with
   |some xs,some ys=>if xs≠[]/\xs.length+ys.length<=aD then .ok (Qi (xs++ys)) h else .stuck
   |_,_=>opt (listOf h x) λxs=>opt (listOf h y) λys=>if xs.length+ys.length<=aD then Yq fz (xs++ys) h else .stuck
  |_=>.stuck
 |_,_=>.stuck
noncomputable def sF:CO->Int->Int->Option Bool
 |.lt,i,j=>some (decide (i<j))
 |.le,i,j=>some (decide (i<=j))
 |.gt,i,j=>some (decide (j<i))
 |.ge,i,j=>some (decide (j<=i))
 |_,_,_=>none
noncomputable def ZH(op:CO)(x y:MV)(h:MH):Option Bool:=match op with
 |.eq=>(QP h x).bind λa=>(QP h y).bind λb=>ly a b
 |.ne=>(QP h x).bind λa=>(QP h y).bind λb=>(ly a b).map (!·)
 |.i6=>(QP h x).bind λa=>(Qa h y).bind λys=>(ys.mapM (QP h)).bind λbs=>tN a bs
 |.v7=>(QP h x).bind λa=>(Qa h y).bind λys=>(ys.mapM (QP h)).bind λbs=>(tN a bs).map (!·)
 |op=>(yd x).bind λi=>(yd y).bind λj=>sF op i j
noncomputable def jX(n:Nat)(i:Int):Option Nat:=if 0<=i then(if i<n then some i.toNat else none) else if -(n:Int)<=i then some (i+n).toNat else none
noncomputable def dR(xs:List MV)(i:Int):Option MV:=(jX xs.length i).bind λj=>xs[j]?
noncomputable def oW(n d:Nat):Option Int->Nat
 |none=>d
 |some i=>if i<0 then(i+(n:Int)).toNat else min i.toNat n
noncomputable def oy(xs:List MV)(lo hi:Option Int):List MV:=(xs.drop (oW xs.length 0 lo)).take (oW xs.length xs.length hi-oW xs.length 0 lo)
noncomputable def ZM(fz:Bool)(x:MV)(lo hi:Option Int)(h:MH):R MV:=match Yj x with
 |some xs=>.ok (Qi (oy xs lo hi)) h
 |none=>opt (Qa h x) λxs=>Yq fz (oy xs lo hi) h
noncomputable def oI(n:String)(v:MV):List (String×MV)->List (String×MV)
 |[]=>[(n,v)]
 |(k,x)::r=>if k=n then(k,v)::r else(k,x)::oI n v r
inductive T2 where
 |upd|lB (fz:Bool)
inductive Tg where
 |nm (i:Nat)|tp (ts:List Tg)
inductive ME where
 |var (i:Nat)|cI (i:Int)|cB (b:Bool)|cN|cS (s:Str)
 |bin (fz:Bool) (op:BO) (a b:ME)|neg (a:ME)
 |cmp (op:CO) (a b:ME)|chain (op kZ:CO) (a b c:ME)
 |BL (a:ME)|pG (a:ME)
 |and (es:List ME)|or (es:List ME)|not (a:ME)|ite (c a b:ME)
 |tup (es:List ME)|lst (fz:Bool) (es:List ME)
 |sub (a i:ME)|slice (fz:Bool) (a:ME) (lo hi:Option ME)
 |fld (a:ME) (n:String)
 |call (f:String) (es:List ME)|make (fz:Bool) (c:String) (es:List ME)|lC (o:ME) (m:String) (es:List ME)
 |blt (fz:Bool) (n:String) (es:List ME)
 |lJ (a:ME) (t:String)
 |rW (a b:ME)
 |pK|Es (a:ME)|pJ (a d:ME)
 |sL (o:T2) (a b:ME)
 |pC (fz:Bool) (a:ME)
 |lm (m:String) (o:ME) (es:List ME)
 |comp (fz:Bool) (elt:ME) (tg:Tg) (it:String) (src:List ME) (cond:Option ME) (bW:Nat) (js:List Nat)
 |eO (e:ME)
inductive MS where
 |set (tg:Tg) (e:ME)
 |eT (o i e:ME)
 |fY (o:ME) (n:String) (e:ME)
 |par (i j:Nat) (a b:ME)
 |expr (e:ME)
 |ret (e:ME)
 |ite (c:ME) (a b:List MS)
 |for_ (tg:Tg) (it:String) (src:List ME) (body:List MS)
 |while_ (c:ME) (body:List MS)
 |raise (c:String) (es:List ME)
 |nO (body:List MS) (ei dst:Nat) (word:String) (tag:Str)
 |pass|nv
 |og (i:Nat)
structure bo where
 np:Nat
 ns:Nat
 body:List MS
structure Prog where
 defs:String->Option bo
 jI:String->Option FV
 meths:String->String->Option String
 subs:String->String->Option Bool
 jM:String->String->Bool
 jN:String->Bool
 word:String->String->Option Str
 words:String->Bool
 mI:String->String->Option Bool:=λ_ _=>none
 mV:String->Bool:=λ_=>false
 xt:Bool:=false
 wU:String->List Int->Bool:=λ_ _=>false
 nT:String->Bool:=λ_=>false
 turns:Nat
@[simp] noncomputable def uZ(n:String):List String->List FV->Option FV
 |m::ns,v::vs=>if n=m then some v else uZ n ns vs
 |_,_=>none
noncomputable def nM(ok:String->String->Bool)(n:String)(v:MV)(h:MH):Option MV:=match v with
 |.f (.obj c ns vs)=>if ok c n=true then(uZ n ns vs).map .f else none
 |.ref a=>match h[a]? with
  |some (.obj c fs)=>if ok c n=true then fs.lookup n else none
  |_=>none
 |_=>none
noncomputable def o7(m:String)(v:MV)(h:MH):Option String:=match v with
 |.f (.obj c ns _)=>if m∈ns then none else some c
 |.ref a=>match h[a]? with
  |some (.obj c fs)=>if m∈fs.map wu then none else some c
  |_=>none
 |_=>none
noncomputable def excOf:MV->Option String
 |.exc c=>some c
 |_=>none
@[simp] theorem Zdj(c:String):excOf (.exc c)=some c:=rfl
noncomputable def YN(sub:String->String->Option Bool)(h:MH)(v:MV)(t:String):Option Bool:=match v with
 |.f .bh=>some false
 |.f (.bl _)=>some (decide (t="bool")||decide (t="int"))
 |.f (.int _)=>some (decide (t="int"))
 |.f (.str _)=>some (decide (t="str"))
 |.f (.tup _)=>some (decide (t="tuple"))
 |.f (.tab _)=>none
 |.f (.cE _)=>none
 |.f (.lst _)=>some (decide (t="list"))
 |.f (.obj c _ _)=>sub c t
 |.f (.eZ _)=>none
 |.tup _=>some (decide (t="tuple"))
 |.ref a=>match h[a]? with
  |some (.lst _)=>some (decide (t="list"))
  |some (.obj c _)=>sub c t
  |_=>none
 |.exc _=>none
noncomputable def Bv(x:MV)(h:MH):Option (List MV):=match x with
 |.ref a=>Ze h a
 |_=>none
noncomputable def YI(xs:List MV)(i:Int)(y:MV):List MV:=let k:=oW xs.length 0 (some i);xs.take k++y::xs.drop k
noncomputable def Zd(h:MH)(a:Nat)(xs:List MV):MH:=h.set a (.lst xs)
open Classical in
noncomputable def l0(m:String)(o:MV)(as:List MV)(h:MH):R MV:=match o with
 |.ref a=>opt (Ze h a) λxs=>match m,as with
  |"append",[y]=>if xs.length<aD then .ok (.f .bh) (Zd h a (xs++[y])) else .stuck
  |"extend",[z]=>opt (listOf h z) λys=>if xs.length+ys.length<=aD then .ok (.f .bh) (Zd h a (xs++ys)) else .stuck
  |"insert",[u,y]=>opt (yd u) λi=>if xs.length<aD/\-(2^63)<=i/\i<2^63 then .ok (.f .bh) (Zd h a (YI xs i y)) else .stuck
  |"reverse",[]=>.ok (.f .bh) (Zd h a xs.reverse)
  |"clear",[]=>.ok (.f .bh) (Zd h a [])
  |"pop",[]=>opt (xs[xs.length-1]?) λy=>.ok y (Zd h a (xs.take (xs.length-1)))
  |"pop",[u]=>opt (yd u) λi=>opt (jX xs.length i) λk=>opt (xs[k]?) λy=>if -(2^63)<=i/\i<2^63 then .ok y (Zd h a (xs.take k++xs.drop (k+1))) else .stuck
  |_,_=>.stuck
 |_=>.stuck
noncomputable def oV:Int->List Int->Int
 |m,[]=>m
 |m,x::r=>oV (if x<m then x else m) r
noncomputable def oH:Int->List Int->Int
 |m,[]=>m
 |m,x::r=>oH (if x>m then x else m) r
noncomputable def yt(fz:Bool)(n:String)(as:List MV)(h:MH):R MV:=match n,as with
 |"len",[v]=>opt (Qa h v) λxs=>.ok (.f (.int xs.length)) h
 |"sum",[v]=>opt ((Qa h v).bind yh) λxs=>.ok (.f (.int xs.sum)) h
 |"all",[v]=>opt ((Qa h v).bind Qw) λxs=>.ok (.f (.bl (xs.all id))) h
 |"min",[v]=>opt ((Qa h v).bind yh) λxs=>match xs with | []=>.stuck|x::r=>.ok (.f (.int (oV x r))) h
 |"max",[v]=>opt ((Qa h v).bind yh) λxs=>match xs with | []=>.stuck|x::r=>.ok (.f (.int (oH x r))) h
 |"min",[u,v]=>opt (yd u) λi=>opt (yd v) λj=>.ok (.f (.int (if j<i then j else i))) h
 |"max",[u,v]=>opt (yd u) λi=>opt (yd v) λj=>.ok (.f (.int (if j>i then j else i))) h
 |"abs",[v]=>opt (yd v) λi=>.ok (.f (.int (if i<0 then -i else i))) h
 |"int",[v]=>match ZE v with
  |some b=>.ok (.f (.int (if b then 1 else 0))) h
  |none=>opt (yd v) λi=>.ok (.f (.int i)) h
 |"tuple",[v]=>opt (Qa h v) λxs=>.ok (Qi xs) h
 |"list",[v]=>opt (Qa h v) λxs=>Yq fz xs h
 |"divmod",[u,v]=>opt (yd u) λi=>opt (yd v) λj=>if 0<j/\j<1073741824 then .ok (.f (.tup [.int (i/j),.int (i%j)])) h else .stuck
 |_,_=>.stuck
noncomputable def OL(h:MH)(v:MV):Option (List ((Int×Int)×Int)):=match v with
 |.ref a=>match h[a]? with
  |some (.tab kvs)=>some kvs
  |_=>none
 |.f (.tab kvs)=>some kvs
 |_=>none
noncomputable def xY(v:MV):Option (Int×Int):=match Yj v with
 |some [.f (.int a),.f (.int b)]=>some (a,b)
 |_=>none
noncomputable def Yo(ks:List (Int×Int))(k:Int×Int):List (Int×Int):=if k∈ks then ks else ks++[k]
noncomputable def vZ(v:MV):Option (Int×Int):=match Yj v with
 |some [p,.f (.bl true)]=>xY p
 |_=>none
noncomputable def Fb(x:MV)(h:MH):R MV:=match x with
 |.ref i=>opt (Ze h i) λxs=>opt (xs.mapM vZ) λks=>if xs.length<1000000 then .ok (.f (.cE (ks.foldl Yo []))) h else .stuck
 |_=>.stuck
noncomputable def qH(h:MH)(v:MV):Option (List (Int×Int)):=match v with
 |.ref a=>match h[a]? with
  |some (.cE ks)=>some ks
  |_=>none
 |.f (.cE ks)=>some ks
 |_=>none
noncomputable def Zc9(k:Int×Int):Bool:=decide ((0<=k.1/\k.1<64)/\0<=k.2/\k.2<64)
noncomputable def Oa(x y:MV)(h:MH):R MV:=match x,y with
 |.ref i,.f (.cE i4)=>opt (qH h (.ref i)) λks=>if(ks=[]\/i4=[])/\i4.all Zc9=true/\i4.Nodup then .ok (.f .bh) (h.set i (.cE (if i4=[] then ks else i4))) else .stuck
 |_,_=>.stuck
noncomputable def vY(x y:MV)(h:MH):R MV:=opt (xY x) λk=>opt (qH h y) λks=>.ok (.f (.bl (decide (k∉ks)))) h
noncomputable def ZY(k:Int×Int):Bool:=decide ((-1<=k.1/\k.1<64)/\-1<=k.2/\k.2<64)
noncomputable def pb(x y:MV)(h:MH):R MV:=match x,y with
 |.ref i,.f (.cE i4)=>opt (qH h (.ref i)) λks=>if ks=[]\/i4=[] then(if i4.all ZY=true/\i4.Nodup then .ok (.f .bh) (h.set i (.cE (if i4=[] then ks else i4))) else .stuck)
  else if ks.length+i4.length<=aD then .ok (.f .bh) (h.set i (.cE (i4.foldl Yo ks))) else .stuck
 |_,_=>.stuck
noncomputable def As(o:T2)(x:MV)(h:MH):Option Str:=match o with
 |.lB _=>some ⟨#[]⟩
 |.upd=>(qH h x).map λ_=>⟨#[]⟩
@[simp] theorem Ar{fz:Bool}{x:MV}{h:MH}:As (.lB fz) x h=some ⟨#[]⟩:=rfl
@[simp] theorem D3{x:MV}{h:MH}:As .upd x h=(qH h x).map λ_=>⟨#[]⟩:=rfl
noncomputable def sH(o:T2)(x y:MV)(h:MH):R MV:=match o with
 |.upd=>pb x y h
 |.lB fz=>opt (Qa h x) λxs=>opt (Qa h y) λys=>Yq fz ((xs.zip ys).map λp=>Qi [p.1,p.2]) h
noncomputable def C1(w:Int)(n:Int)(r:List Int):Int:=r.foldl (λb k=>if(if w-k<0 then -(w-k) else w-k)<(if w-b<0 then -(w-b) else w-b) then k else b) n
noncomputable def Bs(x y:MV)(h:MH):R MV:=opt (yd x) λw=>opt (Qa h y) λvs=>opt (yh vs) λns=>match ns with
 |n::r=>match (h[0]?:Option Cell) with
  |some .code=>.ok (.f (.int (C1 w n r))) h
  |_=>.stuck
 |[]=>.stuck
mutual
@[simp] noncomputable def QI:Tg->MV->aI->Option aI
 |.nm i,v,σ=>some (σ.set i (some v))
 |.tp ts,v,σ=>(Yj v).bind λvs=>qG ts vs σ
@[simp] noncomputable def qG:List Tg->List MV->aI->Option aI
 |[],[],σ=>some σ
 |t::ts,v::vs,σ=>(QI t v σ).bind λσ'=>qG ts vs σ'
 |_,_,_=>none
end
noncomputable abbrev zG:=List (Nat×List MV)
def aX(g:zG)(h:MH):Prop:=∀ p∈g,Ze h p.1=some p.2
noncomputable def qe(h:MH):MV->zG
 |.ref a=>match Ze h a with
  |some xs=>[(a,xs)]
  |none=>[]
 |_=>[]
noncomputable def G0(lo hi st:Int):Nat:=if lo<hi then((hi-lo-1)/st+1).toNat else 0
noncomputable def i5(it:String)(as:List MV)(h:MH):Option (List MV×zG):=match it,as with
 |"seq",[v]=>(Qa h v).map λxs=>(xs,qe h v)
 |"range",[u]=>(yd u).bind λn=>if -(2^62)<=n/\n<2^62 then some ((Vb n.toNat).map λ(k:Nat)=>.f (.int k),[]) else none
 |"range",[u,v]=>(yd u).bind λa=>(yd v).bind λb=>if -(2^62)<=a/\a<2^62/\-(2^62)<=b/\b<2^62 then some ((Vb (b-a).toNat).map λ(k:Nat)=>.f (.int (a+k)),[]) else none
 |"range",[u,v,w]=>(yd u).bind λa=>(yd v).bind λb=>(yd w).bind λs=>if -(2^30)<=a/\a<2^30/\-(2^30)<=b/\b<2^30/\0<s/\s<2^30 then some ((Vb (G0 a b s)).map λ(k:Nat)=>.f (.int (a+k*s)),[]) else none
 |"zip",[u,v]=>(Qa h u).bind λxs=>(Qa h v).map λys=>((xs.zip ys).map λp=>Qi [p.1,p.2],qe h u++qe h v)
 |"keys",[.f (.tab kvs)]=>some (kvs.map λkv=>.f (.tup [.int kv.1.1,.int kv.1.2]),[])
 |"signs",[.f (.str s)]=>some (s.cps.toList.map λc=>.f (.str ⟨#[c]⟩),[])
 |"items",[.f (.tab kvs)]=>some (kvs.map λkv=>.f (.tup [.tup [.int kv.1.1,.int kv.1.2],.int kv.2]),[])
 |"enumerate",[v]=>(Qa h v).map λxs=>(xs.mapIdx λk x=>Qi [.f (.int k),x],qe h v)
 |"enum1",[v]=>(Qa h v).map λxs=>(xs.mapIdx λk x=>Qi [.f (.int ((k+1:Nat):Int)),x],qe h v)
 |_,_=>none
inductive RS where
 |next (σ:aI) (h:MH)|ret (v:MV) (h:MH)|brk (σ:aI) (h:MH)|cnt (σ:aI) (h:MH)|exc (c:String) (h:MH)|stuck
namespace RS
noncomputable def bind(r:RS)(k:aI->MH->RS):RD k RS:=match r with
 |.next σ h=>k σ h
 |.ret v h=>.ret v h
 |.brk σ h=>.brk σ h
 |.cnt σ h=>.cnt σ h
 |.exc c h=>.exc c h
 |.stuck=>.stuck
@[simp] theorem ny{σ:aI}{h:MH}{k:aI->MH->RS}:(RS.next σ h).bind k=k σ h:=id rfl
@[simp] theorem CY{v:MV}{h:MH}{k:aI->MH->RS}:(RS.ret v h).bind k=.ret v h:=id rfl
@[simp] theorem C0{σ:aI}{h:MH}{k:aI->MH->RS}:(RS.brk σ h).bind k=.brk σ h:=id rfl
@[simp] theorem CZ{σ:aI}{h:MH}{k:aI->MH->RS}:(RS.cnt σ h).bind k=.cnt σ h:=id rfl
@[simp] theorem oq{c:String}{h:MH}{k:aI->MH->RS}:(RS.exc c h).bind k=.exc c h:=id rfl
@[simp] theorem mz{k:aI->MH->RS}:(RS.stuck).bind k=.stuck:=id rfl
noncomputable def turn(r:RS)(k:aI->MH->RS):RD k RS:=match r with
 |.next σ h=>k σ h
 |.cnt σ h=>k σ h
 |.brk σ h=>.next σ h
 |.ret v h=>.ret v h
 |.exc c h=>.exc c h
 |.stuck=>.stuck
@[simp] theorem kM{σ:aI}{h:MH}{k:aI->MH->RS}:(RS.next σ h).turn k=k σ h:=id rfl
@[simp] theorem Ac{σ:aI}{h:MH}{k:aI->MH->RS}:(RS.cnt σ h).turn k=k σ h:=id rfl
@[simp] theorem Ad{σ:aI}{h:MH}{k:aI->MH->RS}:(RS.brk σ h).turn k=.next σ h:=id rfl
@[simp] theorem Aa{v:MV}{h:MH}{k:aI->MH->RS}:(RS.ret v h).turn k=.ret v h:=id rfl
@[simp] theorem Ab{c:String}{h:MH}{k:aI->MH->RS}:(RS.exc c h).turn k=.exc c h:=id rfl
@[simp] theorem Zc1{k:aI->MH->RS}:(RS.stuck).turn k=.stuck:=id rfl
end RS
noncomputable def RS.iN(k:String->MH->RS)(r:RS):RD k RS:=match r with
 |.exc c h=>k c h
 |r=>r
noncomputable def R.st{α:Type}(r:R α)(k:α->MH->RS):RD k RS:=match r with
 |.ok x h=>k x h
 |.exc c h=>.exc c h
 |.stuck=>.stuck
@[simp] theorem R.st_ok{α:Type}{x:α}{h:MH}{k:α->MH->RS}:(R.ok x h).st k=k x h:=id rfl
@[simp] theorem R.st_exc{α:Type}{c:String}{h:MH}{k:α->MH->RS}:(R.exc c h:R α).st k=.exc c h:=id rfl
@[simp] theorem R.st_stuck{α:Type}{k:α->MH->RS}:(R.stuck:R α).st k=.stuck:=id rfl
noncomputable def zD{α:Type}(o:Option α)(k:α->RS):RD k RS:=match o with
 |some x=>k x
 |none=>.stuck
@[simp] theorem RQ{α:Type}{x:α}{k:α->RS}:zD (some x) k=k x:=id rfl
@[simp] theorem zdi{α:Type}{k:α->RS}:zD none k=.stuck:=id rfl
open Classical in
noncomputable def qy(g:zG)(bd:MV->aI->MH->RS):List MV->aI->MH->RS
 |[],σ,h=>if aX g h then .next σ h else .stuck
 |x::r,σ,h=>if aX g h then(bd x σ h).turn λσ1 h1=>qy g bd r σ1 h1 else .stuck
open Classical in
noncomputable def Qj(g:zG)(bd:MV->aI->MH->R (Option MV×aI)):List MV->List MV->aI->MH->R (List MV)
 |[],acc,σ,h=>if aX g h then .ok acc h else .stuck
 |x::r,acc,σ,h=>if aX g h/\acc.length<aD then(bd x σ h).bind λp h1=>Qj g bd r (match p.1 with|some y=>acc++[y]|none=>acc) p.2 h1 else .stuck
noncomputable def stM(bW:Nat)(js:List Nat)(σ:aI):aI:=va bW none++js.map λj=>(σ[j]?).join
noncomputable def yI(c:aI->MH->R MV)(bd:aI->MH->RS):Nat->aI->MH->RS
 |0,_,_=>.stuck
 |n+1,σ,h=>(c σ h).st λv h1=>zD (ZE v) λb=>if b=true then(bd σ h1).turn λσ2 h2=>yI c bd n σ2 h2 else .next σ h1
noncomputable def calm{α:Type}(r:R α):R α:=match r with
 |.ok x h=>.ok x h
 |_=>.stuck
@[simp] theorem E4{α:Type}{x:α}{h:MH}:calm (R.ok x h)=.ok x h:=id rfl
noncomputable def Qh(tg:Tg)(ex:aI->MH->RS):MV->aI->MH->RS:=λx σ h=>zD (QI tg x σ) λσ2=>ex σ2 h
noncomputable def zk(tg:Tg)(tc:aI->MH->R Bool)(te:aI->MH->R MV):MV->aI->MH->R (Option MV×aI):=λx σ h =>
 opt (QI tg x σ) λσ2=>(calm (tc σ2 h)).bind λk h2=>if k=true then(calm (te σ2 h2)).bind λy h3=>.ok (some y,σ2) h3 else .ok (none,σ2) h2
def jW:Cell->Prop
 |.lst xs=>∃ ys:List FV,xs=ys.map MV.f
 |.obj _ fs=>∃ ys:List (String×FV),fs=ys.map λp=>(p.1,MV.f p.2)
 |.uS _=>True
 |.tab _=>True
 |.cE _=>True
 |.code=>True
 |.dead=>True
def bZ(h h':MH):Prop:=h.length<=h'.length/\∀ i c,i<h.length->h'[i]?=some c->h[i]?=some c\/jW c
open Classical in
noncomputable def ym(h:MH)(v:MV)(h':MH):R MV:=if bZ h h' then(match v with
 |.f x=>.ok (.f x) (h'.take h.length)
 |.ref a=>if h.length<=a then(match Ze h' a with
   |some xs=>match Zm xs with
    |some _=>.ok (.ref h.length) (h'.take h.length++[.lst xs])
    |none=>.ok v h'
   |none=>.ok v h') else .ok v h'
 |v=>.ok v h') else .ok v h'
open Classical in
noncomputable def YL(h:MH)(c:String)(h':MH):R MV:=if bZ h h' then .exc c (h'.take h.length) else .exc c h'
section
variable (P:Prog) (W:String->List MV->MH->R MV)
open Classical in
noncomputable def ZP(fz:Bool)(c:String)(as:List MV)(h:MH):R MV :=
 (match P.meths c "__init__" with
  |some f=>W f (.ref h.length::as) (h++[Cell.obj c []])
  |none=>match as with | []=>R.ok (MV.f FV.bh) (h++[Cell.obj c []])|_=>.stuck).bind λv (h1:MH)=>if qw v=false then .stuck else
 match fz with
 |true=>match h1[h.length]? with
  |some (Cell.obj c' fs)=>opt (Zm (fs.map um)) λvs=>if bZ h h1 then R.ok (MV.f (FV.obj c' (fs.map wu) vs)) (h1.take h.length) else .stuck
  |_=>.stuck
 |false=>R.ok (MV.ref h.length) h1
mutual
@[simp] noncomputable def qa:ME->aI->MH->R MV
 |.var i,σ,h=>opt ((σ[i]?).join) λv=>.ok v h
 |.cI i,_,h=>.ok (.f (.int i)) h
 |.cB b,_,h=>.ok (.f (.bl b)) h
 |.cN,_,h=>.ok (.f .bh) h
 |.cS s,_,h=>.ok (.f (.str s)) h
 |.bin fz op a b,σ,h=>(qa a σ h).bind λx h1=>(qa b σ h1).bind λy h2=>qh fz op x y h2
 |.neg a,σ,h=>(qa a σ h).bind λx h1=>opt (yd x) λi=>.ok (.f (.int (-i))) h1
 |.cmp op a b,σ,h=>(qa a σ h).bind λx h1=>(qa b σ h1).bind λy h2=>opt (ZH op x y h2) λb=>.ok (.f (.bl b)) h2
 |.chain op kZ a b c,σ,h=>(qa a σ h).bind λx h1=>(qa b σ h1).bind λy h2=>opt (ZH op x y h2) λk =>
   if k=true then(qa c σ h2).bind λz h3=>opt (ZH kZ y z h3) λk=>.ok (.f (.bl k)) h3 else .ok (.f (.bl false)) h2
 |.BL a,σ,h=>(qa a σ h).bind λx h1=>.ok (.f (.bl (qw x))) h1
 |.pG a,σ,h=>(qa a σ h).bind λx h1=>.ok (.f (.bl (!qw x))) h1
 |.and es,σ,h=>Yu es σ h
 |.or es,σ,h=>ZD es σ h
 |.not a,σ,h=>(qa a σ h).bind λx h1=>opt (ZE x) λk=>.ok (.f (.bl (!k))) h1
 |.ite c a b,σ,h=>(qa c σ h).bind λx h1=>opt (ZE x) λk=>if k=true then qa a σ h1 else qa b σ h1
 |.tup es,σ,h=>(Zh es σ h).bind λxs h1=>.ok (Qi xs) h1
 |.lst fz es,σ,h=>(Zh es σ h).bind λxs h1=>Yq fz xs h1
 |.sub a i,σ,h=>(qa a σ h).bind λx h1=>(qa i σ h1).bind λy h2=>opt (Qa h2 x) λxs=>opt (yd y) λk=>opt (dR xs k) λv=>.ok v h2
 |.slice fz a lo hi,σ,h=>(qa a σ h).bind λx h1=>(AW lo σ h1).bind λl h2=>(AW hi σ h2).bind λu h3=>ZM fz x l u h3
 |.fld a n,σ,h=>(qa a σ h).bind λx h1=>opt (nM P.jM n x h1) λv=>.ok v h1
 |.call f es,σ,h=>(Zh es σ h).bind λxs h1=>W f xs h1
 |.make fz c es,σ,h=>(Zh es σ h).bind λxs h1=>ZP P W fz c xs h1
 |.lC o m es,σ,h=>(qa o σ h).bind λx h1=>opt (o7 m x h1) λc=>opt (P.meths c m) λf=>(Zh es σ h1).bind λxs h2=>W f (x::xs) h2
 |.blt fz n es,σ,h=>(Zh es σ h).bind λxs h1=>yt fz n xs h1
 |.lJ a t,σ,h=>(qa a σ h).bind λx h1=>opt (YN P.subs h1 x t) λk=>.ok (.f (.bl k)) h1
 |.pC fz a,σ,h=>(qa a σ h).bind λx h1=>opt (listOf h1 x) λxs=>Yq fz xs.reverse h1
 |.pK,_,h=>.ok (.ref h.length) (h++[.cE []])
 |.Es a,σ,h=>(qa a σ h).bind λx h1=>Fb x h1
 |.sL o a b,σ,h=>(qa a σ h).bind λx h1=>opt (As o x h1) λ_=>(qa b σ h1).bind λy h2=>sH o x y h2
 |.pJ a d,σ,h=>(qa a σ h).bind λx h1=>(qa d σ h1).bind λy h2=>vY x y h2
 |.rW a b,σ,h=>(qa a σ h).bind λx h1=>(qa b σ h1).bind λy h2=>Bs x y h2
 |.lm m o es,σ,h=>(qa o σ h).bind λx h1=>opt (Bv x h1) λ_=>(Zh es σ h1).bind λxs h2=>l0 m x xs h2
 |.comp fz elt tg it src cond bW js,σ,h=>(Zh src σ h).bind λxs h1=>opt (i5 it xs h1) λp =>
   (Qj p.2 (zk tg (xP cond) (qa elt)) p.1 [] (stM bW js σ) h1).bind λacc h3=>Yq fz acc h3
 |.eO e,σ,h=>(qa e σ h).bind λx h1=>qN x h1
@[simp] noncomputable def Yu:List ME->aI->MH->R MV
 |[],_,_=>.stuck
 |[e],σ,h=>qa e σ h
 |e::e'::r,σ,h=>(qa e σ h).bind λx h1=>opt (ZE x) λk=>if k=true then Yu (e'::r) σ h1 else .ok (.f (.bl false)) h1
@[simp] noncomputable def ZD:List ME->aI->MH->R MV
 |[],_,_=>.stuck
 |[e],σ,h=>qa e σ h
 |e::e'::r,σ,h=>(qa e σ h).bind λx h1=>opt (ZE x) λk=>if k=true then .ok (.f (.bl true)) h1 else ZD (e'::r) σ h1
@[simp] noncomputable def Zh:List ME->aI->MH->R (List MV)
 |[],_,h=>.ok [] h
 |e::es,σ,h=>(qa e σ h).bind λx h1=>(Zh es σ h1).bind λxs h2=>.ok (x::xs) h2
@[simp] noncomputable def AW:Option ME->aI->MH->R (Option Int)
 |none,_,h=>.ok none h
 |some e,σ,h=>(qa e σ h).bind λx h1=>opt (yd x) λi=>.ok (some i) h1
@[simp] noncomputable def xP:Option ME->aI->MH->R Bool
 |none,_,h=>.ok true h
 |some e,σ,h=>(qa e σ h).bind λx h1=>opt (ZE x) λk=>.ok k h1
end
mutual
@[simp] noncomputable def yw:MS->aI->MH->RS
 |.set tg e,σ,h=>(qa P W e σ h).st λv h1=>zD (QI tg v σ) λσ1=>.next σ1 h1
 |.eT o i e,σ,h=>(qa P W e σ h).st λv h1=>(qa P W o σ h1).st λx h2=>(qa P W i σ h2).st λy h3 =>
   match x with
   |.ref a=>zD (Ze h3 a) λxs=>zD (yd y) λk=>zD (jX xs.length k) λj=>.next σ (Zd h3 a (xs.set j v))
   |_=>.stuck
 |.par i j a b,σ,h=>(Zh P W [a,b] σ h).st λxs h1=>match xs with
  |[v,w]=>.next ((σ.set i (some v)).set j (some w)) h1
  |_=>.stuck
 |.fY o n e,σ,h=>(qa P W e σ h).st λv h1=>(qa P W o σ h1).st λx h2=>match x with
   |.ref a=>match h2[a]? with
    |some (.obj c fs)=>if P.jM c n=true/\fs.length<100 then .next σ (h2.set a (.obj c (oI n v fs))) else .stuck
    |_=>.stuck
   |_=>.stuck
 |.expr e,σ,h=>(qa P W e σ h).st λ_ h1=>.next σ h1
 |.ret e,σ,h=>(qa P W e σ h).st λv h1=>.ret v h1
 |.ite c a b,σ,h=>(qa P W c σ h).st λv h1=>zD (ZE v) λk=>if k=true then Qb a σ h1 else Qb b σ h1
 |.for_ tg it src body,σ,h=>(Zh P W src σ h).st λxs h1=>zD (i5 it xs h1) λp =>
   qy p.2 (Qh tg (Qb body)) p.1 σ h1
 |.while_ c body,σ,h=>yI (qa P W c) (Qb body) P.turns σ h
 |.raise c es,σ,h=>(Zh P W es σ h).st λ_ h1=>.exc c h1
 |.nO body ei dst word tag,σ,h=>RS.iN (λc h1=>zD (P.word word c) λs=>if ei<σ.length then .next ((σ.set dst (some (.f (.tup [.str tag,.str s])))).set ei none) h1 else .stuck) (Qb body σ h)
 |.pass,σ,h=>.next σ h
 |.nv,_,_=>.stuck
 |.og i,σ,h=>zD ((σ[i]?).join) λv=>(qN v h).st λx h1=>.next (σ.set i (some x)) h1
noncomputable def Qb:List MS->aI->MH->RS
 |[],σ,h=>.next σ h
 |s::r,σ,h=>(yw s σ h).bind (Qb r)
end
end
noncomputable def yc(h:MH)(r:RS):R MV:=match r with
 |.next _ h'=>ym h (.f .bh) h'
 |.ret v h'=>ym h v h'
 |.exc c h'=>YL h c h'
 |_=>.stuck
noncomputable def run(P:Prog):Nat->String->List MV->MH->R MV
 |0,_,_,_=>.stuck
 |n+1,f,as,h=>opt (P.defs f) λd=>if as.length=d.np then yc h (Qb P (run P n) d.body (as.map some++va (d.ns-d.np) none) h) else .stuck
end MP
end
section
namespace MP
open PySem
noncomputable abbrev I(i:Int):MV:=.f (.int i)
noncomputable abbrev B(b:Bool):MV:=.f (.bl b)
@[simp] theorem Nz{α:Type}(g:α->FV):∀ xs:List α,Zm (xs.map λx=>MV.f (g x))=some (xs.map g)
 |[]=>rfl
 |x::r=>by simp[Zm,Nz g r]
@[simp] theorem Yy:∀ xs:List FV,Zm (xs.map MV.f)=some xs
 |[]=>rfl
 |x::r=>by simp[Zm,Yy r]
@[simp] theorem Ydf{α:Type}(g:α->FV)(xs:List α):Zm (xs.map (MV.f∘g))=some (xs.map g):=Nz g xs
@[simp] theorem ybH{α:Type}(g:α->Int):∀ xs:List α,yh (xs.map λx=>MV.f (.int (g x)))=some (xs.map g)
 |[]=>rfl
 |x::r=>by simp[yh,ybH g r]
@[simp] theorem NP:∀ xs:List Int,yh (xs.map (MV.f∘FV.int))=some xs
 |[]=>rfl
 |x::r=>by
  show Option.map _ (yh (r.map (MV.f∘FV.int)))=_;rw[NP r];rfl
@[simp] theorem zbS{α:Type}(g:α->Bool):∀ xs:List α,Qw (xs.map λx=>MV.f (.bl (g x)))=some (xs.map g)
 |[]=>rfl
 |x::r=>by simp[Qw,zbS g r]
@[simp] theorem yc9(xs:List FV):Qi (xs.map MV.f)=.f (.tup xs):=by simp[Qi]
@[simp] theorem QcX{α:Type}(g:α->FV)(xs:List α):Qi (xs.map (MV.f∘g))=.f (.tup (xs.map g)):=by simp[Qi]
@[simp] theorem Qdh{α:Type}(g:α->FV)(xs:List α):Qi (xs.map λx=>MV.f (g x))=.f (.tup (xs.map g)):=by simp[Qi]
@[simp] theorem zdj(x y:FV):Qi [.f x,.f y]=.f (.tup [x,y]):=rfl
@[simp] theorem ydi:Qi []=.f (.tup []):=rfl
@[simp] theorem Yde(x:FV):Qi [.f x]=.f (.tup [x]):=rfl
@[simp] theorem Zc(xs:List FV)(h:MH):Yq true (xs.map MV.f) h=.ok (.f (.lst xs)) h:=by simp[Yq]
@[simp] theorem Qct{α:Type}(g:α->FV)(xs:List α)(h:MH):Yq true (xs.map (MV.f∘g)) h=.ok (.f (.lst (xs.map g))) h:=by simp[Yq]
@[simp] theorem ycw{α:Type}(g:α->FV)(xs:List α)(h:MH):Yq true (xs.map λx=>MV.f (g x)) h=.ok (.f (.lst (xs.map g))) h:=by simp[Yq]
@[simp] theorem Zcw(h:MH):Yq true [] h=.ok (.f (.lst [])) h:=rfl
@[simp] theorem Ycd(x:FV)(r:List MV)(h:MH):Yq true (.f x::r) h=opt (Zm r) λys=>.ok (.f (.lst (x::ys))) h:=by
 simp only[Yq,Zm];cases Zm r <;> rfl
@[simp] theorem F4(xs:List MV)(h:MH):Yq false xs h=.ok (.ref h.length) (h++[.lst xs]):=rfl
@[simp] theorem Qc3(P:Prog)(W:String->List MV->MH->R MV)(σ:aI)(h:MH):Qb P W [] σ h=.next σ h:=by simp only[Qb]
@[simp] theorem zcP(P:Prog)(W:String->List MV->MH->R MV)(s:MS)(r:List MS)(σ:aI)(h:MH):Qb P W (s::r) σ h=(yw P W s σ h).bind (Qb P W r):=by simp only[Qb]
section
variable {h:MH}
@[simp] theorem Cp(ok:String->String->Bool)(n c:String)(ns:List String)(vs:List FV):nM ok n (.f (.obj c ns vs)) h=if ok c n=true then(uZ n ns vs).map .f else none:=rfl
@[simp] theorem Ex(a:Nat):Bv (.ref a) h=Ze h a:=rfl
@[simp] theorem qbS:qw (.f .bh)=true:=rfl
@[simp] theorem ydh(s:Str):qw (.f (.str s))=false:=rfl
@[simp] theorem qdj(s:Int):qw (.f (.int s))=false:=rfl
@[simp] theorem BK(s:Bool):qw (.f (.bl s))=false:=rfl
@[simp] theorem ydg(s:List FV):qw (.f (.tup s))=false:=rfl
@[simp] theorem Ydh(s:List FV):qw (.f (.lst s))=false:=rfl
@[simp] theorem Ydj(c:String)(ns:List String)(s:List FV):qw (.f (.obj c ns s))=false:=rfl
@[simp] theorem qde(s:Nat):qw (.ref s)=false:=rfl
@[simp] theorem Qdc(s:List MV):qw (.tup s)=false:=rfl
@[simp] theorem qdi(xs:List FV):Qa h (.f (.tup xs))=some (xs.map .f):=rfl
@[simp] theorem Zdi(xs:List FV):Qa h (.f (.lst xs))=some (xs.map .f):=rfl
@[simp] theorem zdh(ns:List Int):Qa h (.f (.eZ ns))=some (ns.map λi=>MV.f (.int i)):=rfl
@[simp] theorem Ydg(ns:List Int):Yj (.f (.eZ ns))=none:=rfl
@[simp] theorem ycX(xs:List MV):Qa h (.tup xs)=some xs:=rfl
@[simp] theorem ydj(a:Nat):Qa h (.ref a)=Ze h a:=rfl
@[simp] theorem Aw(n:String)(v:MV):oI n v []=[(n,v)]:=rfl
@[simp] theorem zdk(n k:String)(v x:MV)(r:List (String×MV)):oI n v ((k,x)::r)=if k=n then(k,v)::r else(k,x)::oI n v r:=rfl
@[simp] theorem ycY(xs:List FV):listOf h (.f (.tup xs))=none:=rfl
@[simp] theorem zcV(xs:List FV):listOf h (.f (.lst xs))=some (xs.map .f):=rfl
@[simp] theorem Yc2(a:Nat):listOf h (.ref a)=Ze h a:=rfl
@[simp] theorem Qdj(xs:List FV):Yj (.f (.tup xs))=some (xs.map .f):=rfl
@[simp] theorem yc3(xs:List MV):Yj (.tup xs)=some xs:=rfl
@[simp] theorem Zdf(xs:List FV):Yj (.f (.lst xs))=none:=rfl
@[simp] theorem Qdf(a:Nat):Yj (.ref a)=none:=rfl
@[simp] theorem yde(i:Int):yd (.f (.int i))=some i:=rfl
@[simp] theorem qdf(xs:List FV):yd (.f (.tup xs))=none:=rfl
@[simp] theorem Zdg(xs:List FV):yd (.f (.lst xs))=none:=rfl
@[simp] theorem zdf(a:Nat):yd (.ref a)=none:=rfl
@[simp] theorem E5(b:Bool):ZE (.f (.bl b))=some b:=rfl
@[simp] theorem ydf(i j:Int):sF .lt i j=some (decide (i<j)):=rfl
@[simp] theorem Qdg(i j:Int):sF .le i j=some (decide (i<=j)):=rfl
@[simp] theorem zdg(i j:Int):sF .gt i j=some (decide (j<i)):=rfl
@[simp] theorem qdg(i j:Int):sF .ge i j=some (decide (j<=i)):=rfl
@[simp] theorem JZ(x y:MV):ZH .lt x y h=(yd x).bind λi=>(yd y).bind λj=>some (decide (i<j)):=rfl
@[simp] theorem J1(x y:MV):ZH .le x y h=(yd x).bind λi=>(yd y).bind λj=>some (decide (i<=j)):=rfl
@[simp] theorem cmp_gt(x y:MV):ZH .gt x y h=(yd x).bind λi=>(yd y).bind λj=>some (decide (j<i)):=rfl
@[simp] theorem J2(x y:MV):ZH .ge x y h=(yd x).bind λi=>(yd y).bind λj=>some (decide (j<=i)):=rfl
@[simp] theorem JV(x:FV):QP h (.f x)=some x:=rfl
@[simp] theorem CS(x y:FV):ZH .eq (.f x) (.f y) h=ly x y:=rfl
@[simp] theorem CQ(x y:FV):ZH .ne (.f x) (.f y) h=(ly x y).map (!·):=rfl
@[simp] theorem EF(n:Nat):cF (n+1) .bh=true:=rfl
@[simp] theorem Ig(n:Nat)(b:Bool):cF (n+1) (.bl b)=true:=rfl
@[simp] theorem EH(n:Nat)(i:Int):cF (n+1) (.int i)=true:=rfl
@[simp] theorem EE(n:Nat)(s:Str):cF (n+1) (.str s)=AG s:=rfl
@[simp] theorem ED(n:Nat)(xs:List FV):cF (n+1) (.tup xs)=xs.all (cF n):=rfl
@[simp] theorem EG(n:Nat)(xs:List FV):cF (n+1) (.lst xs)=xs.all (cF n):=rfl
@[simp] theorem E2(i j:Int):fO (.int i) (.int j)=(i==j):=by simp[fO]
@[simp] theorem EZ(i j:Str):fO (.str i) (.str j)=(i==j):=by simp[fO]
@[simp] theorem EY(xs ys:List FV):fO (.tup xs) (.tup ys)=mY xs ys:=by simp[fO]
@[simp] theorem E1(xs ys:List FV):fO (.lst xs) (.lst ys)=mY xs ys:=by simp[fO]
@[simp] theorem EW(i j:Int):ly (.int i) (.int j)=some (i==j):=by simp[ly]
theorem ycz(i j)(a:AG i=true)(b:AG j=true):ly (.str i) (.str j)=some (i==j):=by simp[ly,a,b]
@[simp] theorem Ys(fz:Bool)(i j:Int):qh fz .add (.f (.int i)) (.f (.int j)) h=.ok (.f (.int (i+j))) h:=rfl
@[simp] theorem qx(fz:Bool)(i j:Int):qh fz .sub (.f (.int i)) (.f (.int j)) h=.ok (.f (.int (i-j))) h:=rfl
theorem qE(fz)(i j)(c:pE i j):qh fz .mul (.f (.int i)) (.f (.int j)) h=.ok (.f (.int (i*j))) h:=by simp[qh,QL,c]
theorem yg(fz)(i j)(c:xK i j):qh fz .fdiv (.f (.int i)) (.f (.int j)) h=.ok (.f (.int (i/j))) h:=by simp[qh,QL,c]
theorem Zg(fz)(i j)(c:0<j):qh fz .mod (.f (.int i)) (.f (.int j)) h=.ok (.f (.int (i%j))) h:=by simp[qh,QL,c]
theorem K2(fz)(i j)(c:0<=j/\j<=1000000/\i.natAbs<2^64):qh fz .pow (.f (.int i)) (.f (.int j)) h=.ok (.f (.int (i^j.toNat))) h:=by simp[qh,QL,c]
@[simp] theorem Qo(fz:Bool)(v:MV):yt fz "len" [v] h=opt (Qa h v) λxs=>.ok (.f (.int xs.length)) h:=rfl
@[simp] theorem zo(fz:Bool)(v:MV):yt fz "sum" [v] h=opt ((Qa h v).bind yh) λxs=>.ok (.f (.int xs.sum)) h:=rfl
@[simp] theorem zp(fz:Bool)(v:MV):yt fz "all" [v] h=opt ((Qa h v).bind Qw) λxs=>.ok (.f (.bl (xs.all id))) h:=rfl
@[simp] theorem yi(fz:Bool)(v:MV):yt fz "tuple" [v] h=opt (Qa h v) λxs=>.ok (Qi xs) h:=rfl
@[simp] theorem Zl(fz:Bool)(v:MV):yt fz "list" [v] h=opt (Qa h v) λxs=>Yq fz xs h:=rfl
@[simp] theorem qk(fz:Bool)(i j:Int):yt fz "min" [.f (.int i),.f (.int j)] h=.ok (.f (.int (if j<i then j else i))) h:=rfl
@[simp] theorem Qk(fz:Bool)(i j:Int):yt fz "max" [.f (.int i),.f (.int j)] h=.ok (.f (.int (if j>i then j else i))) h:=rfl
@[simp] theorem yo(fz:Bool)(i:Int):yt fz "abs" [.f (.int i)] h=.ok (.f (.int (if i<0 then -i else i))) h:=rfl
@[simp] theorem Yl(fz:Bool)(i:Int):yt fz "int" [.f (.int i)] h=.ok (.f (.int i)) h:=rfl
@[simp] theorem ql(fz:Bool)(b:Bool):yt fz "int" [.f (.bl b)] h=.ok (.f (.int (if b then 1 else 0))) h:=rfl
end
@[simp] theorem EB{α:Type}(c:Prop) [Decidable c] (x y:α)(h:MH):(if c then R.ok x h else R.ok y h)=R.ok (if c then x else y) h:=by split <;> rfl
@[simp] theorem Og(c:Prop) [Decidable c] (x y:FV):(if c then MV.f x else MV.f y)=MV.f (if c then x else y):=by split <;> rfl
@[simp] theorem Ib(c:Prop) [Decidable c] (x y:Bool):(if c then FV.bl x else FV.bl y)=FV.bl (if c then x else y):=by split <;> rfl
@[simp] theorem ite_int(c:Prop) [Decidable c] (x y:Int):(if c then FV.int x else FV.int y)=FV.int (if c then x else y):=by split <;> rfl
theorem Qr(xs:List MV)(k:Nat):dR xs (k:Int)=xs[k]?:=by
 unfold dR jX;by_cases h:k<xs.length
 ·simp[h]
 ·simp[h]
theorem FT(xs:List MV)(i:Int)(h:0<=i):dR xs i=xs[i.toNat]?:=by
 have:=Qr xs i.toNat
 rwa [Int.toNat_of_nonneg h] at this
@[simp] theorem C2(x:MV)(xs:List MV):dR (x::xs) 0=some x:=by have:=Qr (x::xs) 0;simpa using this
@[simp] theorem E8(x y:MV)(xs:List MV):dR (x::y::xs) 1=some y:=by have:=Qr (x::y::xs) 1;simpa using this
@[simp] theorem E7(x y z:MV)(xs:List MV):dR (x::y::z::xs) 2=some z:=by have:=Qr (x::y::z::xs) 2;simpa using this
theorem DM(xs)(x):dR (xs++[x]) (-1)=some x:=by
 have e:((-1:Int)+((xs++[x]).length:Nat)).toNat=xs.length:=by simp;lia
 unfold dR jX;rw[if_neg (by decide),if_pos (by simp;lia),wm,e];simp
noncomputable def sq(b:Bool)(xs:List FV):FV:=if b=true then .tup xs else .lst xs
@[simp] theorem Ax(h:MH)(b:Bool)(xs:List FV):Qa h (.f (sq b xs))=some (xs.map .f):=by cases b <;> rfl
@[simp] theorem zdc(h:MH)(b:Bool)(xs:List FV):qe h (.f (sq b xs))=[]:=rfl
noncomputable def xQ:List Int->Int
 |[]=>0
 |x::r=>oV x r
noncomputable def C7:List Int->Int
 |[]=>0
 |x::r=>oH x r
theorem KS:∀(r:List Int)(m:Int),oV m r<=m/\∀ v∈r,oV m r<=v
 |[],m=>⟨UD _,λv hv=>by simp at hv⟩
 |x::r,m=>by
  obtain⟨a,b⟩:=KS r (if x<m then x else m);simp only[oV];refine⟨by split at a <;> rename_i hc <;> simp only[hc,if_true,if_false] <;> lia,λv hv=>?_⟩
  rcases Wb.mp hv with rfl|hv
  ·split at a <;> rename_i hc <;> simp only[hc,if_true,if_false] <;> lia
  ·exact b v hv
theorem PD:∀(r:List Int)(m:Int),oV m r=m\/oV m r∈r
 |[],m=>.inl rfl
 |x::r,m=>by
  simp only[oV]
  rcases PD r (if x<m then x else m) with e|e
  ·rw[e];split
   ·exact .inr (by simp)
   ·exact .inl rfl
  ·exact .inr (by simp[e])
theorem Lf:∀(r:List Int)(m:Int),m<=oH m r/\∀ v∈r,v<=oH m r
 |[],m=>⟨UD _,λv hv=>by simp at hv⟩
 |x::r,m=>by
  obtain⟨a,b⟩:=Lf r (if x>m then x else m);simp only[oH];refine⟨by split at a <;> rename_i hc <;> simp only[hc,if_true,if_false] <;> lia,λv hv=>?_⟩
  rcases Wb.mp hv with rfl|hv
  ·split at a <;> rename_i hc <;> simp only[hc,if_true,if_false] <;> lia
  ·exact b v hv
theorem OW:∀(r:List Int)(m:Int),oH m r=m\/oH m r∈r
 |[],m=>.inl rfl
 |x::r,m=>by
  simp only[oH]
  rcases OW r (if x>m then x else m) with e|e
  ·rw[e];split
   ·exact .inr (by simp)
   ·exact .inl rfl
  ·exact .inr (by simp[e])
theorem PJ  (h:r≠[]):xQ r∈r:=by
 cases r with
 |nil=>exact absurd rfl h
 |cons x r=>rcases PD r x with e|e <;> simp[xQ,e]
theorem Py  (h:r≠[]):C7 r∈r:=by
 cases r with
 |nil=>exact absurd rfl h
 |cons x r=>rcases OW r x with e|e <;> simp[C7,e]
theorem ycN   (h:v∈r):xQ r<=v:=by
 cases r with
 |nil=>simp at h
 |cons x r =>
  rcases Wb.mp h with rfl|h
  ·exact(KS r v).1
  ·exact(KS r x).2 v h
theorem YcJ   (h:v∈r):v<=C7 r:=by
 cases r with
 |nil=>simp at h
 |cons x r =>
  rcases Wb.mp h with rfl|h
  ·exact(Lf r v).1
  ·exact(Lf r x).2 v h
theorem Zcg(fz)(h)(v)(ns)(e:(Qa h v).bind yh=some ns)(ne:ns≠[]):yt fz "min" [v] h=.ok (I (xQ ns)) h:=by
 cases ns with
 |nil=>exact absurd rfl ne
 |cons x r=>show opt ((Qa h v).bind yh) _=_;rw[e];rfl
theorem qcj(fz)(h)(v)(ns)(e:(Qa h v).bind yh=some ns)(ne:ns≠[]):yt fz "max" [v] h=.ok (I (C7 ns)) h:=by
 cases ns with
 |nil=>exact absurd rfl ne
 |cons x r=>show opt ((Qa h v).bind yh) _=_;rw[e];rfl
theorem yf(h t)(xs):Ze (h++.lst xs::t) h.length=some xs:=by simp[Ze]
theorem qg(h t)(xs ys):Zd (h++.lst xs::t) h.length ys=h++.lst ys::t:=by simp[Zd]
theorem E9(h)(n):∀ xs:List FV,(xs.map MV.f).mapM (Qq h (n+1))=some xs
 |[]=>rfl
 |x::r=>by simp[uq,E9 h n r,Qq]
theorem qbI(h)(n):∀ xs:List FV,(xs.map MV.f).flatMap (zt h (n+1))=[]
 |[]=>rfl
 |x::r=>by simp[zt]
theorem NG(h t)(as)(ha:∀ a∈as,h.length<=a):∃ t',kill as (h++t)=h++t':=by
 refine⟨(t.mapIdx λi c=>if i+h.length∈as then .dead else c),?_⟩;unfold kill;rw[List.mapIdx_append]
 congr 1
 ·refine xk λi=>?_;rw[Up];cases q:h[i]? with
  |none=>rfl
  |some c =>
   have hi:=(xa.mp q).1;have:i∉as:=λz=>by have:=ha i z;lia
   simp[this]
theorem HJ(h)(a)(xs)(e:Ze h a=some (xs.map .f)):qN (.ref a) h=.ok (.f (.lst xs)) (kill [a] h):=by
 simp only[qN,QP,Qq,e,wm,E9,uh,qc,zt,ux,qbI]
theorem Eh(h t)(xs):∃ t',qN (.ref h.length) (h++.lst (xs.map .f)::t)=.ok (.f (.lst xs)) (h++t'):=by
 obtain⟨t',e⟩:=NG h (.lst (xs.map .f)::t) [h.length] (by simp);exact⟨t',by rw[HJ _ _ xs (yf h t _),e]⟩
@[simp] theorem OD(h:MH)(x:FV):qN (.f x) h=.ok (.f x) h:=by
 have:kill [] h=h:=by unfold kill;refine xk λi=>?_;rw[Up];cases h[i]? <;> rfl
 simp[qN,QP,Qq,zt,this]
@[simp] theorem MR(k:String->MH->RS)(c:String)(h:MH):RS.iN k (.exc c h)=k c h:=id rfl
@[simp] theorem ZcS(k:String->MH->RS)(σ:aI)(h:MH):RS.iN k (.next σ h)=.next σ h:=id rfl
@[simp] theorem yc7(k:String->MH->RS)(v:MV)(h:MH):RS.iN k (.ret v h)=.ret v h:=id rfl
theorem bZ.refl(h):bZ h h:=⟨Ub _,λi c _ e=>.inl e⟩
theorem bZ.app(h t):bZ h (h++t):=⟨by simp,λi c hi e=>.inl (by rw[ub hi] at e;exact e)⟩
theorem bZ.cons   (t:bZ h h')(e:c'=c\/jW c'):bZ (c::h) (c'::h'):=by
 refine⟨by have:=t.1;simp;lia,λi d hi q=>?_⟩;cases i with
 |zero =>
  simp at q;subst q;rcases e with e|e
  ·left;simp[e]
  ·exact .inr e
 |succ i=>simp at q hi ⊢;exact t.2 i d hi q
@[simp] theorem zc4(h:MH)(x:FV):ym h (.f x) h=.ok (.f x) h:=by simp[ym,bZ.refl]
@[simp] theorem KC(h t:MH)(x:FV):ym h (.f x) (h++t)=.ok (.f x) h:=by simp[ym,bZ.app]
@[simp] theorem Bw(h:MH)(k k':Int)(x:FV):ym (.lst [I k]::h) (.f x) (.lst [I k']::h)=.ok (.f x) (.lst [I k']::h):=by
 simp[ym,bZ.cons (bZ.refl h) (.inr ⟨[.int k'],rfl⟩:Cell.lst [I k']=Cell.lst [I k]\/jW (.lst [I k']))]
@[simp] theorem Ycz(h t:MH)(k k':Int)(x:FV):ym (.lst [I k]::h) (.f x) (.lst [I k']::(h++t))=.ok (.f x) (.lst [I k']::h):=by
 simp[ym,bZ.cons (bZ.app h t) (.inr ⟨[.int k'],rfl⟩:Cell.lst [I k']=Cell.lst [I k]\/jW (.lst [I k']))]
@[simp] theorem zcT(h:MH)(c:String):YL h c h=.exc c h:=by simp[YL,bZ.refl]
@[simp] theorem Yc0(h t:MH)(c:String):YL h c (h++t)=.exc c h:=by simp[YL,bZ.app]
@[simp] theorem ZcT(h:MH)(σ:aI)(h':MH):yc h (.next σ h')=ym h (.f .bh) h':=id rfl
@[simp] theorem yc8(h:MH)(v:MV)(h':MH):yc h (.ret v h')=ym h v h':=id rfl
@[simp] theorem yc4(h:MH)(c:String)(h':MH):yc h (.exc c h')=YL h c h':=id rfl
@[simp] theorem zK(h:MH):aX [] h:=λp hp=>by simp at hp
@[simp] theorem Qdi(h:MH)(x:FV):qe h (.f x)=[]:=rfl
@[simp] theorem qcS(h:MH)(x:List MV):qe h (.tup x)=[]:=rfl
theorem F0(bd:MV->aI->MH->RS)(x)(r)(σ)(h):qy [] bd (x::r) σ h=(bd x σ h).turn λσ1 h1=>qy [] bd r σ1 h1:=by simp[qy]
@[simp] theorem yu(h:MH)(v:MV):i5 "seq" [v] h=(Qa h v).map λxs=>(xs,qe h v):=rfl
theorem Zo(h)(n)(c:-(2^62)<=n/\n<2^62):i5 "range" [.f (.int n)] h=some ((Vb n.toNat).map λ(k:Nat)=>I k,[]):=if_pos c
theorem Ydb(h)(u):i5 "range" [u] h=(yd u).bind λn=>if -(2^62)<=n/\n<2^62 then some ((Vb n.toNat).map λ(k:Nat)=>.f (.int k),[]) else none:=rfl
@[simp] theorem ycx(h:MH)(u v:MV):i5 "zip" [u,v] h=(Qa h u).bind λxs=>(Qa h v).map λys=>((xs.zip ys).map λp=>Qi [p.1,p.2],qe h u++qe h v):=rfl
@[simp] theorem BI(h:MH)(v:MV):i5 "enumerate" [v] h=(Qa h v).map λxs=>(xs.mapIdx λk x=>Qi [.f (.int k),x],qe h v):=rfl
@[simp] theorem zdb(n:Nat):(((n:Int)+1=0)=False):=eq_false (by lia)
@[simp] theorem QcQ(n:Nat):(((n:Int)+1==0)=false):=beq_false_of_ne (by lia)
theorem Qv{α:Type}{bd:MV->aI->MH->R (Option MV×aI)}{h:MH}{e g:α->MV}{caps:aI}:∀(ys:List α)(acc:List MV)(z:Option MV),acc.length+ys.length<=aD ->
  (∀ y∈ys,∀ z,∃ z',bd (e y) (z::caps) h=.ok (some (g y),z'::caps) h)->Qj [] bd (ys.map e) acc (z::caps) h=.ok (acc++ys.map g) h
 |[],acc,z,_,_=>by simp[Qj]
 |y::r,acc,z,hl,hb=>by
  obtain⟨z',e'⟩:=hb y (by simp) z;simp only[Vc] at hl;have:=Qv (bd:=bd) (h:=h) (e:=e) (g:=g) (caps:=caps) r (acc++[g y]) z' (by simp;lia) (λy hy z=>hb y (by simp[hy]) z);simp[Qj,e',this]
  lia
theorem qp{α:Type}{bd:MV->aI->MH->R (Option MV×aI)}{h:MH}{e g:α->MV}{caps:aI}:∀(ys:List α)(acc:List MV)(z w:Option MV),acc.length+ys.length<=aD ->
  (∀ y∈ys,∀ z w,∃ z' w',bd (e y) (z::w::caps) h=.ok (some (g y),z'::w'::caps) h)->Qj [] bd (ys.map e) acc (z::w::caps) h=.ok (acc++ys.map g) h
 |[],acc,z,w,_,_=>by simp[Qj]
 |y::r,acc,z,w,hl,hb=>by
  obtain⟨z',w',e'⟩:=hb y (by simp) z w;simp only[Vc] at hl;have:=qp (bd:=bd) (h:=h) (e:=e) (g:=g) (caps:=caps) r (acc++[g y]) z' w' (by simp;lia) (λy hy z=>hb y (by simp[hy]) z);simp[Qj,e',this]
  lia
theorem Pe{α β:Type}{bd:MV->aI->MH->RS}{e:α->MV}{st:β->aI}{hp:β->MH}{f:β->α->β}:∀(ys:List α)(b:β),
  (∀ y∈ys,∀ b,bd (e y) (st b) (hp b)=.next (st (f b y)) (hp (f b y)))->qy [] bd (ys.map e) (st b) (hp b)=.next (st (ys.foldl f b)) (hp (ys.foldl f b))
 |[],b,_=>by simp[qy]
 |y::r,b,hb=>by
  simp only[Va,F0,hb y (by simp) b,RS.kM,Uk];exact Pe r (f b y) λy hy b=>hb y (by simp[hy]) b
theorem MT{α β:Type}{bd:MV->aI->MH->RS}{e:α->MV}{st:β->aI}{hp:β->MH}{f:β->α->β}(Pb:β->Prop):∀(ys:List α)(b:β),Pb b ->
  (∀ y∈ys,∀ b,Pb b->bd (e y) (st b) (hp b)=.next (st (f b y)) (hp (f b y))/\Pb (f b y))->qy [] bd (ys.map e) (st b) (hp b)=.next (st (ys.foldl f b)) (hp (ys.foldl f b))/\Pb (ys.foldl f b)
 |[],b,p,_=>⟨by simp[qy],p⟩
 |y::r,b,p,hb=>by
  obtain⟨e1,p1⟩:=hb y (by simp) b p;simp only[Va,F0,e1,RS.kM,Uk];exact MT Pb r (f b y) p1 λy hy b=>hb y (by simp[hy]) b
theorem HM{α:Type}{bd:MV->aI->MH->RS}{e:α->MV}(Pv:Nat->aI->MH->Prop):∀(ys:List α)(i:Nat)(σ:aI)(h:MH),Pv i σ h ->
  (∀ j y σ h,ys[j]?=some y->Pv (i+j) σ h->∃ σ' h',bd (e y) σ h=.next σ' h'/\Pv (i+j+1) σ' h')->∃ σ' h',qy [] bd (ys.map e) σ h=.next σ' h'/\Pv (i+ys.length) σ' h'
 |[],i,σ,h,p,_=>⟨σ,h,by simp[qy],p⟩
 |y::r,i,σ,h,p,hb=>by
  obtain⟨σ1,h1,e1,p1⟩:=hb 0 y σ h rfl p;obtain⟨σ2,h2,e2,p2⟩:=HM (bd:=bd) (e:=e) Pv r (i+1) σ1 h1 p1 (λj y σ h hj pj=>by
   have:=hb (j+1) y σ h (by simpa using hj) (by rw[show i+(j+1)=i+1+j by lia];exact pj)
   rwa [show i+(j+1)+1=i+1+j+1 by lia] at this)
  refine⟨σ2,h2,by simp[F0,e1,e2],?_⟩
  rwa [show i+(y::r).length=i+1+r.length by simp;lia]
end MP
end
section
namespace SD
open PySem PySem.Spec PyProof.Rows L2 L3 M3 MP
structure Tx where
 adr:String->ae
 K:Gc
 cd:ae:=0
 tb:ae:=0
 lp:Pos:=⟨0,0,0,0⟩
 lq:Str:=jk ""
instance:CoeFun Tx (λ_=>String->ae):=⟨Tx.adr⟩
def Dk(K:Gc)(a:ae)(ns:List Int):Prop:=∃(o:Obj)(aw:Array Value)(n:Nat),K.lookup a=some o/\o.cls=.type "list"/\o.dict=none/\o.data=.seq aw n/\aw.size<=sizeLine/\Vals (ns.map V.int) aw.toList
def bg(μ:List ae)(h:MH)(b:ae):Prop:=∃(i:Nat)(c:Cell),μ[i]?=some b/\h[i]?=some c/\c≠Cell.dead
section
variable (ct:Tx)
mutual
def RF(L:ae->Prop)(H:Hp):FV->V->Prop
 |.bh,v=>v=.bh
 |.bl b,v=>v=.bl b
 |.int i,v=>v=.int i
 |.str x,v=>v=.str x
 |.tup xs,v=>∃ a vs,v=.ref a/\¬ L a/\H a=some (.tup vs)/\fI L H xs vs
 |.lst xs,v=>∃ a vs,v=.ref a/\¬ L a/\Rd H a (.lst vs)/\fI L H xs vs
 |.obj c ns xs,v=>∃ a dx fs,v=.ref a/\¬ L a/\H a=some (.ins (ct c) dx fs)/\fs.map wu=ns.map jk/\fI L H xs (fs.map um)
 |.tab kvs,v=>∃ a o,v=.ref a/\¬ L a/\H a=some (.eO o (.dT (kvs.map λkv=>([(gb kv.1.1:Key),gb kv.1.2],V.int kv.2))))
 |.cE ks,v=>∃ a o,v=.ref a/\¬ L a/\H a=some (.eO o (.dT (ks.map λk=>([(gb k.1:Key),gb k.2],V.bl true))))
 |.eZ ns,v=>∃ a,v=.ref a/\((¬ L a/\∃ o,H a=some (.eO o (.lst (ns.map V.int))))\/Dk ct.K a ns)
def fI(L:ae->Prop)(H:Hp):List FV->List V->Prop
 |[],vs=>vs=[]
 |x::xs,vs=>∃ v r,vs=v::r/\RF L H x v/\fI L H xs r
end
mutual
def RV(μ:List ae)(L:ae->Prop)(H:Hp):MV->V->Prop
 |.f x,v=>RF ct L H x v
 |.ref i,v=>∃ b,μ[i]?=some b/\v=.ref b
 |.tup xs,v=>∃ a vs,v=.ref a/\¬ L a/\H a=some (.tup vs)/\ay μ L H xs vs
 |.exc c,v=>∃ a,v=.ref a/\¬ L a/\H a=some (.ext (JL (ct c) a))
def ay(μ:List ae)(L:ae->Prop)(H:Hp):List MV->List V->Prop
 |[],vs=>vs=[]
 |x::xs,vs=>∃ v r,vs=v::r/\RV μ L H x v/\ay μ L H xs r
end
def bM(μ:List ae)(L:ae->Prop)(H:Hp)(b:ae):Cell->Prop
 |.lst xs=>∃ vs,H b=some (.lst vs)/\ay ct μ L H xs vs
 |.obj c fs=>∃ dx gs,H b=some (.ins (ct c) dx gs)/\gs.map wu=fs.map (λp=>jk p.1)/\ay ct μ L H (fs.map um) (gs.map um)
 |.uS ks=>H b=some (.dK (ks.map λk=>((gb k:Key),V.bl true)))
 |.tab kvs=>H b=some (.dT (kvs.map λkv=>([(gb kv.1.1:Key),gb kv.1.2],V.int kv.2)))
 |.cE ks=>H b=some (.dT (ks.map λk=>([(gb k.1:Key),gb k.2],V.bl true)))
 |.code=>b=ct.tb/\(H b=some (.ext (Ah b ct.lp none))\/∃ c',c'≠b/\¬ L c'/\H b=some (.ext (Ah b ct.lp (some c')))/\H c'=some (.ext (JY c' ct.lq)))
 |.dead=>True
structure Rel (μ:List ae) (h:MH) (H:Hp):Prop where
 len:μ.length=h.length
 nd:μ.Nodup
 has:∀ b∈μ,∃ o,H b=some o
 cells:∀(i:Nat)(b:ae)(c:Cell),μ[i]?=some b->h[i]?=some c->bM ct μ (bg μ h) H b c
end
structure Ext (μ:List ae) (h:MH) (H:Hp) (μ':List ae) (h':MH) (H':Hp):Prop where
 pre:∃ ν,μ'=μ++ν
 keep:∀ b o,H b=some o->¬ bg μ h b->H' b=some o
 lF:∀ b,bg μ' h' b->bg μ h b\/H b=none
theorem Ext.refl(μ)(h)(H):Ext μ h H μ h H:=⟨⟨[],by simp⟩,λ_ _ e _=>e,λ_ l=>.inl l⟩
theorem Ext.trans    (a:Ext μ h H μ1 h1 H1)(b:Ext μ1 h1 H1 μ2 h2 H2):Ext μ h H μ2 h2 H2:=by
 obtain⟨ν,e⟩:=a.pre;obtain⟨ν',e'⟩:=b.pre;refine⟨⟨ν++ν',by rw[e',e,Vg]⟩,λc o q n=>?_,λc l=>?_⟩
 ·refine b.keep c o (a.keep c o q n) λl=>?_
  rcases a.lF c l with z|z
  ·exact n z
  ·rw[q] at z;cases z
 ·rcases b.lF c l with z|z
  ·exact a.lF c z
  ·by_cases n:bg μ h c
   ·exact .inl n
   ·cases q:H c with
    |none=>exact .inr rfl
    |some o=>rw[a.keep c o q n] at z;cases z
theorem Rd.keep    (k:∀ o,H a=some o->H' a=some o)(r:Rd H a u):Rd H' a u:=r.elim (λe=>.inl (k _ e)) λ⟨o,e⟩=>.inr ⟨o,k _ e⟩
theorem Rd.some    (r:Rd H a u):∃ o,H a=some o:=r.elim (λe=>⟨_,e⟩) λ⟨_,e⟩=>⟨_,e⟩
section
variable {ct:Tx}
structure Let (L:ae->Prop) (H:Hp) (L':ae->Prop) (H':Hp):Prop where
 keep:∀ b o,H b=some o->¬ L b->H' b=some o
 lF:∀ b o,H b=some o->¬ L b->¬ L' b
theorem Ext.let    (e:Ext μ h H μ' h' H'):Let (bg μ h) H (bg μ' h') H' :=
 ⟨e.keep,λb o q n l=>(e.lF b l).elim n λz=>by rw[q] at z;cases z⟩
mutual
theorem RF.to   (l:Let L H L' H'):∀{x:FV}{v:V},RF ct L H x v->RF ct L' H' x v
 |.bh,_,r=>by simpa only[RF] using r
 |.bl _,_,r=>by simpa only[RF] using r
 |.int _,_,r=>by simpa only[RF] using r
 |.str _,_,r=>by simpa only[RF] using r
 |.tup xs,v,r=>by
  simp only[RF] at r ⊢;obtain⟨a,vs,e,n,rd,q⟩:=r;exact⟨a,vs,e,l.lF a _ rd n,l.keep a _ rd n,fI.to l q⟩
 |.lst xs,v,r=>by
  simp only[RF] at r ⊢;obtain⟨a,vs,e,n,rd,q⟩:=r;obtain⟨o,ho⟩:=Rd.some rd;exact⟨a,vs,e,l.lF a o ho n,Rd.keep (λo e=>l.keep a o e n) rd,fI.to l q⟩
 |.obj c ns xs,v,r=>by
  simp only[RF] at r ⊢;obtain⟨a,dx,fs,e,n,ho,q1,q⟩:=r;exact⟨a,dx,fs,e,l.lF a _ ho n,l.keep a _ ho n,q1,fI.to l q⟩
 |.tab kvs,v,r=>by
  simp only[RF] at r ⊢;obtain⟨a,o,e,n,q⟩:=r;exact⟨a,o,e,l.lF a _ q n,l.keep a _ q n⟩
 |.cE ks,v,r=>by
  simp only[RF] at r ⊢;obtain⟨a,o,e,n,q⟩:=r;exact⟨a,o,e,l.lF a _ q n,l.keep a _ q n⟩
 |.eZ ns,v,r=>by
  simp only[RF] at r ⊢;obtain⟨a,e,q⟩:=r;exact⟨a,e,q.imp (λ⟨n,o,h⟩=>⟨l.lF a _ h n,o,l.keep a _ h n⟩) id⟩
theorem fI.to   (l:Let L H L' H'):∀{xs:List FV}{vs:List V},fI ct L H xs vs->fI ct L' H' xs vs
 |[],_,r=>by simpa only[fI] using r
 |x::xs,vs,r=>by
  simp only[fI] at r ⊢;obtain⟨v,t,e,q1,q2⟩:=r;exact⟨v,t,e,RF.to l q1,fI.to l q2⟩
end
mutual
theorem RV.to    (l:Let L H L' H'):∀{x:MV}{v:V},RV ct μ L H x v->RV ct (μ++ν) L' H' x v
 |.f x,v,r=>by simp only[RV] at r ⊢;exact RF.to l r
 |.ref i,v,r=>by
  simp only[RV] at r ⊢;obtain⟨b,e,q⟩:=r;exact⟨b,by rw[ub (xa.mp e).1];exact e,q⟩
 |.tup xs,v,r=>by
  simp only[RV] at r ⊢;obtain⟨a,vs,e,n,rd,q⟩:=r;exact⟨a,vs,e,l.lF a _ rd n,l.keep a _ rd n,ay.to l q⟩
 |.exc _,v,r=>by
  simp only[RV] at r ⊢;obtain⟨a,e,n,q⟩:=r;exact⟨a,e,l.lF a _ q n,l.keep a _ q n⟩
theorem ay.to    (l:Let L H L' H'):∀{xs:List MV}{vs:List V},ay ct μ L H xs vs->ay ct (μ++ν) L' H' xs vs
 |[],_,r=>by simpa only[ay] using r
 |x::xs,vs,r=>by
  simp only[ay] at r ⊢;obtain⟨v,t,e,q1,q2⟩:=r;exact⟨v,t,e,RV.to l q1,ay.to l q2⟩
end
theorem RV.ext      (e:Ext μ h H μ' h' H')(r:RV ct μ (bg μ h) H x v):RV ct μ' (bg μ' h') H' x v:=by
 obtain⟨ν,q⟩:=e.pre;subst q;exact RV.to e.let r
theorem ay.ext      (e:Ext μ h H μ' h' H')(r:ay ct μ (bg μ h) H x v):ay ct μ' (bg μ' h') H' x v:=by
 obtain⟨ν,q⟩:=e.pre;subst q;exact ay.to e.let r
theorem ay.length   :∀{xs:List MV}{vs:List V},ay ct μ L H xs vs->vs.length=xs.length
 |[],_,r=>by simp only[ay] at r;simp[r]
 |x::xs,vs,r=>by
  simp only[ay] at r;obtain⟨v,t,e,_,q⟩:=r;simp[e,ay.length q]
theorem ay.get   :∀{xs:List MV}{vs:List V}{i:Nat}{x:MV},ay ct μ L H xs vs->xs[i]?=some x->∃ v,vs[i]?=some v/\RV ct μ L H x v
 |[],_,_,_,_,e=>by simp at e
 |x::xs,vs,0,y,r,e=>by
  simp only[ay] at r;obtain⟨v,t,q,r1,_⟩:=r;simp at e;subst e;exact⟨v,by simp[q],r1⟩
 |x::xs,vs,i+1,y,r,e=>by
  simp only[ay] at r;obtain⟨v,t,q,_,r2⟩:=r;obtain⟨u,h1,h2⟩:=ay.get (i:=i) r2 (by simpa using e);exact⟨u,by simp[q,h1],h2⟩
theorem ay.get'{μ:List ae}{L:ae->Prop}{H:Hp}{xs:List MV}{vs:List V}{i:Nat}{v:V}(r:ay ct μ L H xs vs)(e:vs[i]?=some v):∃ x,xs[i]?=some x/\RV ct μ L H x v:=by
 have hl:=r.length;have hi:i<xs.length:=by rw[<- hl];exact(xa.mp e).1
 obtain⟨u,h1,h2⟩:=r.get (i:=i) (x:=xs[i]) (by simp[hi]);rw[e] at h1;cases h1;exact⟨_,by simp[hi],h2⟩
theorem ay.cons        (a:RV ct μ L H x v)(b:ay ct μ L H xs vs):ay ct μ L H (x::xs) (v::vs):=by
 simp only[ay];exact⟨v,vs,rfl,a,b⟩
theorem ay.nil   :ay ct μ L H [] []:=by simp only[ay]
theorem ay.append   :∀{xs ys:List MV}{vs ws:List V},ay ct μ L H xs vs->ay ct μ L H ys ws->ay ct μ L H (xs++ys) (vs++ws)
 |[],_,_,_,r,s=>by simp only[ay] at r;subst r;exact s
 |x::xs,ys,vs,ws,r,s=>by
  simp only[ay] at r;obtain⟨v,t,rfl,r1,r2⟩:=r;exact ay.cons r1 (ay.append r2 s)
theorem ay.take   :∀(n:Nat){xs:List MV}{vs:List V},ay ct μ L H xs vs->ay ct μ L H (xs.take n) (vs.take n)
 |0,_,_,_=>ay.nil
 |n+1,[],_,r=>by simp only[ay] at r;subst r;exact ay.nil
 |n+1,x::xs,vs,r=>by
  simp only[ay] at r;obtain⟨v,t,rfl,r1,r2⟩:=r;exact ay.cons r1 (ay.take n r2)
theorem ay.drop   :∀(n:Nat){xs:List MV}{vs:List V},ay ct μ L H xs vs->ay ct μ L H (xs.drop n) (vs.drop n)
 |0,_,_,r=>r
 |n+1,[],_,r=>by simp only[ay] at r;subst r;exact ay.nil
 |n+1,x::xs,vs,r=>by
  simp only[ay] at r;obtain⟨v,t,rfl,r1,r2⟩:=r;exact ay.drop n r2
theorem ay.set      (q:RV ct μ L H y u):∀(n:Nat){xs:List MV}{vs:List V},ay ct μ L H xs vs->ay ct μ L H (xs.set n y) (vs.set n u)
 |_,[],_,r=>by simp only[ay] at r;subst r;exact ay.nil
 |0,x::xs,vs,r=>by
  simp only[ay] at r;obtain⟨v,t,rfl,r1,r2⟩:=r;exact ay.cons q r2
 |n+1,x::xs,vs,r=>by
  simp only[ay] at r;obtain⟨v,t,rfl,r1,r2⟩:=r;exact ay.cons r1 (ay.set q n r2)
theorem ay.Bi   :∀{xs:List FV}{vs:List V},fI ct L H xs vs->ay ct μ L H (xs.map MV.f) vs
 |[],_,r=>by simp only[fI] at r;subst r;exact ay.nil
 |x::xs,vs,r=>by
  simp only[fI] at r;obtain⟨v,t,rfl,r1,r2⟩:=r;exact ay.cons (by simp only[RV];exact r1) (ay.Bi r2)
theorem ay.toF   :∀{xs:List MV}{ys:List FV}{vs:List V},Zm xs=some ys->ay ct μ L H xs vs->fI ct L H ys vs
 |[],ys,vs,e,r=>by simp[Zm] at e;subst e;simp only[ay] at r;subst r;simp only[fI]
 |.f x::xs,ys,vs,e,r=>by
  simp only[Zm,Uc] at e;obtain⟨zs,e1,rfl⟩:=e;simp only[ay] at r;obtain⟨v,t,rfl,r1,r2⟩:=r;simp only[fI];exact⟨v,t,rfl,by simpa only[RV] using r1,ay.toF e1 r2⟩
 |.ref _::_,_,_,e,_=>by simp[Zm] at e
 |.tup _::_,_,_,e,_=>by simp[Zm] at e
 |.exc _::_,_,_,e,_=>by simp[Zm] at e
end
section
variable {ct:Tx}
structure ba (ct:Tx) (μ:List ae) (h:MH) (H:Hp) (σ:L2.St) (σs:aI):Prop where
 len:σ.length=σs.length
 at_:∀(i:Nat)(m:MV),σs[i]?=some (some m)->∃ v,σ[i]?=some (some v)/\RV ct μ (bg μ h) H m v
theorem ba.ext      (e:Ext μ h H μ' h' H')(r:ba ct μ h H σ σs):ba ct μ' h' H' σ σs :=
 ⟨r.len,λi m q=>let ⟨v,a,b⟩:=r.at_ i m q;⟨v,a,b.ext e⟩⟩
theorem ba.set        (i)(r:ba ct μ h H σ σs)(q:RV ct μ (bg μ h) H m v):ba ct μ h H (σ.set i (some v)) (σs.set i (some m)):=by
 refine⟨by simp[r.len],λj m' e=>?_⟩;by_cases hj:i=j
 ·subst hj;have hi:i<σs.length:=by
   have:=(xa.mp e).1;simpa using this
  rw[uf hi] at e;cases e;exact⟨v,by rw[uf (by rw[r.len];exact hi)],q⟩
 ·rw[we hj] at e;obtain⟨u,a,b⟩:=r.at_ j m' e;exact⟨u,by rw[we hj];exact a,b⟩
def Po{α:Type}(ct:Tx)(E:XK)(r:R α)(μ:List ae)(h:MH)(H:Hp)(k:α->List ae->MH->Hp->Prop):Prop:=match r with
 |.ok x h'=>∀ μ' H',Ext μ h H μ' h' H'->Rel ct μ' h' H'->k x μ' h' H'
 |.exc c h'=>∀ μ' H',Ext μ h H μ' h' H'->Rel ct μ' h' H'->E (.ref (ct c)) none H'
 |.stuck=>False
section
variable {α β:Type} {E:XK} {μ μ1:List ae} {h h1:MH} {H H1:Hp}
theorem Po.start   (e:Ext μ h H μ1 h1 H1)(p:Po ct E r μ h H k):Po ct E r μ1 h1 H1 k:=by
 cases r with
 |ok x h'=>exactλμ' H' e' r'=>p μ' H' (e.trans e') r'
 |exc c h'=>exactλμ' H' e' r'=>p μ' H' (e.trans e') r'
 |stuck=>exact p
theorem Po.bind    (p:Po ct E (r.bind g) μ h H k):Po ct E r μ h H λx μ1 h1 H1=>Ext μ h H μ1 h1 H1/\Rel ct μ1 h1 H1/\Po ct E (g x h1) μ1 h1 H1 k:=by
 cases r with
 |ok x h'=>exactλμ' H' e' r'=>⟨e',r',Po.start (r:=g x h') e' p⟩
 |exc c h'=>exact p
 |stuck=>exact p
theorem Po.imp   (p:Po ct E r μ h H k)(f:∀ x μ1 h1 H1,k x μ1 h1 H1->k' x μ1 h1 H1):Po ct E r μ h H k':=by
 cases r with
 |ok x h'=>exactλμ' H' e' r'=>f _ _ _ _ (p μ' H' e' r')
 |exc c h'=>exact p
 |stuck=>exact p
theorem Po.opt    (p:Po ct E (opt o g) μ h H k):∃ x,o=some x/\Po ct E (g x) μ h H k:=by
 cases o with
 |none=>exact p.elim
 |some x=>exact⟨x,rfl,p⟩
theorem Po.now   (rel:Rel ct μ h H)(p:Po ct E (.ok x h) μ h H k):k x μ h H:=p μ H (Ext.refl _ _ _) rel
theorem Po.tD    (p:Po ct E (.ok x h') μ h H k)   (e:Ext μ h H μ' h' H')(rel:Rel ct μ' h' H'):k x μ' h' H':=p μ' H' e rel
end
def kV(ct:Tx)(Q:VK):MV->List ae->MH->Hp->Prop:=λm μ h H=>∀ v,RV ct μ (bg μ h) H m v->Q v H
def kVs(ct:Tx)(Q:List V->Hp->Prop):List MV->List ae->MH->Hp->Prop:=λm μ h H=>∀ v,ay ct μ (bg μ h) H m v->Q v H
section
variable (ct) (Ra:L2.St->Prop) (E:XK)
noncomputable def lE(ev:aI->MH->R MV):TE:=λσ H Q=>∃ μ h σs,Rel ct μ h H/\ba ct μ h H σ σs/\Ra σ/\Po ct E (ev σs h) μ h H (kV ct Q)
noncomputable def lT(ev:aI->MH->R Bool):TT:=λσ H Q=>∃ μ h σs,Rel ct μ h H/\ba ct μ h H σ σs/\Ra σ/\Po ct E (ev σs h) μ h H λb _ _ H'=>Q b H'
noncomputable def lA(ev:aI->MH->R (List MV)):TA:=λσ H Q=>∃ μ h σs,Rel ct μ h H/\ba ct μ h H σ σs/\Ra σ/\Po ct E (ev σs h) μ h H (kVs ct Q)
noncomputable def lO(ev:aI->MH->R (Option Int)):TO:=λσ H Q=>∃ μ h σs,Rel ct μ h H/\ba ct μ h H σ σs/\Ra σ/\Po ct E (ev σs h) μ h H λb _ _ H'=>Q b H'
end
section
variable {Ra:L2.St->Prop} {E:XK} {μ:List ae} {h:MH} {H:Hp} {σ:L2.St} {σs:aI} {β:Type}
theorem lE.mk     (rel:Rel ct μ h H)(aF:ba ct μ h H σ σs)(ra:Ra σ)(p:Po ct E ((ev σs h).bind g) μ h H k)
  (f:∀ m v μ1 h1 H1,Ext μ h H μ1 h1 H1->Rel ct μ1 h1 H1->ba ct μ1 h1 H1 σ σs->RV ct μ1 (bg μ1 h1) H1 m v->Po ct E (g m h1) μ1 h1 H1 k->Q v H1):lE ct Ra E ev σ H Q :=
 ⟨μ,h,σs,rel,aF,ra,(Po.bind p).imp λm μ1 h1 H1 ⟨e1,r1,p1⟩ v rv=>f m v μ1 h1 H1 e1 r1 (aF.ext e1) rv p1⟩
theorem lT.mk     (rel:Rel ct μ h H)(aF:ba ct μ h H σ σs)(ra:Ra σ)(p:Po ct E ((ev σs h).bind g) μ h H k)
  (f:∀ m μ1 h1 H1,Ext μ h H μ1 h1 H1->Rel ct μ1 h1 H1->ba ct μ1 h1 H1 σ σs->Po ct E (g m h1) μ1 h1 H1 k->Q m H1):lT ct Ra E ev σ H Q :=
 ⟨μ,h,σs,rel,aF,ra,(Po.bind p).imp λm μ1 h1 H1 ⟨e1,r1,p1⟩=>f m μ1 h1 H1 e1 r1 (aF.ext e1) p1⟩
theorem lA.mk     (rel:Rel ct μ h H)(aF:ba ct μ h H σ σs)(ra:Ra σ)(p:Po ct E ((ev σs h).bind g) μ h H k)
  (f:∀ m v μ1 h1 H1,Ext μ h H μ1 h1 H1->Rel ct μ1 h1 H1->ba ct μ1 h1 H1 σ σs->ay ct μ1 (bg μ1 h1) H1 m v->Po ct E (g m h1) μ1 h1 H1 k->Q v H1):lA ct Ra E ev σ H Q :=
 ⟨μ,h,σs,rel,aF,ra,(Po.bind p).imp λm μ1 h1 H1 ⟨e1,r1,p1⟩ v rv=>f m v μ1 h1 H1 e1 r1 (aF.ext e1) rv p1⟩
theorem lO.mk     (rel:Rel ct μ h H)(aF:ba ct μ h H σ σs)(ra:Ra σ)(p:Po ct E ((ev σs h).bind g) μ h H k)
  (f:∀ m μ1 h1 H1,Ext μ h H μ1 h1 H1->Rel ct μ1 h1 H1->ba ct μ1 h1 H1 σ σs->Po ct E (g m h1) μ1 h1 H1 k->Q m H1):lO ct Ra E ev σ H Q :=
 ⟨μ,h,σs,rel,aF,ra,(Po.bind p).imp λm μ1 h1 H1 ⟨e1,r1,p1⟩=>f m μ1 h1 H1 e1 r1 (aF.ext e1) p1⟩
end
section
variable {μ:List ae} {h:MH} {H:Hp}
theorem bg.has(rel:Rel ct μ h H)  (l:bg μ h b):∃ o,H b=some o:=let ⟨i,_,e,_,_⟩:=l;rel.has b (We e)
theorem Rel.fresh(rel:Rel ct μ h H)  (hp:H p=none):p∉μ:=λz=>by obtain⟨o,e⟩:=rel.has p z;rw[hp] at e;cases e
theorem Ext.new(rel:Rel ct μ h H)  (hp:H p=none)(o):Ext μ h H μ h (upd H p o) :=
 ⟨⟨[],by simp⟩,λb u e _=>by rw[Qc (Qe e hp)];exact e,λb l=>.inl l⟩
theorem bM.to      (l:Let L H L' H')(kb:c≠.dead->H' b=H b)(r:bM ct μ L H b c):bM ct (μ++ν) L' H' b c:=by
 cases c with
 |lst xs =>
  obtain⟨vs,e,q⟩:=r;exact⟨vs,by rw[kb (λz=>nomatch z)];exact e,ay.to l q⟩
 |obj c fs =>
  obtain⟨dx,gs,e,q1,q⟩:=r;exact⟨dx,gs,by rw[kb (λz=>nomatch z)];exact e,q1,ay.to l q⟩
 |uS ks=>exact(kb (λz=>nomatch z)).trans r
 |tab ks=>exact(kb (λz=>nomatch z)).trans r
 |cE ks=>exact(kb (λz=>nomatch z)).trans r
 |code =>
  obtain⟨e,r⟩:=r;have kb:=kb (λz=>nomatch z);refine⟨e,r.elim (λr=>.inl (kb.trans r)) λ⟨c',n1,n2,r1,r2⟩=>.inr ⟨c',n1,l.lF _ _ r2 n2,kb.trans r1,l.keep _ _ r2 n2⟩⟩
 |dead=>trivial
theorem Rel.new(rel:Rel ct μ h H)  (hp:H p=none)(o):Rel ct μ h (upd H p o):=by
 refine⟨rel.len,rel.nd,λb hb=>?_,λi b c e1 e2=>?_⟩
 ·obtain⟨u,e⟩:=rel.has b hb;exact⟨u,by rw[Qc (Qe e hp)];exact e⟩
 ·have:=bM.to (ν:=[]) (Ext.new rel hp o).let (b:=b) (λ_=>by
   obtain⟨u,e⟩:=rel.has b (We e1);exact Qc (Qe e hp)) (rel.cells i b c e1 e2)
  simpa using this
theorem bg.app   (hl:μ.length=h.length)   (l:bg (μ++[p]) (h++[c]) b):bg μ h b\/b=p:=by
 obtain⟨i,d,e1,e2,nd⟩:=l;by_cases hi:i<μ.length
 ·rw[ub hi] at e1;rw[ub (by lia)] at e2;exact .inl ⟨i,d,e1,e2,nd⟩
 ·rw[Ve (by lia)] at e1;have:i-μ.length=0:=by
   have:=(xa.mp e1).1;simp at this;lia
  rw[this] at e1;simp at e1;exact .inr e1.symm
theorem Ext.cell(rel:Rel ct μ h H)  (hp:H p=none)(c)(o):Ext μ h H (μ++[p]) (h++[c]) (upd H p o) :=
 ⟨⟨[p],rfl⟩,λb u e _=>by rw[Qc (Qe e hp)];exact e,λb l=>(bg.app rel.len l).imp id λe=>by rw[e];exact hp⟩
theorem Rel.cell(rel:Rel ct μ h H)  (hp:H p=none)   (q:bM ct (μ++[p]) (bg (μ++[p]) (h++[c])) (upd H p o) p c):Rel ct (μ++[p]) (h++[c]) (upd H p o):=by
 have hn:=rel.fresh hp;refine⟨by simp[rel.len],?_,λb hb=>?_,λi b d e1 e2=>?_⟩
 ·rw[Wl];exact⟨rel.nd,by simp,λa ha b hb e=>by simp at hb;subst hb;subst e;exact hn ha⟩
 ·rcases vf.mp hb with hb|hb
  ·obtain⟨u,e⟩:=rel.has b hb;exact⟨u,by rw[Qc (Qe e hp)];exact e⟩
  ·simp at hb;subst hb;exact⟨o,zf⟩
 ·by_cases hi:i<μ.length
  ·rw[ub hi] at e1;rw[ub (by have:=rel.len;lia)] at e2;exact bM.to (Ext.cell rel hp c o).let (λ_=>by
    obtain⟨u,e⟩:=rel.has b (We e1);exact Qc (Qe e hp)) (rel.cells i b d e1 e2)
  ·rw[Ve (by lia)] at e1;rw[Ve (by have:=rel.len;lia)] at e2;have:i-μ.length=0:=by
    have:=(xa.mp e1).1;simp at this;lia
   have h2:i-h.length=0:=by rw[<- rel.len];exact this
   rw[this] at e1;rw[h2] at e2;simp at e1 e2;subst e1;subst e2;exact q
theorem bg.set    (e:h[i]?=some c)(hc:c≠.dead)(l:bg μ (h.set i c') b):bg μ h b:=by
 obtain⟨j,d,e1,e2,nd⟩:=l;by_cases hj:i=j
 ·subst hj;exact⟨i,c,e1,e,hc⟩
 ·rw[we hj] at e2;exact⟨j,d,e1,e2,nd⟩
theorem Ext.set(rel:Rel ct μ h H)    (e1:μ[i]?=some b)(e2:h[i]?=some c)(hc:c≠.dead)(c')(o):Ext μ h H μ (h.set i c') (upd H b o) :=
 ⟨⟨[],by simp⟩,λd u e n=>by rw[Qc (λ(z:d=b)=>n (by rw[z];exact⟨i,c,e1,e2,hc⟩))];exact e,λd l=>.inl (bg.set e2 hc l)⟩
theorem Rel.set(rel:Rel ct μ h H)    (e1:μ[i]?=some b)(e2:h[i]?=some c)(hc:c≠.dead)   (q:bM ct μ (bg μ (h.set i c')) (upd H b o) b c'):Rel ct μ (h.set i c') (upd H b o):=by
 refine⟨by simp[rel.len],rel.nd,λd hd=>?_,λj d u q1 q2=>?_⟩
 ·by_cases kS:d=b
  ·exact⟨o,by rw[kS];exact zf⟩
  ·obtain⟨u,e⟩:=rel.has d hd;exact⟨u,by rw[Qc kS];exact e⟩
 ·by_cases hj:i=j
  ·subst hj;rw[e1] at q1;cases q1;rw[uf (xa.mp e2).1] at q2;cases q2;exact q
  ·rw[we hj] at q2;have ne:d≠b:=λz=>by
    subst z;exact hj ((vB (xa.mp e1).1 rel.nd).mp (e1.trans q1.symm))
   have:=bM.to (ν:=[]) (Ext.set rel e1 e2 hc c' o).let (b:=d) (λ_=>Qc ne) (rel.cells j d u q1 q2);simpa using this
end
end
section
variable {ct:Tx}
section
variable {μ:List ae} {h:MH} {H:Hp}
theorem FP    (e:(kill as h)[i]?=some c):(i∈as/\c=.dead)\/(i∉as/\h[i]?=some c):=by
 unfold kill at e;rw[Up] at e;cases q:h[i]? with
 |none=>rw[q] at e;cases e
 |some d =>
  rw[q] at e;by_cases hi:i∈as
  ·simp[hi] at e;exact .inl ⟨hi,e.symm⟩
  ·simp[hi] at e;subst e;exact .inr ⟨hi,rfl⟩
theorem bg.kill   (l:bg μ (kill as h) b):bg μ h b:=by
 obtain⟨i,c,e1,e2,nd⟩:=l
 rcases FP e2 with ⟨_,z⟩|⟨_,z⟩
 ·exact absurd z nd
 ·exact⟨i,c,e1,z,nd⟩
theorem Ext.kill(as):Ext μ h H μ (kill as h) H:=⟨⟨[],by simp⟩,λ_ _ e _=>e,λb l=>.inl l.kill⟩
theorem Rel.kill(rel:Rel ct μ h H)(as):Rel ct μ (kill as h) H:=by
 refine⟨by rw[rel.len];simp[MP.kill],rel.nd,rel.has,λi b c e1 e2=>?_⟩
 rcases FP e2 with ⟨_,z⟩|⟨_,z⟩
 ·subst z;trivial
 ·have:=bM.to (ν:=[]) (Ext.kill (H:=H) as).let (b:=b) (λ_=>rfl) (rel.cells i b c e1 z);simpa using this
theorem yQ   (e:Ze h i=some xs):h[i]?=some (.lst xs):=by
 unfold Ze at e;split at e
 next q=>cases e;exact q
 next=>cases e
theorem Rel.lst(rel:Rel ct μ h H)   (e:Ze h i=some xs):∃ b vs,μ[i]?=some b/\H b=some (.lst vs)/\ay ct μ (bg μ h) H xs vs:=by
 have e2:=yQ e;have hi:i<μ.length:=by rw[rel.len];exact(xa.mp e2).1
 obtain⟨vs,q1,q2⟩:=rel.cells i μ[i] (.lst xs) (by simp[hi]) e2;exact⟨_,vs,by simp[hi],q1,q2⟩
theorem yct  (rel:Rel ct μ h H)   (e:μ[i]?=some b)(hi:i∈as):¬ bg μ (MP.kill as h) b:=λ⟨j,c,e1,e2,nd⟩=>by
 have:i=j:=(vB (xa.mp e).1 rel.nd).mp (e.trans e1.symm);subst this
 rcases FP e2 with ⟨_,z⟩|⟨z,_⟩
 ·exact nd z
 ·exact z hi
theorem Li  :∀{xs:List MV}{ys:List FV}{vs:List V},xs.mapM g=some ys->ay ct μ (bg μ h) H xs vs ->
  (∀ x∈xs,∀ y v,g x=some y->RV ct μ (bg μ h) H x v->RF ct (bg μ (MP.kill as h)) H y v)->fI ct (bg μ (MP.kill as h)) H ys vs
 |[],ys,vs,e,r,_=>by
  simp at e;subst e;simp only[ay] at r;subst r;simp only[fI]
 |x::xs,ys,vs,e,r,f=>by
  simp only[uq,Wv,wb,jc,Kc.injEq] at e;obtain⟨y,e1,zs,e2,rfl⟩:=e;simp only[ay] at r;obtain⟨v,t,rfl,r1,r2⟩:=r;simp only[fI];exact⟨v,t,rfl,f x (by simp) y v e1 r1,Li e2 r2 λz hz=>f z (by simp[hz])⟩
theorem Ky(rel:Rel ct μ h H) :∀(n:Nat)(m:MV)(x:FV)(v:V),(∀ a∈zt h n m,a∈as)->Qq h n m=some x->RV ct μ (bg μ h) H m v->RF ct (bg μ (MP.kill as h)) H x v
 |0,m,x,v,_,e,_=>by simp[Qq] at e
 |n+1,.f y,x,v,_,e,r=>by
  simp[Qq] at e;subst e;simp only[RV] at r;exact RF.to (Ext.kill (H:=H) as).let r
 |n+1,.tup xs,x,v,hs,e,r=>by
  simp only[Qq,Uc] at e;obtain⟨ys,e1,rfl⟩:=e;simp only[RV] at r;obtain⟨a,vs,rfl,na,rd,q⟩:=r;simp only[RF];refine⟨a,vs,rfl,λl=>na l.kill,rd,Li e1 q λz hz y u ez ru=>Ky rel n z y u (λa ha=>hs a ?_) ez ru⟩;simp only[zt,Wm];exact⟨z,hz,ha⟩
 |n+1,.ref i,x,v,hs,e,r=>by
  simp only[Qq,wb,Uc] at e;obtain⟨xs,e0,ys,e1,rfl⟩:=e;simp only[RV] at r;obtain⟨b,eb,rfl⟩:=r;obtain⟨b',vs,i7,hb,q⟩:=rel.lst e0;rw[eb] at i7;cases i7;simp only[RF];refine⟨b,vs,rfl,yct rel eb (hs i (by simp[zt])),.inl hb,Li e1 q λz hz y u ez ru=>Ky rel n z y u (λa ha=>hs a ?_) ez ru⟩;simp only[zt,e0,ux,Wb,Wm];exact .inr ⟨z,hz,ha⟩
 |n+1,.exc _,x,v,_,e,_=>by simp[Qq] at e
theorem Nr     (rel:Rel ct μ h H)(r:RV ct μ (bg μ h) H m v)(p:Po ct E (qN m h) μ h H k) :
  ∃ x h',Ext μ h H μ h' H/\Rel ct μ h' H/\RV ct μ (bg μ h') H (.f x) v/\k (.f x) μ h' H:=by
 unfold qN at p;obtain⟨x,e,p⟩:=p.opt;refine⟨x,_,Ext.kill _,rel.kill _,?_,p.tD (Ext.kill _) (rel.kill _)⟩;simp only[RV];exact Ky rel 5 m x v (λa ha=>ha) e r
end
mutual
def oG(n:Nat):MV->Prop
 |.ref i=>i<n
 |.tup xs=>gB n xs
 |_=>True
def gB(n:Nat):List MV->Prop
 |[]=>True
 |x::xs=>oG n x/\gB n xs
end
mutual
theorem RV.ou   :∀{m:MV}{v:V},RV ct μ L H m v->oG μ.length m
 |.f _,_,_=>by simp only[oG]
 |.ref i,v,r=>by
  simp only[RV] at r;obtain⟨b,e,_⟩:=r;simp only[oG];exact(xa.mp e).1
 |.tup xs,v,r=>by
  simp only[RV] at r;obtain⟨a,vs,_,_,_,q⟩:=r;simp only[oG];exact ay.ou q
 |.exc _,_,_=>by simp only[oG]
theorem ay.ou   :∀{xs:List MV}{vs:List V},ay ct μ L H xs vs->gB μ.length xs
 |[],_,_=>by simp only[gB]
 |x::xs,vs,r=>by
  simp only[ay] at r;obtain⟨v,t,_,r1,r2⟩:=r;simp only[gB];exact⟨RV.ou r1,ay.ou r2⟩
end
mutual
theorem RV.cut    (l:∀ b,L' b->L b):∀{m:MV}{v:V},oG μ.length m->RV ct (μ++ν) L H m v->RV ct μ L' H m v
 |.f x,v,_,r=>by simp only[RV] at r ⊢;exact RF.to ⟨λ_ _ e _=>e,λb _ _ n z=>n (l b z)⟩ r
 |.ref i,v,b,r=>by
  simp only[RV] at r ⊢;simp only[oG] at b;obtain⟨c,e,q⟩:=r;rw[ub b] at e;exact⟨c,e,q⟩
 |.tup xs,v,b,r=>by
  simp only[RV] at r ⊢;simp only[oG] at b;obtain⟨a,vs,e,n,rd,q⟩:=r;exact⟨a,vs,e,λz=>n (l a z),rd,ay.cut l b q⟩
 |.exc _,v,_,r=>by
  simp only[RV] at r ⊢;obtain⟨a,e,n,q⟩:=r;exact⟨a,e,λz=>n (l a z),q⟩
theorem ay.cut    (l:∀ b,L' b->L b):∀{xs:List MV}{vs:List V},gB μ.length xs->ay ct (μ++ν) L H xs vs->ay ct μ L' H xs vs
 |[],vs,_,r=>by simpa only[ay] using r
 |x::xs,vs,b,r=>by
  simp only[ay] at r ⊢;simp only[gB] at b;obtain⟨v,t,e,r1,r2⟩:=r;exact⟨v,t,e,RV.cut l b.1 r1,ay.cut l b.2 r2⟩
end
theorem gB.flat(n):∀ ys:List FV,gB n (ys.map MV.f)
 |[]=>by simp only[Xl,gB]
 |y::ys=>by simp only[Va,gB,oG];exact⟨trivial,gB.flat n ys⟩
def KR(n:Nat):Cell->Prop
 |.lst xs=>gB n xs
 |.obj _ fs=>gB n (fs.map um)
 |.uS _=>True
 |.tab _=>True
 |.cE _=>True
 |.code=>True
 |.dead=>True
theorem bM.ou      (r:bM ct μ L H b c):KR μ.length c:=by
 cases c with
 |lst xs=>obtain⟨vs,_,q⟩:=r;exact q.ou
 |obj c fs=>obtain⟨dx,gs,_,_,q⟩:=r;exact q.ou
 |uS ks=>trivial
 |tab ks=>trivial
 |cE ks=>trivial
 |code=>trivial
 |dead=>trivial
theorem jW.ou   (r:jW c):KR n c:=by
 cases c with
 |lst xs=>obtain⟨ys,rfl⟩:=r;exact gB.flat n ys
 |obj c fs =>
  obtain⟨ys,rfl⟩:=r;show gB n _;rw[Ue];have:=gB.flat n (ys.map um);rw[Ue] at this;exact this
 |uS ks=>trivial
 |tab ks=>trivial
 |cE ks=>trivial
 |code=>trivial
 |dead=>trivial
theorem bM.cut      (l:∀ b,L' b->L b)(k:KR μ.length c)(r:bM ct (μ++ν) L H b c):bM ct μ L' H b c:=by
 cases c with
 |lst xs=>obtain⟨vs,e,q⟩:=r;exact⟨vs,e,ay.cut l k q⟩
 |obj c fs=>obtain⟨dx,gs,e,q1,q⟩:=r;exact⟨dx,gs,e,q1,ay.cut l k q⟩
 |uS ks=>exact r
 |tab ks=>exact r
 |cE ks=>exact r
 |code=>exact⟨r.1,r.2.imp id λ⟨c',n1,n2,r⟩=>⟨c',n1,λz=>n2 (l _ z),r⟩⟩
 |dead=>trivial
theorem O0:∀{xs:List MV}{ys:List FV},Zm xs=some ys->xs=ys.map MV.f
 |[],ys,e=>by simp[Zm] at e;subst e;rfl
 |.f x::xs,ys,e=>by
  simp only[Zm,Uc] at e;obtain⟨zs,e1,rfl⟩:=e;rw[O0 e1];rfl
 |.ref _::_,_,e=>by simp[Zm] at e
 |.tup _::_,_,e=>by simp[Zm] at e
 |.exc _::_,_,e=>by simp[Zm] at e
section
variable {μ ν:List ae} {h h':MH} {H H':Hp}
theorem bg.cut(hl:μ.length=h.length)  (l:bg μ (h'.take h.length) b):bg (μ++ν) h' b:=by
 obtain⟨i,c,e1,e2,nd⟩:=l;have hi:i<μ.length:=(xa.mp e1).1;rw[vq (by lia)] at e2;exact⟨i,c,by rw[ub hi];exact e1,e2,nd⟩
theorem Ext.cut(hl:μ.length=h.length)(e:Ext μ h H (μ++ν) h' H'):Ext μ h H μ (h'.take h.length) H':=⟨⟨[],by simp⟩,e.keep,λb l=>e.lF b (bg.cut hl l)⟩
theorem Rel.cut(rel:Rel ct μ h H)(t:bZ h h')(bL:Rel ct (μ++ν) h' H'):Rel ct μ (h'.take h.length) H':=by
 refine⟨by rw[rel.len,Ul];have:=t.1;lia,(Wl.mp bL.nd).1,λb hb=>bL.has b (Uf _ hb),λi b c e1 e2=>?_⟩;have hi:i<μ.length:=(xa.mp e1).1;have nY:i<h.length:=by rw[<- rel.len];exact hi
 rw[vq nY] at e2;refine bM.cut (λb l=>bg.cut rel.len l) ?_ (bL.cells i b c (by rw[ub hi];exact e1) e2)
 rcases t.2 i c nY e2 with q|q
 ·exact(rel.cells i b c e1 q).ou
 ·exact jW.ou q
set_option tactic.hygienic true in
theorem Rp     (rel:Rel ct μ h H)(e:Ext μ h H (μ++ν) h' H')(bL:Rel ct (μ++ν) h' H')(r:RV ct (μ++ν) (bg (μ++ν) h') H' m v)(p:Po ct E (ym h m h') μ h H (kV ct Q)):Q v H':=by
 unfold ym at p;split at p
 next t =>
  cases m with
  |f x =>
   refine p μ H' (Ext.cut rel.len e) (rel.cut t bL) v ?_;exact RV.cut (λb l=>bg.cut rel.len l) (by simp only[oG]) r
  |ref a =>
   dsimp only at p;split at p
   next ha =>
    split at p
    next xs ex =>
     split at p
     next ys ey =>
      simp only[RV] at r;obtain⟨b,eb,rfl⟩:=r;obtain⟨b',vs,i7,hb,q⟩:=bL.lst ex;rw[eb] at i7;cases i7;have rc:=rel.cut t bL;have ec:=Ext.cut rel.len e;have nb:b∉μ:=λz=>by
       obtain⟨j,hj,ej⟩:=uu z;have:j=a:=(vB (by simp;lia) bL.nd).mp (by rw[ub hj,eb];simp[hj,ej]);have:=rel.len
       lia
      have lv:∀ d,bg (μ++[b]) (h'.take h.length++[.lst xs]) d->bg (μ++ν) h' d:=λd l=>by
       rcases bg.app (by rw[rc.len]) l with l|l
       ·exact bg.cut rel.len l
       ·subst l;exact⟨a,.lst xs,eb,yQ ex,λz=>nomatch z⟩
      have fl:fI ct (bg (μ++ν) h') H' ys vs:=ay.toF ey q;have MZ:xs=ys.map MV.f:=O0 ey;refine p (μ++[b]) H' ⟨⟨[b],rfl⟩,e.keep,λd l=>e.lF d (lv d l)⟩ ?_ (.ref b) ?_
      ·refine⟨by simp[rc.len],?_,λd hd=>?_,λi d c e1 e2=>?_⟩
       ·rw[Wl];exact⟨rc.nd,by simp,λx hx y hy z=>by simp at hy;subst hy;subst z;exact nb hx⟩
       ·rcases vf.mp hd with hd|hd
        ·exact rc.has d hd
        ·simp at hd;subst hd;exact⟨_,hb⟩
       ·by_cases hi:i<μ.length
        ·rw[ub hi] at e1;rw[ub (by rw[<- rc.len];exact hi)] at e2;have c0:=rc.cells i d c e1 e2;have nY:i<h.length:=by rw[<- rel.len];exact hi
         have uR:=e2;rw[vq nY] at uR;have c1:=bL.cells i d c (by rw[ub hi];exact e1) uR;exact bM.to (ν:=[b]) (L:=bg (μ++[b]) (h'.take h.length++[.lst xs])) ⟨λ_ _ e _=>e,λ_ _ _ n=>n⟩ (λ_=>rfl) (bM.cut lv c0.ou c1)
        ·rw[Ve (by lia)] at e1;rw[Ve (by rw[<- rc.len];lia)] at e2;have z:i-μ.length=0:=by
          have:=(xa.mp e1).1;simp at this;lia
         have z2:i-(h'.take h.length).length=0:=by rw[<- rc.len];exact z
         rw[z] at e1;rw[z2] at e2;simp at e1 e2;subst e1;subst e2;refine⟨vs,hb,?_⟩;rw[MZ];rw[MZ] at lv;exact ay.Bi (fI.to ⟨λ_ _ e _=>e,λd _ _ n l=>n (lv d l)⟩ fl)
      ·simp only[RV];exact⟨b,by rw[<- rel.len];simp,rfl⟩
     next=>exact p (μ++ν) H' e bL v r
    next=>exact p (μ++ν) H' e bL v r
   next=>exact p (μ++ν) H' e bL v r
  |tup xs=>exact p (μ++ν) H' e bL v r
  |exc c=>exact p (μ++ν) H' e bL v r
 next=>exact p (μ++ν) H' e bL v r
theorem QbW    (rel:Rel ct μ h H)(e:Ext μ h H (μ++ν) h' H')(bL:Rel ct (μ++ν) h' H')(p:Po ct E (YL h c h') μ h H k):E (.ref (ct c)) none H':=by
 unfold YL at p;split at p
 next t=>exact p μ H' (Ext.cut rel.len e) (rel.cut t bL)
 next=>exact p (μ++ν) H' e bL
end
end
section
variable {ct:Tx} {X:Cx} {E:XK}
section
variable {μ:List ae} {h:MH} {L:ae->Prop} {H:Hp} {m:MV} {v:V}
theorem yj  (e:yd m=some i):m=.f (.int i):=by
 unfold yd at e;split at e
 next=>cases e;rfl
 next=>cases e
theorem Dn  (e:ZE m=some i):m=.f (.bl i):=by
 unfold ZE at e;split at e
 next=>cases e;rfl
 next=>cases e
theorem Qp  (r:RV ct μ L H (.f (.int i)) v):v=.int i:=by simpa only[RV,RF] using r
theorem uY  (r:RV ct μ L H (.f (.bl i)) v):v=.bl i:=by simpa only[RV,RF] using r
theorem YA(i):RV ct μ L H (.f (.int i)) (.int i):=by simp only[RV,RF]
theorem QC(i):RV ct μ L H (.f (.bl i)) (.bl i):=by simp only[RV,RF]
theorem Fo(i):RV ct μ L H (.f (.str i)) (.str i):=by simp only[RV,RF]
theorem wZ:RV ct μ L H (.f .bh) .bh:=by simp only[RV,RF]
set_option tactic.hygienic true in
theorem Zw  (rel:Rel ct μ h H)(e:MP.listOf h m=some xs)(r:RV ct μ (bg μ h) H m v):∃ a vs,v=.ref a/\Rd H a (.lst vs)/\ay ct μ (bg μ h) H xs vs:=by
 unfold MP.listOf at e;split at e
 next ys =>
  cases e;simp only[RV,RF] at r;obtain⟨a,vs,e1,_,rd,q⟩:=r;exact⟨a,vs,e1,rd,ay.Bi q⟩
 next i =>
  obtain⟨b,vs,e1,e2,q⟩:=rel.lst e;simp only[RV] at r;obtain⟨b',e3,rfl⟩:=r;rw[e1] at e3;cases e3;exact⟨b,vs,rfl,.inl e2,q⟩
 next=>cases e
set_option tactic.hygienic true in
theorem yC  (e:Yj m=some xs)(r:RV ct μ L H m v):∃ a vs,v=.ref a/\¬ L a/\H a=some (.tup vs)/\ay ct μ L H xs vs:=by
 unfold Yj at e;split at e
 next ys =>
  cases e;simp only[RV,RF] at r;obtain⟨a,vs,e1,n,rd,q⟩:=r;exact⟨a,vs,e1,n,rd,ay.Bi q⟩
 next ys =>
  cases e;simp only[RV] at r;exact r
 next=>cases e
set_option tactic.hygienic true in
theorem zB  (e:Qa h m=some xs):Yj m=some xs\/MP.listOf h m=some xs\/∃ ns,m=.f (.eZ ns)/\xs=ns.map λi=>MV.f (.int i):=by
 unfold Qa at e;split at e
 next=>exact .inl e
 next=>exact .inr (.inl e)
 next ns=>cases e;exact .inr (.inr ⟨ns,rfl,rfl⟩)
 next=>exact .inl e
 next=>exact .inr (.inl e)
 next=>cases e
def w8(ct:Tx)(H:Hp)(b:Bool)(a:ae)(vs:List V):Prop:=i8 ct.K H b a vs
theorem w8.s{K:Gc}{b:Bool}{a:ae}{vs:List V}(hK:K=ct.K)(q:w8 ct H b a vs):i8 K H b a vs:=by rw[hK];exact q
theorem xR :∀ ns:List Int,ay ct μ L H (ns.map λi=>MV.f (.int i)) (ns.map V.int)
 |[]=>by simp only[Xl,ay]
 |i::ns=>by
  simp only[Va,ay];exact⟨.int i,_,rfl,YA i,xR ns⟩
theorem DH    (q:(¬ L a/\∃ o,H a=some (.eO o (.lst (ns.map V.int))))\/Dk ct.K a ns):fR ct.K H a (ns.map V.int):=q.elim (λ⟨_,o,e⟩=>.inl (.inr ⟨o,e⟩)) .inr
theorem Yt  (rel:Rel ct μ h H)(e:Qa h m=some xs)(r:RV ct μ (bg μ h) H m v):∃ b a vs,v=.ref a/\w8 ct H b a vs/\ay ct μ (bg μ h) H xs vs:=by
 rcases zB e with e|e|⟨ns,rfl,rfl⟩
 ·obtain⟨a,vs,q1,_,q2,q3⟩:=yC e r;exact⟨true,a,vs,q1,ir.of q2,q3⟩
 ·obtain⟨a,vs,q1,q2,q3⟩:=Zw rel e r;exact⟨false,a,vs,q1,.inl q2,q3⟩
 ·simp only[RV,RF] at r;obtain⟨a,rfl,q⟩:=r;exact⟨false,a,_,rfl,DH q,xR ns⟩
theorem Y0(rel:Rel ct μ h H)  (hp:H p=none):¬ bg μ h p:=λl=>by obtain⟨o,e⟩:=bg.has rel l;rw[hp] at e;cases e
theorem zE     (rel:Rel ct μ h H)(r:ay ct μ (bg μ h) H xs vs)(p:Po ct E (Yq fz xs h) μ h H (kV ct Q)):∀ a,H a=none->Q (.ref a) (upd H a (.lst vs)):=by
 intro a ha;cases fz with
 |true =>
  obtain⟨ys,e,p⟩:=Po.opt (o:=Zm xs) (g:=λys=>R.ok (MV.f (.lst ys)) h) p;refine p μ _ (Ext.new rel ha _) (rel.new ha _) _ ?_;simp only[RV,RF];exact⟨a,vs,rfl,Y0 rel ha,.inl zf,fI.to (Ext.new rel ha _).let (ay.toF e r)⟩
 |false =>
  refine p (μ++[a]) _ (Ext.cell rel ha _ _) (rel.cell ha ?_) _ ?_
  ·exact⟨vs,zf,ay.to (Ext.cell rel ha _ _).let r⟩
  ·simp only[RV];exact⟨a,by rw[<- rel.len];simp,rfl⟩
set_option tactic.hygienic true in
theorem zI    (n:¬ L a)(rd:H a=some (.tup vs))(r:ay ct μ L H xs vs):RV ct μ L H (Qi xs) (.ref a):=by
 unfold Qi;split
 next ys e =>
  simp only[RV,RF];exact⟨a,vs,rfl,n,rd,ay.toF e r⟩
 next =>
  simp only[RV];exact⟨a,vs,rfl,n,rd,r⟩
theorem Dh    (rel:Rel ct μ h H)(r:ay ct μ (bg μ h) H xs vs)(p:Po ct E (.ok (Qi xs) h) μ h H (kV ct Q)):∀ a,H a=none->Q (.ref a) (upd H a (.tup vs)):=by
 intro a ha;refine p μ _ (Ext.new rel ha _) (rel.new ha _) _ (zI (Y0 rel ha) zf ?_);have:=ay.to (ν:=[]) (Ext.new rel ha (.tup vs)).let r;simpa using this
end
noncomputable def r2(ct:Tx)(E:XK)(g:MV->MV->MH->R MV):R2:=λx y H Q=>∃ μ h mx my,Rel ct μ h H/\RV ct μ (bg μ h) H mx x/\RV ct μ (bg μ h) H my y/\Po ct E (g mx my h) μ h H (kV ct Q)
theorem NH  (h:i.natAbs<MP.big):Builtin.Int.intBits i<=2^20:=by
 refine intBits_le_iff.mpr (vb h ?_);exact Vp (by decide) (by decide)
theorem zcy:cY X (a7 .Mult) (rI pE λi j=>.int (i*j)):=Be λi j _ _ _ _ _ hc q=>by
 refine mul_int q ?_
 rcases hc with c|c|⟨c,d⟩
 ·exact .of_left (kA (by lia) (by lia))
 ·exact .of_right (kA (by lia) (by lia))
 ·exact .of_bits (NH c) (NH d)
theorem yb6:cY X (a7 .FloorDiv) (rI xK λi j=>.int (i/j)):=Be λi j _ _ _ _ _ hc q=>by
 have h1:(0:Int)<j:=hc.1;refine floordiv_int (by lia) (by rw[WB i (by lia)];exact q) (.inl (PyProof.noPylong_of_log2 ?_));have:j.natAbs≠0:=by lia
 rcases hc.2 with c|c
 ·have:j.natAbs.log2<30:=(Nat.log2_lt (by lia)).mpr (by lia)
  lia
 ·have:j.natAbs.log2<4096:=(Nat.log2_lt (by lia)).mpr c
  lia
noncomputable def AR:R2:=λx y H Q=>∃ l b xs zs,x=.ref l/\y=.ref b/\Rd H l (.lst xs)/\Rd H b (.lst zs)/\xs.length+zs.length<=sizeLine/\∀ p,H p=none->Q (.ref p) (upd H p (.lst (xs++zs)))
theorem QcN:cY X (a7 .Add) AR:=by
 intro pins s σ H x y v u Q I rx ry h;obtain⟨l,b,xs,zs,rfl,rfl,hH,hB,hz,q⟩:=h;cases rx;cases ry;obtain⟨z,aw,n,r,e⟩:=hH.ok I.aS;obtain⟨z2,dJ,n2,r2,e2⟩:=hB.ok I.aS;have hl:=r.length;have B':=r2.length;refine PySem.P.add_list e e2 ?_ (by rw[Xa,Xa];lia);have ea:aw.toArray++dJ.toArray=(aw++dJ).toArray:=by simp
 rw[ea];exact⟨.ref _,_,I.tI (t':=s.toks) (r.append r2) (by rw[ue];lia),rfl,q _ I.fresh⟩
end
theorem QG:MP.aD<=sizeLine:=by decide
section
variable {ct:Tx} {X:Cx} {E:XK}
noncomputable def Er:BO->Operator
 |.add=>.Add | .sub=>.Sub | .mul=>.Mult | .fdiv=>.FloorDiv | .mod=>.Mod | .pow=>.Pow
theorem cY.imp   (o:cY X f r)(k:∀ x y H Q,r' x y H Q->r x y H Q):cY X f r':=λpins s σ H x y v u Q I rx ry q=>o pins s σ H x y v u Q I rx ry (k _ _ _ _ q)
theorem cY.rT   (o:cY X f r)(o':cY X f r'):cY X f λx y H Q=>r x y H Q\/r' x y H Q:=λpins s σ H x y v u Q I rx ry q=>q.elim (o pins s σ H x y v u Q I rx ry) (o' pins s σ H x y v u Q I rx ry)
theorem Z1      (q:r2 ct E (qh fz op) x y H Q):(∃ i j k,x=.int i/\y=.int j/\QL op i j=some k/\Q (.int k) H) \/
  ∃ μ h mx my,yd mx=none/\Rel ct μ h H/\RV ct μ (bg μ h) H mx x/\RV ct μ (bg μ h) H my y/\Po ct E (qh fz op mx my h) μ h H (kV ct Q):=by
 obtain⟨μ,h,mx,my,rel,rx,ry,p⟩:=q;cases ex:yd mx with
 |none=>exact .inr ⟨μ,h,mx,my,ex,rel,rx,ry,p⟩
 |some i =>
  have:=yj ex;subst this;cases ey:yd my with
  |none =>
   unfold qh at p;rw[ex,ey] at p;exact p.elim
  |some j =>
   have:=yj ey;subst this;unfold qh at p;rw[ex,ey] at p;obtain⟨k,e,p⟩:=Po.opt p;refine .inl ⟨i,j,k,Qp rx,Qp ry,e,?_⟩;exact p.now rel _ (YA k)
theorem yc5(fz):cY X (a7 .Sub) (r2 ct E (qh fz .sub)):=cY.imp QcY λx y H Q q=>by
 rcases Z1 q with ⟨i,j,k,e1,e2,e3,q⟩|⟨μ,h,mx,my,ex,rel,rx,ry,p⟩
 ·cases e3;exact⟨i,j,e1,e2,q⟩
 ·exfalso;unfold qh at p;rw[ex] at p;cases ey:yd my <;> rw[ey] at p <;> exact p.elim
theorem QcC(fz):cY X (a7 .FloorDiv) (r2 ct E (qh fz .fdiv)):=cY.imp yb6 λx y H Q q=>by
 rcases Z1 q with ⟨i,j,k,e1,e2,e3,q⟩|⟨μ,h,mx,my,ex,rel,rx,ry,p⟩
 ·simp only[QL] at e3;split at e3
  next c=>cases e3;exact⟨i,j,e1,e2,c,q⟩
  next=>cases e3
 ·exfalso;unfold qh at p;rw[ex] at p;cases ey:yd my <;> rw[ey] at p <;> exact p.elim
theorem qcW(fz):cY X (a7 .Mod) (r2 ct E (qh fz .mod)):=cY.imp ZcV λx y H Q q=>by
 rcases Z1 q with ⟨i,j,k,e1,e2,e3,q⟩|⟨μ,h,mx,my,ex,rel,rx,ry,p⟩
 ·simp only[QL] at e3;split at e3
  next c=>cases e3;exact⟨i,j,e1,e2,c,q⟩
  next=>cases e3
 ·exfalso;unfold qh at p;rw[ex] at p;cases ey:yd my <;> rw[ey] at p <;> exact p.elim
theorem qdd(fz):cY X (a7 .Pow) (r2 ct E (qh fz .pow)):=cY.imp QcT λx y H Q q=>by
 rcases Z1 q with ⟨i,j,k,e1,e2,e3,q⟩|⟨μ,h,mx,my,ex,rel,rx,ry,p⟩
 ·simp only[QL] at e3;split at e3
  next c=>cases e3;exact⟨i,j,e1,e2,⟨c.1,c.2.1,c.2.2⟩,q⟩
  next=>cases e3
 ·exfalso;unfold qh at p;rw[ex] at p;cases ey:yd my <;> rw[ey] at p <;> exact p.elim
noncomputable def AL:R2:=λx y H Q=>∃ l k xs,x=.ref l/\y=.int k/\Rd H l (.lst xs)/\-(2^63)<=k/\k<2^63/\xs.length*k.toNat<=sizeLine/\∀ p,H p=none->Q (.ref p) (upd H p (.lst (va k.toNat xs).flatten))
theorem ycA:cY X (a7 .Mult) AL:=by
 intro pins s σ H x y v u Q I rx ry h;obtain⟨l,k,xs,rfl,rfl,hH,h1,h2,hz,q⟩:=h;cases rx;obtain⟨t,rfl⟩:=ry;obtain⟨z,aw,n,r,e⟩:=hH.ok I.aS;have hl:=r.length;have hlen:aw.toArray.size*k.toNat<=sizeLine:=by rw[Xa,<- hl];exact hz
 have Jy:¬ aw.toArray.size*k.toNat>(2^63-1)/8:=by
  have:(sizeLine:Nat)<=(2^63-1)/8:=by decide
  lia
 have t8:¬(!Builtin.List.listFitsIndex k)=true:=by
  rw[gy h1 h2];exact Xd
 have lQ:¬ Jn (aw.toArray.size*k.toNat)=true:=by
  rw[K1 hlen];exact Xd
 have IE:UI (λx1 x2=>x1++x2) #[] (va (if aw.toArray.isEmpty=true then 0 else k.toNat) aw.toArray)=(va k.toNat aw).flatten.toArray:=by
  have f0:∀ m:Nat,UI (λx1 x2=>x1++x2) #[] (va m aw.toArray)=(va m aw).flatten.toArray:=λm=>by
   have:=NT aw m [];rw[Vf] at this;exact this
  rw[f0];cases aw with
  |nil=>simp
  |cons a r'=>rw[if_neg (by simp)]
 refine wpAny_binaryOp_repeat_ref (T:="list") (U:="int") (by decide) ⟨_,e,rfl⟩ (λs'=>jy s' k t) noFill_list_mul F.fills_int_mul F.slot_int_rmul repeat_list F.slot_int_index.lookup
  (cw F.slot_int_rmul (jy s k t) F.entry_int_rmul (F.args_int_rmul_2 _ _) (int___rmul___int_list k t l aw.toArray n)
   ⟨e,rfl,⟨_,e,rfl⟩,cw F.slot_list_mul ⟨_,e,rfl⟩ F.entry_list_mul (F.args_list_mul_2 _ _) (AutoListH.list___mul___list_int_3 l aw.toArray n k t t8 Jy lQ) ⟨e,?_⟩⟩)
 rw[IE];exact⟨.ref _,_,I.tI (t':=s.toks) (r.rep k.toNat) (by rw[zcE,ww];exact hz),rfl,q _ I.fresh⟩
theorem ay.rep      (r:ay ct μ L H xs vs):∀ n:Nat,ay ct μ L H (va n xs).flatten (va n vs).flatten
 |0=>by simpa using ay.nil
 |n+1=>by simp only[wo,Vs];exact r.append (ay.rep r n)
theorem Yc4(fz):cY X (a7 .Mult) (r2 ct E (qh fz .mul)):=cY.imp (cY.rT zcy ycA) λx y H Q q=>by
 rcases Z1 q with ⟨i,j,k,e1,e2,e3,q⟩|⟨μ,h,mx,my,ex,rel,rx,ry,p⟩
 ·simp only[QL] at e3;split at e3
  next c=>cases e3;exact .inl ⟨i,j,e1,e2,c,q⟩
  next=>cases e3
 ·unfold qh at p;rw[ex] at p;cases ey:yd my with
  |none=>rw[ey] at p;exact p.elim
  |some j =>
   rw[ey] at p;have:=yj ey;subst this;obtain⟨xs,e,p⟩:=Po.opt p;obtain⟨a,vs,rfl,rd,rs⟩:=Zw rel e rx;split at p
   next c =>
    have hl:=rs.length
    right
    refine⟨a,j,vs,rfl,Qp ry,rd,c.1,c.2.1,?_,zE rel (rs.rep _) p⟩;rw[hl];exact xf c.2.2 QG
   next=>exact p.elim
set_option tactic.hygienic true in
theorem Zc8(fz):cY X (a7 .Add) (r2 ct E (qh fz .add)):=cY.imp (cY.rT ycZ (cY.rT QcJ QcN)) λx y H Q q=>by
 rcases Z1 q with ⟨i,j,k,e1,e2,e3,q⟩|⟨μ,h,mx,my,ex,rel,rx,ry,p⟩
 ·cases e3;exact .inl ⟨i,j,e1,e2,q⟩
 ·unfold qh at p;rw[ex] at p;cases ey:yd my with
  |some j=>rw[ey] at p;exact p.elim
  |none =>
   rw[ey] at p;dsimp only at p
   right
   split at p
   next xs ys e1 e2 =>
    split at p
    next c =>
     obtain⟨a,vs,rfl,n1,D9,r1⟩:=yC e1 rx;obtain⟨b,ws,rfl,n2,G3,r2⟩:=yC e2 ry;have h1:=r1.length;have h2:=r2.length;refine .inl ⟨a,b,vs,ws,rfl,rfl,.inl (.inl D9),.inl (.inl G3),λz=>c.1 (vn (by rw[<- h1,z];rfl)),by rw[h1,h2];exact xf c.2 QG,λz=>?_,λz=>Dh rel (r1.append r2) p⟩;have:ys=[]:=vn (by rw[<- h2,z];rfl);subst this;rw[xh] at p;exact p.now rel _ (zI n1 D9 r1)
    next=>exact p.elim
   next =>
    obtain⟨xs,e1,p⟩:=Po.opt p;obtain⟨ys,e2,p⟩:=Po.opt p;split at p
    next c =>
     obtain⟨a,vs,rfl,D9,r1⟩:=Zw rel e1 rx;obtain⟨b,ws,rfl,G3,r2⟩:=Zw rel e2 ry;have h1:=r1.length;have h2:=r2.length;exact .inr ⟨a,b,vs,ws,rfl,rfl,D9,G3,by rw[h1,h2];exact xf c QG,zE rel (r1.append r2) p⟩
    next=>exact p.elim
theorem Yc9(fz):∀ op:BO,cY X (a7 (Er op)) (r2 ct E (qh fz op))
 |.add=>Zc8 fz | .sub=>yc5 fz | .mul=>Yc4 fz | .fdiv=>QcC fz | .mod=>qcW fz | .pow=>qdd fz
end
mutual
noncomputable def fg:FV->PyData
 |.bh=>.none
 |.bl b=>.bool b
 |.int i=>.int i
 |.str s=>.str s
 |.tup xs=>.tuple (Yx xs)
 |.lst xs=>.list (Yx xs)
 |.obj _ _ _=>.none
 |.eZ _=>.none
 |.tab _=>.none
 |.cE _=>.none
noncomputable def Yx:List FV->List PyData
 |[]=>[]
 |x::xs=>fg x::Yx xs
end
theorem NA:∀ xs:List FV,Yx xs=xs.map fg
 |[]=>by simp[Yx]
 |x::xs=>by simp[Yx,NA xs]
section
variable {ct:Tx} {X:Cx} {E:XK}
theorem Ft :∀ xs:List FV,(∀ x∈xs,(fg x).canLay0=true/\(fg x).depth<=n)->Jt (Yx xs)=true/\Gs (Yx xs)<=n
 |[],_=>by simp[Yx,Jt,Gs]
 |x::xs,f=>by
  have h1:=f x (by simp);have h2:=Ft xs λy hy=>f y (by simp[hy]);simp only[Yx,Jt,Gs,h1.1,h2.1,Bool.and_self,true_and];have a1:=h1.2;have a2:=h2.2
  lia
theorem xS:∀(n:Nat)(x:FV),cF n x=true->(fg x).canLay0=true/\(fg x).depth<=n
 |0,x,e=>by cases x <;> simp[cF] at e
 |n+1,.bh,_=>by simp[fg,Kt,jt]
 |n+1,.bl _,_=>by simp[fg,Kt,jt]
 |n+1,.int _,_=>by simp[fg,Kt,jt]
 |n+1,.str s,e=>by
  have e':PyData.strOk s=true:=e;simp[fg,Kt,jt,e']
 |n+1,.tup xs,e=>by
  have q:=Ft (n:=n) xs λx hx=>xS n x (by simp[cF] at e;exact e x hx);have q2:=q.2;simp only[fg,Kt,jt,q.1,true_and]
  lia
 |n+1,.lst xs,e=>by
  have q:=Ft (n:=n) xs λx hx=>xS n x (by simp[cF] at e;exact e x hx);have q2:=q.2;simp only[fg,Kt,jt,q.1,true_and]
  lia
 |n+1,.obj _ _ _,e=>by simp[cF] at e
 |n+1,.eZ _,e=>by simp[cF] at e
 |n+1,.tab _,e=>by simp[cF] at e
 |n+1,.cE _,e=>by simp[cF] at e
theorem QZ  (e:cF 8 x=true):SeqAt.shaped (fg x)=true:=by
 have:=xS 8 x e;unfold SeqAt.shaped;rw[this.1,Vw];exact decide_eq_true (by have:=this.2;lia)
mutual
theorem Ei:∀(n:Nat)(x y:FV),cF n x=true->cF n y=true->Hs (fg x) (fg y)=fO x y
 |0,x,_,e,_=>by cases x <;> simp[cF] at e
 |n+1,.tup xs,.tup ys,e,e'=>by
  simp only[fg,Hs,fO];exact Gv n xs ys (by simpa[cF] using e) (by simpa[cF] using e')
 |n+1,.lst xs,.lst ys,e,e'=>by
  simp only[fg,Hs,fO];exact Gv n xs ys (by simpa[cF] using e) (by simpa[cF] using e')
 |n+1,.bh,y,e,e'=>by cases y <;> simp_all [cF,fg,Hs,fO]
 |n+1,.bl _,y,e,e'=>by cases y <;> simp_all [cF,fg,Hs,fO]
 |n+1,.int _,y,e,e'=>by cases y <;> simp_all [cF,fg,Hs,fO]
 |n+1,.str _,y,e,e'=>by cases y <;> simp_all [cF,fg,Hs,fO]
 |n+1,.tup _,.bh,e,e'=>by simp[fg,Hs,fO]
 |n+1,.tup _,.bl _,e,e'=>by simp[fg,Hs,fO]
 |n+1,.tup _,.int _,e,e'=>by simp[fg,Hs,fO]
 |n+1,.tup _,.str _,e,e'=>by simp[fg,Hs,fO]
 |n+1,.tup _,.lst _,e,e'=>by simp[fg,Hs,fO]
 |n+1,.tup _,.obj _ _ _,e,e'=>by simp[cF] at e'
 |n+1,.tup _,.eZ _,e,e'=>by simp[cF] at e'
 |n+1,.tup _,.tab _,e,e'=>by simp[cF] at e'
 |n+1,.tup _,.cE _,e,e'=>by simp[cF] at e'
 |n+1,.lst _,.bh,e,e'=>by simp[fg,Hs,fO]
 |n+1,.lst _,.bl _,e,e'=>by simp[fg,Hs,fO]
 |n+1,.lst _,.int _,e,e'=>by simp[fg,Hs,fO]
 |n+1,.lst _,.str _,e,e'=>by simp[fg,Hs,fO]
 |n+1,.lst _,.tup _,e,e'=>by simp[fg,Hs,fO]
 |n+1,.lst _,.obj _ _ _,e,e'=>by simp[cF] at e'
 |n+1,.lst _,.eZ _,e,e'=>by simp[cF] at e'
 |n+1,.lst _,.tab _,e,e'=>by simp[cF] at e'
 |n+1,.lst _,.cE _,e,e'=>by simp[cF] at e'
 |n+1,.obj _ _ _,_,e,_=>by simp[cF] at e
 |n+1,.eZ _,_,e,_=>by simp[cF] at e
 |n+1,.tab _,_,e,_=>by simp[cF] at e
 |n+1,.cE _,_,e,_=>by simp[cF] at e
theorem Gv:∀(n:Nat)(xs ys:List FV),(∀ x∈xs,cF n x=true)->(∀ y∈ys,cF n y=true)->Ht (Yx xs) (Yx ys)=mY xs ys
 |n,[],[],_,_=>by simp[Yx,Ht,mY]
 |n,[],_::_,_,_=>by simp[Yx,Ht,mY]
 |n,_::_,[],_,_=>by simp[Yx,Ht,mY]
 |n,x::xs,y::ys,e,e'=>by
  simp only[Yx,Ht,mY];rw[Ei n x y (e x (by simp)) (e' y (by simp)),Gv n xs ys (λz hz=>e z (by simp[hz])) (λz hz=>e' z (by simp[hz]))]
end
mutual
theorem yN      (aS:fQ P w H hp):∀(n:Nat)(x:FV)(v:V)(u:Value),cF n x=true->RF ct L H x v->RelV v u->∃ as,Reads hp u (fg x) as
 |0,x,_,_,e,_,_=>by cases x <;> simp[cF] at e
 |n+1,.bh,v,u,_,r,q=>by simp only[RF] at r;subst r;cases q;exact⟨_,.none⟩
 |n+1,.bl _,v,u,_,r,q=>by simp only[RF] at r;subst r;cases q;exact⟨_,.bool _⟩
 |n+1,.int _,v,u,_,r,q=>by simp only[RF] at r;subst r;obtain⟨t,rfl⟩:=q;exact⟨_,.int _ _⟩
 |n+1,.str _,v,u,_,r,q=>by simp only[RF] at r;subst r;obtain⟨t,rfl⟩:=q;exact⟨_,.str _ _⟩
 |n+1,.tup xs,v,u,e,r,q=>by
  simp only[RF] at r;obtain⟨a,vs,rfl,_,rd,rs⟩:=r;cases q;obtain⟨z,aw,rv,o,e1,e2,k,e3⟩:=(Rd.of rd).ok aS;obtain⟨as,ra⟩:=ZC aS n xs vs aw (by simpa[cF] using e) rs rv;exact⟨as,jB e1 e2 e3 ra⟩
 |n+1,.lst xs,v,u,e,r,q=>by
  simp only[RF] at r;obtain⟨a,vs,rfl,_,rd,rs⟩:=r;cases q;obtain⟨z,aw,k,rv,e1⟩:=rd.ok aS;obtain⟨as,ra⟩:=ZC aS n xs vs aw (by simpa[cF] using e) rs rv;exact⟨_,j9 e1 rfl rfl ra⟩
 |n+1,.obj _ _ _,_,_,e,_,_=>by simp[cF] at e
 |n+1,.eZ _,_,_,e,_,_=>by simp[cF] at e
 |n+1,.tab _,_,_,e,_,_=>by simp[cF] at e
 |n+1,.cE _,_,_,e,_,_=>by simp[cF] at e
theorem ZC      (aS:fQ P w H hp):∀(n:Nat)(xs:List FV)(vs:List V)(us:List Value),(∀ x∈xs,cF n x=true)->fI ct L H xs vs->Vals vs us->∃ as,ReadsAll hp us (Yx xs) as
 |n,[],vs,us,_,r,q=>by simp only[fI] at r;subst r;cases q;exact⟨[],by simpa only[Yx] using ReadsAll.nil⟩
 |n,x::xs,vs,us,e,r,q=>by
  simp only[fI] at r;obtain⟨v,t,rfl,r1,r2⟩:=r;cases q with
  |cons q1 q2 =>
   obtain⟨as,h1⟩:=yN aS n x v _ (e x (by simp)) r1 q1;obtain⟨bs,h2⟩:=ZC aS n xs t _ (λz hz=>e z (by simp[hz])) r2 q2;exact⟨as++bs,by simp only[Yx];exact .cons h1 h2⟩
end
abbrev En:ae->Prop:=λ_=>False
section
variable {μ:List ae} {h:MH} {H:Hp}
theorem qZ :∀{xs:List MV}{ys:List FV}{vs:List V},xs.mapM g=some ys->ay ct μ (bg μ h) H xs vs ->
  (∀ x∈xs,∀ y v,g x=some y->RV ct μ (bg μ h) H x v->RF ct En H y v)->fI ct En H ys vs
 |[],ys,vs,e,r,_=>by
  simp at e;subst e;simp only[ay] at r;subst r;simp only[fI]
 |x::xs,ys,vs,e,r,f=>by
  simp only[uq,Wv,wb,jc,Kc.injEq] at e;obtain⟨y,e1,zs,e2,rfl⟩:=e;simp only[ay] at r;obtain⟨v,t,rfl,r1,r2⟩:=r;simp only[fI];exact⟨v,t,rfl,f x (by simp) y v e1 r1,qZ e2 r2 λz hz=>f z (by simp[hz])⟩
theorem zx(rel:Rel ct μ h H):∀(n:Nat)(m:MV)(x:FV)(v:V),Qq h n m=some x->RV ct μ (bg μ h) H m v->RF ct En H x v
 |0,m,x,v,e,_=>by simp[Qq] at e
 |n+1,.f y,x,v,e,r=>by
  simp[Qq] at e;subst e;simp only[RV] at r;exact RF.to ⟨λ_ _ e _=>e,λ_ _ _ _ z=>z⟩ r
 |n+1,.tup xs,x,v,e,r=>by
  simp only[Qq,Uc] at e;obtain⟨ys,e1,rfl⟩:=e;simp only[RV] at r;obtain⟨a,vs,rfl,na,rd,q⟩:=r;simp only[RF];exact⟨a,vs,rfl,λz=>z,rd,qZ e1 q λz hz y u ez ru=>zx rel n z y u ez ru⟩
 |n+1,.ref i,x,v,e,r=>by
  simp only[Qq,wb,Uc] at e;obtain⟨xs,e0,ys,e1,rfl⟩:=e;simp only[RV] at r;obtain⟨b,eb,rfl⟩:=r;obtain⟨b',vs,i7,hb,q⟩:=rel.lst e0;rw[eb] at i7;cases i7;simp only[RF];exact⟨b,vs,rfl,λz=>z,.inl hb,qZ e1 q λz hz y u ez ru=>zx rel n z y u ez ru⟩
 |n+1,.exc _,x,v,e,_=>by simp[Qq] at e
end
noncomputable def nA:CO->dH
 |.lt=>.Lt | .le=>.LtE | .gt=>.Gt | .ge=>.GtE | .eq=>.Eq | .ne=>.NotEq | .i6=>.In | .v7=>.NotIn
noncomputable def oO(ct:Tx)(op:CO):R2:=λx y H Q=>∃ μ h mx my b,Rel ct μ h H/\RV ct μ (bg μ h) H mx x/\RV ct μ (bg μ h) H my y/\ZH op mx my h=some b/\Q (.bl b) H
theorem Eg     (ho:∀ mx my h,ZH op mx my h=(yd mx).bind λi=>(yd my).bind λj=>sF op i j)(q:oO ct op x y H Q):∃ i j b,x=.int i/\y=.int j/\sF op i j=some b/\Q (.bl b) H:=by
 obtain⟨μ,h,mx,my,b,rel,rx,ry,e,q⟩:=q;rw[ho] at e;simp only[wb] at e;obtain⟨i,e1,j,e2,e3⟩:=e;have:=yj e1;subst this;have:=yj e2;subst this;exact⟨i,j,b,Qp rx,Qp ry,e3,q⟩
theorem Bk:cY X (aM .Lt) (oO ct .lt):=cY.imp A9 λx y H Q q=>by
 obtain⟨i,j,b,e1,e2,e3,q⟩:=Eg (λ_ _ _=>rfl) q;cases e3;exact⟨i,j,e1,e2,q⟩
theorem Bl:cY X (aM .LtE) (oO ct .le):=cY.imp Ba λx y H Q q=>by
 obtain⟨i,j,b,e1,e2,e3,q⟩:=Eg (λ_ _ _=>rfl) q;cases e3;exact⟨i,j,e1,e2,q⟩
theorem Bn:cY X (aM .Gt) (oO ct .gt):=cY.imp Bb λx y H Q q=>by
 obtain⟨i,j,b,e1,e2,e3,q⟩:=Eg (λ_ _ _=>rfl) q;cases e3;exact⟨i,j,e1,e2,q⟩
theorem Bp:cY X (aM .GtE) (oO ct .ge):=cY.imp Bc λx y H Q q=>by
 obtain⟨i,j,b,e1,e2,e3,q⟩:=Eg (λ_ _ _=>rfl) q;cases e3;exact⟨i,j,e1,e2,q⟩
theorem LJ   (e:ly x y=some b):cF 8 x=true/\cF 8 y=true/\fO x y=b:=by
 unfold ly at e;split at e
 next c=>cases e;exact⟨c.1,c.2,rfl⟩
 next=>cases e
theorem Bq(hu:X.A.units+65<dn):cY X (aM .Eq) (oO ct .eq):=by
 intro pins s σ H x y v u Q I rx ry q;obtain⟨μ,h,mx,my,b,rel,r1,r2,e,q⟩:=q;simp only[ZH,wb] at e;obtain⟨a,e1,c,e2,e3⟩:=e;obtain⟨d1,d2,e4⟩:=LJ e3;obtain⟨as,ra⟩:=yN I.aS 8 a x v d1 (zx rel 5 mx a x e1 r1) rx;obtain⟨bs,rb⟩:=yN I.aS 8 c y u d2 (zx rel 5 my c y e2 r2) ry;refine eq_dataH ra rb (QZ d1) (QZ d2) (by lia) ?_;rw[Ei 8 a c d1 d2,e4];exact⟨.bl b,H,I,rfl,q⟩
theorem Bj(hu:X.A.units+65<dn):cY X (aM .NotEq) (oO ct .ne):=by
 intro pins s σ H x y v u Q I rx ry q;obtain⟨μ,h,mx,my,b,rel,r1,r2,e,q⟩:=q;simp only[ZH,wb,Uc] at e;obtain⟨a,e1,c,e2,b',e3,rfl⟩:=e;obtain⟨d1,d2,e4⟩:=LJ e3;obtain⟨as,ra⟩:=yN I.aS 8 a x v d1 (zx rel 5 mx a x e1 r1) rx;obtain⟨bs,rb⟩:=yN I.aS 8 c y u d2 (zx rel 5 my c y e2 r2) ry;refine ne_dataH ra rb (QZ d1) (QZ d2) (by lia) ?_;rw[Ei 8 a c d1 d2,e4];exact⟨.bl _,H,I,rfl,q⟩
end
end SD
end
section
namespace HT
open PySem PyProof.Rows
section
variable {prog:ak} {w:World} {A:Around} {E:Value->ag->Prop} {s:ag}
theorem gJ{t sl:ae}{items:Array Value}{vl vu:Value}{lo hi:Option Int}{Q:Value->ag->Prop}(ht:gQ s.heap t items)(hs:s.heap.IsSliceOf sl vl vu .none)(pl:fB vl lo)(pu:fB vu hi)
  (hw:cy items.size 0 lo=0/\cy items.size items.size hi=items.size) (h:Q (.ref t) s):ah (aj prog w) A (getItem (.ref t) (.ref sl)) Q E s:=by
 obtain⟨os,tT,pQ,Cf⟩:=id hs;have JB:s.TypeIs (.ref sl) "slice":=⟨os,tT,pQ⟩;unfold getItem
 try with_reducible refine av ?_
 first|refine aa (af ?_)|skip
 refine aa (ib ht.typeIs (by decide) ?_);refine aa (aA (name:=jk "__getitem__") ht.typeIs Gf
  (aL Gf ht.typeIs entry_tuple_getitem ?_ (hU _ _)))
 show ah _ _ (Kl (.ref t) >>= _) _ _ s;refine aa (j4 ht ?_);refine aa (bN JB ?_);rw[if_pos (by decide)];refine aa (qO hs pl pu ?_);have Ih:(((cy items.size 0 lo:Nat):Int)==0&&(1:Int)==1&&(cy items.size items.size hi-cy items.size 0 lo)==items.size)=true:=by
  rw[hw.1,hw.2];simp
 show ah _ _ (if(((cy items.size 0 lo:Nat):Int)==0&&(1:Int)==1&&(cy items.size items.size hi-cy items.size 0 lo)==items.size)=true then _ else _) _ _ s;rw[if_pos Ih];unfold Builtin.Tuple.tupleIsExact;refine aa (aa (bN ht.typeIs (af ?_)));rw[if_pos (by decide)]
 first
  |exact aa (bH (aa (af (af ⟨_,rfl,af h⟩))))
  |exact aa (bH (af ⟨_,rfl,af h⟩))
  |exact aa (bH (aa (af ⟨_,rfl,af h⟩)))
end
end HT
namespace SD
open PySem PySem.Spec PyProof.Rows L2 L3 M3 MP
section
variable {ct:Tx} {X:Cx} {E:XK}
theorem zcu    (e:tN x ys=some b):cF 8 x=true/\(∀ y∈ys,cF 8 y=true)/\ys.any (λy=>fO y x)=b:=by
 unfold tN at e;split at e
 next c=>cases e;exact⟨c.1,by simpa using c.2,rfl⟩
 next=>cases e
theorem zcD   (hx:cF 8 x=true)(hy:∀ y∈ys,cF 8 y=true):(Yx ys).any (λy=>Hs y (fg x))=ys.any λy=>fO y x:=by
 rw[NA,List.any_map]
 induction ys with
 |nil=>rfl
 |cons y ys ih =>
  simp only[WF,Vz];rw[Ei 8 y x (hy y (by simp)) hx,ih λz hz=>hy z (by simp[hz])]
theorem NU              (hK:X.K=ct.K)(I:Inv X pins σ H s)(rel:Rel ct μ h H)(rx:RelV x v)(ry:RelV y u)
  (r1:RV ct μ (bg μ h) H mx x) (r2:RV ct μ (bg μ h) H my y) (e1:QP h mx=some a) (e2:Qa h my=some ys) (e3:ys.mapM (QP h)=some bs) (e4:tN a bs=some b) :
  (∃ as wW,(Reads s.heap u (.list (Yx bs)) as\/Reads s.heap u (.tuple (Yx bs)) as)/\Reads s.heap v (fg a) wW)/\Jt (Yx bs)=true/\(fg a).canLay0=true/\Gs (Yx bs)<=8/\(Yx bs).any (λy=>Hs y (fg a))=b:=by
 obtain⟨d1,d2,e5⟩:=zcu e4;obtain⟨wW,ra⟩:=yN I.aS 8 a x v d1 (zx rel 5 mx a x e1 r1) rx;obtain⟨k,p,vs,rfl,sq,rs⟩:=Yt rel e2 r2;cases ry;have rf:fI ct En H bs vs:=qZ e3 rs λz hz y u ez ru=>zx rel 5 z y u ez ru;have ll:=Ft (n:=8) bs λy hy=>xS 8 y (d2 y hy);refine⟨?_,ll.1,(xS 8 a d1).1,ll.2,by rw[zcD d1 d2];exact e5⟩;cases k with
 |true =>
  obtain⟨aw,rv,⟨o,q1,q2,n,q3⟩,_⟩:=I.tuple (show ir X.K H p vs from sq.s hK);obtain⟨as,rb⟩:=ZC I.aS 8 bs vs aw d2 rf rv;exact⟨as,wW,.inr (jB q1 q2 q3 rb),ra⟩
 |false =>
  obtain⟨aw,rv,⟨o,n,q1,q2,_,q3⟩,_⟩:=I.list (show fR X.K H p vs from sq.s hK);obtain⟨as,rb⟩:=ZC I.aS 8 bs vs aw d2 rf rv;exact⟨_,wW,.inl (j9 q1 q2 q3 rb),ra⟩
theorem Bm(hK:X.K=ct.K)(hu:X.A.units+65<dn):cY X (aM .In) (oO ct .i6):=by
 intro pins s σ H x y v u Q I rx ry q;obtain⟨μ,h,mx,my,b,rel,r1,r2,e,q⟩:=q;simp only[ZH,wb] at e;obtain⟨a,e1,ys,e2,bs,e3,e4⟩:=e;obtain⟨⟨as,wW,rb,ra⟩,l1,l2,l3,e5⟩:=NU hK I rel rx ry r1 r2 e1 e2 e3 e4
 rcases rb with rb|rb
 ·exact SeqAt.in_list_reads rb ra l1 l2 (by have:=Wz (Gs (Yx bs)) (fg a).depth;lia) (by rw[e5];exact⟨.bl b,H,I,rfl,q⟩)
 ·exact SeqAt.in_tuple_reads rb ra l1 l2 (by have:=Wz (Gs (Yx bs)) (fg a).depth;lia) (by rw[e5];exact⟨.bl b,H,I,rfl,q⟩)
theorem zcZ(hK:X.K=ct.K)(hu:X.A.units+65<dn):cY X (aM .NotIn) (oO ct .v7):=by
 intro pins s σ H x y v u Q I rx ry q;obtain⟨μ,h,mx,my,b,rel,r1,r2,e,q⟩:=q;simp only[ZH,wb,Uc] at e;obtain⟨a,e1,ys,e2,bs,e3,b',e4,rfl⟩:=e;obtain⟨⟨as,wW,rb,ra⟩,l1,l2,l3,e5⟩:=NU hK I rel rx ry r1 r2 e1 e2 e3 e4
 rcases rb with rb|rb
 ·exact SeqAt.notIn_list_reads rb ra l1 l2 (by have:=Wz (Gs (Yx bs)) (fg a).depth;lia) (by rw[e5];exact⟨.bl _,H,I,rfl,q⟩)
 ·exact SeqAt.notIn_tuple_reads rb ra l1 l2 (by have:=Wz (Gs (Yx bs)) (fg a).depth;lia) (by rw[e5];exact⟨.bl _,H,I,rfl,q⟩)
theorem vX(hK:X.K=ct.K)(hu:X.A.units+65<dn):∀ op:CO,cY X (aM (nA op)) (oO ct op)
 |.lt=>Bk | .le=>Bl | .gt=>Bn | .ge=>Bp | .eq=>Bq hu | .ne=>Bj hu | .i6=>Bm hK hu | .v7=>zcZ hK hu
theorem Lx(n)(i):jX n i=r8 n i:=rfl
noncomputable def Hx(ct:Tx):R2:=λx y H Q=>∃ μ h mx k xs m,Rel ct μ h H/\RV ct μ (bg μ h) H mx x/\y=.int k/\Qa h mx=some xs/\dR xs k=some m/\∀ v,RV ct μ (bg μ h) H m v->Q v H
theorem ycF(hK:X.K=ct.K):xM X (Hx ct):=by
 intro value slice pins s σ H x y v u Q I rx ry q hs;obtain(⟨μ,h,mx,k,xs,m,rel,r,rfl,e1,e2,q⟩):=q;obtain(⟨b,a,vs,rfl,sq,rs⟩):=Yt rel e1 r;unfold dR at e2;rw[wb] at e2;obtain(⟨j,e3,e4⟩):=e2;obtain(⟨w,ew,rw_⟩):=rs.get e4;refine HZ X.K rfl value slice pins s σ H (.ref a) (.int k) v u Q I rx ry ⟨b,a,vs,k,w,rfl,rfl,sq.s hK,?_,q w rw_⟩ hs;unfold oU;rw[rs.length,<- Lx,e3];exact ew
theorem F8      (r:ay ct μ L H xs vs)(lo hi):ay ct μ L H (oy xs lo hi) (rA vs lo hi):=by
 unfold oy rA;rw[r.length];exact(r.drop _).take _
def G6(ct:Tx)(E:XK)(fz:Bool):V->Option Int->Option Int->Hp->VK->Prop:=λx lo hi H Q=>∃ μ h m,Rel ct μ h H/\RV ct μ (bg μ h) H m x/\Po ct E (ZM fz m lo hi h) μ h H (kV ct Q)
set_option tactic.hygienic true in
theorem ycJ(hK:X.K=ct.K)(fz):Fq X (G6 ct E fz):=by
 intro pins s σ H x v vl vu lo hi sl Q I rx hs pl pu q;obtain(⟨μ,h,m,rel,r,p⟩):=q;unfold ZM at p;split at p
 next xs e =>
  obtain(⟨a,vs,rfl,n,rd,rs⟩):=yC e r;by_cases hw:HT.cy vs.length 0 lo=0/\HT.cy vs.length vs.length hi=vs.length
  ·cases rx;obtain(⟨aw,rv,ht,hz⟩):=I.tuple (show ir X.K H a vs from .inl (.inl rd));have hlen:aw.toArray.size=vs.length:=by rw[Xa];exact rv.length.symm
   refine⟨"tuple",_,Gf.lookup,ht.typeIs,HT.gJ ht hs pl pu (by rw[hlen];exact hw) ?_⟩;have hc:oy xs lo hi=xs:=by
    have hl:=rs.length;unfold oy;show(xs.drop (HT.cy xs.length 0 lo)).take (HT.cy xs.length xs.length hi-HT.cy xs.length 0 lo)=xs;rw[<- hl,hw.1,hw.2,uA,Vy,hl,Vi]
   rw[hc] at p;exact⟨.ref a,H,I,rfl,p.now rel _ (zI n rd rs)⟩
  ·exact QcW pins s σ H (.ref a) v vl vu lo hi sl Q I rx hs pl pu ⟨a,vs,rfl,.inl (.inl rd),hw,Dh rel (F8 rs lo hi) p⟩
 next e =>
  obtain(⟨xs,e1,p⟩):=Po.opt p
  rcases zB e1 with e2|e2|⟨ns,rfl,rfl⟩
  ·rw[e] at e2;cases e2
  ·obtain(⟨a,vs,rfl,rd,rs⟩):=Zw rel e2 r;exact PL pins s σ H (.ref a) v vl vu lo hi sl Q I rx hs pl pu ⟨a,vs,rfl,.inl rd,zE rel (F8 rs lo hi) p⟩
  ·simp only[RV,RF] at r;obtain(⟨a,rfl,q⟩):=r;exact PL pins s σ H (.ref a) v vl vu lo hi sl Q I rx hs pl pu ⟨a,_,rfl,by rw[hK];exact DH q,zE rel (F8 (xR ns) lo hi) p⟩
end
section
variable {ct:Tx} {X:Cx} {E:XK}
theorem aO.imp{f:Value}{r r':List V->Hp->VK->Prop}(o:aO X f r)(k:∀ xs H Q,r' xs H Q->r xs H Q):aO X f r':=λpins s σ H xs us Q I rv q=>o pins s σ H xs us Q I rv (k _ _ _ q)
theorem aO.rT{f:Value}{r r':List V->Hp->VK->Prop}(o:aO X f r)(o':aO X f r'):aO X f λxs H Q=>r xs H Q\/r' xs H Q:=λpins s σ H xs us Q I rv q=>q.elim (o pins s σ H xs us Q I rv) (o' pins s σ H xs us Q I rv)
def rB(ct:Tx)(E:XK)(fz:Bool)(n:String):List V->Hp->VK->Prop:=λvs H Q=>∃ μ h ms,Rel ct μ h H/\ay ct μ (bg μ h) H ms vs/\Po ct E (yt fz n ms h) μ h H (kV ct Q)
theorem Zu{μ:List ae}{L:ae->Prop}{H:Hp}{m:MV}{vs:List V}(r:ay ct μ L H [m] vs):∃ v,vs=[v]/\RV ct μ L H m v:=by
 simp only[ay] at r;obtain⟨v,t,rfl,r1,rfl⟩:=r;exact⟨v,rfl,r1⟩
theorem Fj{μ:List ae}{L:ae->Prop}{H:Hp}{m m':MV}{vs:List V}(r:ay ct μ L H [m,m'] vs):∃ v v',vs=[v,v']/\RV ct μ L H m v/\RV ct μ L H m' v':=by
 simp only[ay] at r;obtain⟨v,t,rfl,r1,v',t',rfl,r2,rfl⟩:=r;exact⟨v,v',rfl,r1,r2⟩
theorem Ef   :∀{xs:List MV}{ns:List Int}{vs:List V},yh xs=some ns->ay ct μ L H xs vs->vs=ns.map V.int
 |[],ns,vs,e,r=>by simp[yh] at e;subst e;simp only[ay] at r;subst r;rfl
 |.f (.int i)::xs,ns,vs,e,r=>by
  simp only[yh,Uc] at e;obtain⟨ms,e1,rfl⟩:=e;simp only[ay] at r;obtain⟨v,t,rfl,r1,r2⟩:=r;rw[Qp r1,Ef e1 r2];rfl
 |.f .bh::_,_,_,e,_=>by simp[yh] at e
 |.f (.bl _)::_,_,_,e,_=>by simp[yh] at e
 |.f (.str _)::_,_,_,e,_=>by simp[yh] at e
 |.f (.tup _)::_,_,_,e,_=>by simp[yh] at e
 |.f (.lst _)::_,_,_,e,_=>by simp[yh] at e
 |.f (.obj _ _ _)::_,_,_,e,_=>by simp[yh] at e
 |.f (.eZ _)::_,_,_,e,_=>by simp[yh] at e
 |.f (.tab _)::_,_,_,e,_=>by simp[yh] at e
 |.f (.cE _)::_,_,_,e,_=>by simp[yh] at e
 |.ref _::_,_,_,e,_=>by simp[yh] at e
 |.tup _::_,_,_,e,_=>by simp[yh] at e
 |.exc _::_,_,_,e,_=>by simp[yh] at e
theorem Rt   :∀{xs:List MV}{ns:List Bool}{vs:List V},Qw xs=some ns->ay ct μ L H xs vs->vs=ns.map V.bl
 |[],ns,vs,e,r=>by simp[Qw] at e;subst e;simp only[ay] at r;subst r;rfl
 |.f (.bl i)::xs,ns,vs,e,r=>by
  simp only[Qw,Uc] at e;obtain⟨ms,e1,rfl⟩:=e;simp only[ay] at r;obtain⟨v,t,rfl,r1,r2⟩:=r;rw[uY r1,Rt e1 r2];rfl
 |.f .bh::_,_,_,e,_=>by simp[Qw] at e
 |.f (.int _)::_,_,_,e,_=>by simp[Qw] at e
 |.f (.str _)::_,_,_,e,_=>by simp[Qw] at e
 |.f (.tup _)::_,_,_,e,_=>by simp[Qw] at e
 |.f (.lst _)::_,_,_,e,_=>by simp[Qw] at e
 |.f (.obj _ _ _)::_,_,_,e,_=>by simp[Qw] at e
 |.f (.eZ _)::_,_,_,e,_=>by simp[Qw] at e
 |.f (.tab _)::_,_,_,e,_=>by simp[Qw] at e
 |.f (.cE _)::_,_,_,e,_=>by simp[Qw] at e
 |.ref _::_,_,_,e,_=>by simp[Qw] at e
 |.tup _::_,_,_,e,_=>by simp[Qw] at e
 |.exc _::_,_,_,e,_=>by simp[Qw] at e
theorem w8.len{H:Hp}{K:Gc}{b:Bool}{a:ae}{vs:List V}(hK:K=ct.K)(q:w8 ct H b a vs):fR K H a vs\/ir K H a vs:=by
 subst hK;cases b with
 |false=>exact .inl q
 |true=>exact .inr q
theorem Ydd(hK:X.K=ct.K)(fz):aO X (.builtin "len") (rB ct E fz "len"):=aO.imp (Pt X.K) λvs H Q q=>by
 obtain⟨μ,h,ms,rel,r0,p⟩:=q
 rcases ms with _|⟨m,_|⟨m2,ms⟩⟩
 ·exact p.elim
 ·obtain⟨v,rfl,rm⟩:=Zu r0;obtain⟨xs,e,p⟩:=Po.opt p;obtain⟨b,a,ws,rfl,sq,rs⟩:=Yt rel e rm;exact⟨a,ws,rfl,sq.len hK,by rw[rs.length];exact p.now rel _ (YA _)⟩
 ·exact p.elim
theorem YcY(hK:X.K=ct.K)(fz)(hc:X.calm=true):aO X (.builtin "sum") (rB ct E fz "sum"):=aO.imp (BC X.K hc) λvs H Q q=>by
 obtain⟨μ,h,ms,rel,r0,p⟩:=q
 rcases ms with _|⟨m,_|⟨m2,ms⟩⟩
 ·exact p.elim
 ·obtain⟨v,rfl,rm⟩:=Zu r0;obtain⟨ns,e,p⟩:=Po.opt p;rw[wb] at e;obtain⟨xs,e1,e2⟩:=e;obtain⟨b,a,ws,rfl,sq,rs⟩:=Yt rel e1 rm;have:=Ef e2 rs;subst this;exact⟨b,a,ns,rfl,sq.s hK,p.now rel _ (YA _)⟩
 ·exact p.elim
theorem zde(hK:X.K=ct.K)(fz)(hc:X.calm=true):aO X (.builtin "all") (rB ct E fz "all"):=aO.imp (k_all X.K hc) λvs H Q q=>by
 obtain⟨μ,h,ms,rel,r0,p⟩:=q
 rcases ms with _|⟨m,_|⟨m2,ms⟩⟩
 ·exact p.elim
 ·obtain⟨v,rfl,rm⟩:=Zu r0;obtain⟨ns,e,p⟩:=Po.opt p;rw[wb] at e;obtain⟨xs,e1,e2⟩:=e;obtain⟨b,a,ws,rfl,sq,rs⟩:=Yt rel e1 rm;have:=Rt e2 rs;subst this;exact⟨b,a,ns,rfl,sq.s hK,p.now rel _ (QC _)⟩
 ·exact p.elim
theorem Zda(hK:X.K=ct.K)(fz)(hc:X.calm=true):aO X (.builtin "min") (rB ct E fz "min"):=aO.imp (aO.rT (BD X.K hc) (zbX hc)) λvs H Q q=>by
 obtain⟨μ,h,ms,rel,r0,p⟩:=q
 rcases ms with _|⟨m,_|⟨m2,_|⟨m3,ms⟩⟩⟩
 ·exact p.elim
 ·left
  obtain⟨v,rfl,rm⟩:=Zu r0;obtain⟨ns,e,p⟩:=Po.opt p;rw[wb] at e;obtain⟨xs,e1,e2⟩:=e;obtain⟨b,a,ws,rfl,sq,rs⟩:=Yt rel e1 rm;have:=Ef e2 rs;subst this;cases ns with
  |nil=>exact p.elim
  |cons n ns =>
   refine⟨b,a,n::ns,rfl,sq.s hK,by simp,λk hk hl=>?_⟩;have:k=oV n ns:=by
    have a1:=hl _ (PJ (r:=n::ns) (by simp));have a2:=ycN (r:=n::ns) hk;exact ku a1 a2
   subst this;exact p.now rel _ (YA _)
 ·right
  obtain⟨v,v',rfl,rm,tf⟩:=Fj r0;obtain⟨i,e,p⟩:=Po.opt p;obtain⟨j,e',p⟩:=Po.opt p;have:=yj e;subst this;have:=yj e';subst this;rw[Qp rm,Qp tf];exact⟨i,j,rfl,p.now rel _ (YA _)⟩
 ·exact p.elim
theorem Qdb(hK:X.K=ct.K)(fz)(hc:X.calm=true):aO X (.builtin "max") (rB ct E fz "max"):=aO.imp (aO.rT (BE X.K hc) (QbR hc)) λvs H Q q=>by
 obtain⟨μ,h,ms,rel,r0,p⟩:=q
 rcases ms with _|⟨m,_|⟨m2,_|⟨m3,ms⟩⟩⟩
 ·exact p.elim
 ·left
  obtain⟨v,rfl,rm⟩:=Zu r0;obtain⟨ns,e,p⟩:=Po.opt p;rw[wb] at e;obtain⟨xs,e1,e2⟩:=e;obtain⟨b,a,ws,rfl,sq,rs⟩:=Yt rel e1 rm;have:=Ef e2 rs;subst this;cases ns with
  |nil=>exact p.elim
  |cons n ns =>
   refine⟨b,a,n::ns,rfl,sq.s hK,by simp,λk hk hl=>?_⟩;have:k=oH n ns:=by
    have a1:=hl _ (Py (r:=n::ns) (by simp));have a2:=YcJ (r:=n::ns) hk;exact ku a2 a1
   subst this;exact p.now rel _ (YA _)
 ·right
  obtain⟨v,v',rfl,rm,tf⟩:=Fj r0;obtain⟨i,e,p⟩:=Po.opt p;obtain⟨j,e',p⟩:=Po.opt p;have:=yj e;subst this;have:=yj e';subst this;rw[Qp rm,Qp tf];exact⟨i,j,rfl,p.now rel _ (YA _)⟩
 ·exact p.elim
theorem Yda(fz):aO X (.type "int") (rB ct E fz "int"):=aO.imp Zb3 λvs H Q q=>by
 obtain⟨μ,h,ms,rel,r0,p⟩:=q
 rcases ms with _|⟨m,_|⟨m2,ms⟩⟩
 ·exact p.elim
 ·obtain⟨v,rfl,rm⟩:=Zu r0;change Po ct E (match ZE m with
   |some b=>.ok (.f (.int (if b then 1 else 0))) h
   |none=>opt (yd m) λi=>.ok (.f (.int i)) h) μ h H (kV ct Q) at p
  cases eb:ZE m with
  |some b =>
   rw[eb] at p;have:=Dn eb;subst this;rw[uY rm];exact .inr ⟨b,rfl,p.now rel _ (YA _)⟩
  |none =>
   rw[eb] at p;obtain⟨i,e,p⟩:=Po.opt p;have:=yj e;subst this;rw[Qp rm];exact .inl ⟨i,rfl,p.now rel _ (YA _)⟩
 ·exact p.elim
theorem qct(hK:X.K=ct.K)(fz):aO X (.type "tuple") (rB ct E fz "tuple"):=aO.imp (zcz X.K) λvs H Q q=>by
 obtain⟨μ,h,ms,rel,r0,p⟩:=q
 rcases ms with _|⟨m,_|⟨m2,ms⟩⟩
 ·exact p.elim
 ·obtain⟨v,rfl,rm⟩:=Zu r0;obtain⟨xs,e,p⟩:=Po.opt p
  rcases zB e with e|e|⟨ns,rfl,rfl⟩
  ·obtain⟨a,ws,rfl,n,rd,rs⟩:=yC e rm;exact⟨a,ws,rfl,.inr ⟨.inl (.inl rd),p.now rel _ (zI n rd rs)⟩⟩
  ·obtain⟨a,ws,rfl,rd,rs⟩:=Zw rel e rm;exact⟨a,ws,rfl,.inl ⟨.inl rd,Dh rel rs p⟩⟩
  ·simp only[RV,RF] at rm;obtain⟨a,rfl,q⟩:=rm;exact⟨a,_,rfl,.inl ⟨by rw[hK];exact DH q,Dh rel (xR ns) p⟩⟩
 ·exact p.elim
theorem QcI(hK:X.K=ct.K)(fz):aO X (.type "list") (rB ct E fz "list"):=aO.imp (zc7 X.K) λvs H Q q=>by
 obtain⟨μ,h,ms,rel,r0,p⟩:=q
 rcases ms with _|⟨m,_|⟨m2,ms⟩⟩
 ·exact p.elim
 ·obtain⟨v,rfl,rm⟩:=Zu r0;obtain⟨xs,e,p⟩:=Po.opt p;obtain⟨b,a,ws,rfl,sq,rs⟩:=Yt rel e rm;exact⟨a,ws,rfl,sq.len hK,zE rel rs p⟩
 ·exact p.elim
def tj(ct:Tx)(E:XK)(m:String):V->List V->Hp->VK->Prop:=λx vs H Q=>∃ μ h mo ms,Rel ct μ h H/\RV ct μ (bg μ h) H mo x/\ay ct μ (bg μ h) H ms vs/\Po ct E (l0 m mo ms h) μ h H (kV ct Q)
theorem jZ.imp{id:String}{r r':V->List V->Hp->VK->Prop}(o:jZ X id r)(k:∀ x xs H Q,r' x xs H Q->r x xs H Q):jZ X id r':=λpins s σ H x xs v us Q I rx rv q=>o pins s σ H x xs v us Q I rx rv (k _ _ _ _ q)
theorem xW{m:String}{mo:MV}{ms:List MV}{μ:List ae}{h:MH}{H:Hp}{x:V}{k:MV->List ae->MH->Hp->Prop}(rel:Rel ct μ h H)(r:RV ct μ (bg μ h) H mo x)(p:Po ct E (l0 m mo ms h) μ h H k) :
  ∃ i b xs vs,mo=.ref i/\x=.ref b/\μ[i]?=some b/\Ze h i=some xs/\H b=some (.lst vs)/\ay ct μ (bg μ h) H xs vs:=by
 cases mo with
 |ref i =>
  obtain⟨xs,e,_⟩:=Po.opt p;obtain⟨b,vs,e1,e2,q⟩:=rel.lst e;simp only[RV] at r;obtain⟨b',e3,rfl⟩:=r;rw[e1] at e3;cases e3;exact⟨i,b,xs,vs,rfl,rfl,e1,e,e2,q⟩
 |f _=>exact p.elim
 |tup _=>exact p.elim
 |exc _=>exact p.elim
theorem vP{μ:List ae}{h:MH}{H:Hp}{i:Nat}{b:ae}{xs ys:List MV}{vs:List V}{m:MV}{v:V}{Q:VK}(rel:Rel ct μ h H)(e1:μ[i]?=some b)(e:Ze h i=some xs)(r:ay ct μ (bg μ h) H ys vs)(rv:RV ct μ (bg μ h) H m v)
  (p:Po ct E (.ok m (Zd h i ys)) μ h H (kV ct Q)):Q v (upd H b (.lst vs)):=by
 have e2:=yQ e;have ex:=Ext.set (H:=H) rel e1 e2 (λz=>nomatch z) (.lst ys) (.lst vs);refine p μ _ ex (rel.set e1 e2 (λz=>nomatch z) ⟨vs,zf,?_⟩) v (rv.ext ex);exact ay.ext ex r
theorem zbR:jZ X "list.append" (tj ct E "append"):=jZ.imp zbZ λx ws H Q q=>by
 obtain⟨μ,h,mo,ms,rel,r,rs,p⟩:=q;obtain⟨i,b,xs,vs,rfl,rfl,e1,e,hb,q⟩:=xW rel r p
 rcases ms with _|⟨m,_|⟨m2,ms⟩⟩
 ·obtain⟨_,_,p⟩:=Po.opt p;exact p.elim
 ·obtain⟨v,rfl,rm⟩:=Zu rs;obtain⟨_,e',p⟩:=Po.opt p;rw[e] at e';cases e';change Po ct E (if xs.length<MP.aD then _ else _) μ h H (kV ct Q) at p;split at p
  next c=>exact⟨b,vs,v,rfl,rfl,hb,by rw[q.length];exact vb c QG,vP rel e1 e (q.append (ay.cons rm ay.nil)) wZ p⟩
  next=>exact p.elim
 ·obtain⟨_,_,p⟩:=Po.opt p;exact p.elim
theorem ybG:jZ X "list.reverse" (tj ct E "reverse"):=jZ.imp qbF λx ws H Q q=>by
 obtain(⟨μ,h,mo,ms,rel,r,rs,p⟩):=q;obtain(⟨i,b,xs,vs,rfl,rfl,e1,e,hb,q⟩):=xW rel r p
 rcases ms with _|⟨m,ms⟩
 ·simp only[ay] at rs;subst rs;obtain(⟨_,e',p⟩):=Po.opt p;rw[e] at e';cases e';refine⟨b,vs,rfl,rfl,hb,vP rel e1 e (ys:=xs.reverse) ?_ wZ p⟩;clear p e hb
  induction xs generalizing vs with
  |nil=>simp only[ay] at q;subst q;exact ay.nil
  |cons x xs ih =>
   simp only[ay] at q;obtain(⟨v,t,rfl,r1,r2⟩):=q;simp only[Xp];exact(ih t r2).append (ay.cons r1 ay.nil)
 ·obtain(⟨_,_,p⟩):=Po.opt p;exact p.elim
def ycE:V->List V->Hp->VK->Prop:=λx vs H Q=>∃ l xs i y,x=.ref l/\vs=[.int i,y]/\H l=some (.lst xs)/\xs.length<sizeLine/\-(2^63)<=i/\i<2^63 /\
 Q .bh (upd H l (.lst (xs.take (HT.cy xs.length 0 (some i))++y::xs.drop (HT.cy xs.length 0 (some i)))))
theorem Yb2:vJ X "list.insert" ycE:=by
 intro pins s σ H x vs v us Q I rx rv h;obtain⟨l,xs,i,y,rfl,rfl,hH,hz,h1,h2,q⟩:=h;cases rx;obtain⟨u,w,rfl,ru,sY⟩:=L2.Vals.two rv;obtain⟨t,rfl⟩:=ru;obtain⟨z,aw,n,r,hl,e⟩:=I.ky hH;have t8:¬(!Builtin.List.listFitsIndex i)=true:=by rw[gy h1 h2];exact Xd
 refine cw F.slot_list_insert ⟨_,e,rfl⟩ F.entry_list_insert (F.args_list_insert_3 _ _ _) (AutoSeq1.list_insert_list_int_val_1 l aw.toArray n i t w t8 (by rw[Xa];lia)) ⟨e,?_⟩;refine⟨.bh,_,I.md (its':=aw.take (HT.cy xs.length 0 (some i))++w::aw.drop (HT.cy xs.length 0 (some i))) hH e ?_ ((r.take _).append (.cons sY (r.drop _))) ?_,rfl,q⟩
 ·rw[hl];show(aw.toArray.extract 0 (if i<0 then(i+(aw.toArray.size:Int)).toNat else min i.toNat aw.toArray.size)).push w++aw.toArray.extract (if i<0 then(i+(aw.toArray.size:Int)).toNat else min i.toNat aw.toArray.size)=_;rw[Xa];show(aw.toArray.extract 0 (HT.cy aw.length 0 (some i))).push w++aw.toArray.extract (HT.cy aw.length 0 (some i))=_;apply Array.ext';simp;exact Uw (by simp)
 ·simp only[ue,Vc,Ul,Wx]
  lia
theorem yb1:jZ X "list.insert" (tj ct E "insert"):=jZ.imp Yb2 λx ws H Q q=>by
 obtain⟨μ,h,mo,ms,rel,r,rs,p⟩:=q;obtain⟨i,b,xs,vs,rfl,rfl,e1,e,hb,q⟩:=xW rel r p
 rcases ms with _|⟨m,_|⟨m2,_|⟨m3,ms⟩⟩⟩
 ·obtain⟨_,_,p⟩:=Po.opt p;exact p.elim
 ·obtain⟨_,_,p⟩:=Po.opt p;exact p.elim
 ·obtain⟨v,v',rfl,rm,tf⟩:=Fj rs;obtain⟨_,e',p⟩:=Po.opt p;rw[e] at e';cases e';change Po ct E (opt (yd m) λi'=>if xs.length<MP.aD/\-(2^63)<=i'/\i'<2^63 then .ok (.f .bh) (Zd h i (YI xs i' m2)) else .stuck) μ h H (kV ct Q) at p;obtain⟨k,e3,p2⟩:=Po.opt p;have:=yj e3;subst this;rw[Qp rm];split at p2
  next c =>
   have hl:=q.length;refine⟨b,vs,k,v',rfl,rfl,hb,by rw[hl];exact vb c.1 QG,c.2.1,c.2.2,vP rel e1 e (ys:=YI xs k m2) ?_ wZ p2⟩;rw[hl];exact(q.take _).append (ay.cons tf (q.drop _))
  next=>exact p2.elim
 ·obtain⟨_,_,p⟩:=Po.opt p;exact p.elim
theorem YbQ:jZ X "list.extend" (tj ct E "extend"):=jZ.imp Yby λx ws H Q q=>by
 obtain⟨μ,h,mo,ms,rel,r,rs,p⟩:=q;obtain⟨i,b,xs,vs,rfl,rfl,e1,e,hb,q⟩:=xW rel r p
 rcases ms with _|⟨m,_|⟨m2,ms⟩⟩
 ·obtain⟨_,_,p⟩:=Po.opt p;exact p.elim
 ·obtain⟨v,rfl,rm⟩:=Zu rs;obtain⟨_,e',p⟩:=Po.opt p;rw[e] at e';cases e';change Po ct E (opt (listOf h m) λys=>if xs.length+ys.length<=MP.aD then .ok (.f .bh) (Zd h i (xs++ys)) else .stuck) μ h H (kV ct Q) at p;obtain⟨ys,e3,p2⟩:=Po.opt p;obtain⟨a,ws,rfl,rd,Ng⟩:=Zw rel e3 rm;split at p2
  next c=>exact⟨b,a,vs,ws,rfl,rfl,hb,rd,by rw[q.length,Ng.length];exact xf c QG,vP rel e1 e (q.append Ng) wZ p2⟩
  next=>exact p2.elim
 ·obtain⟨_,_,p⟩:=Po.opt p;exact p.elim
theorem jZ.rT{id:String}{r r':V->List V->Hp->VK->Prop}(o:jZ X id r)(o':jZ X id r'):jZ X id λx xs H Q=>r x xs H Q\/r' x xs H Q:=λpins s σ H x xs v us Q I rx rv q=>q.elim (o pins s σ H x xs v us Q I rx rv) (o' pins s σ H x xs v us Q I rx rv)
theorem Qc1(n:Nat)(i:Int):gE i n=jX n i:=by
 unfold gE jX;by_cases h:i<0
 ·have h':¬ 0<=i:=by lia
  simp only[h,h',if_true,if_false];by_cases k:-(n:Int)<=i
  ·have k1:0<=i+(n:Int):=by lia
   have k2:i+(n:Int)<n:=by lia
   simp only[k,k1,k2,decide_true,Bool.and_self,if_true]
  ·have k1:¬ 0<=i+(n:Int):=by lia
   simp only[k,k1,decide_false,Jf,uj,if_false]
 ·have h':0<=i:=by lia
  simp only[h,h',if_true,if_false,decide_true,Vw,decide_eq_true_eq]
theorem Qc5:jZ X "list.pop" (tj ct E "pop"):=jZ.imp (jZ.rT YcV qb9) λx ws H Q q=>by
 obtain⟨μ,h,mo,ms,rel,r,rs,p⟩:=q;obtain⟨i,b,xs,vs,rfl,rfl,e1,e,hb,q⟩:=xW rel r p
 rcases ms with _|⟨m,_|⟨m2,ms⟩⟩
 ·simp only[ay] at rs;subst rs;obtain⟨_,e',p⟩:=Po.opt p;rw[e] at e';cases e';change Po ct E (opt (xs[xs.length-1]?) λy=>.ok y (Zd h i (xs.take (xs.length-1)))) μ h H (kV ct Q) at p;obtain⟨y,e3,p2⟩:=Po.opt p;obtain⟨v,ev,rv⟩:=q.get e3;refine .inl ⟨b,vs,v,rfl,rfl,hb,by rw[q.length];exact ev,?_⟩;rw[List.dropLast_eq_take,q.length];exact vP rel e1 e (q.take _) rv p2
 ·obtain⟨v,rfl,rm⟩:=Zu rs;obtain⟨_,e',p⟩:=Po.opt p;rw[e] at e';cases e';change Po ct E (opt (yd m) λi'=>opt (jX xs.length i') λk=>opt (xs[k]?) λy=>if -(2^63)<=i'/\i'<2^63 then .ok y (Zd h i (xs.take k++xs.drop (k+1))) else .stuck) μ h H (kV ct Q) at p;obtain⟨j,e3,p2⟩:=Po.opt p;obtain⟨k,e4,p3⟩:=Po.opt p2;obtain⟨y,e5,p4⟩:=Po.opt p3;have:=yj e3;subst this;rw[Qp rm];obtain⟨v,ev,rv⟩:=q.get e5;split at p4
  next c =>
   refine .inr ⟨b,vs,j,k,v,rfl,rfl,hb,c.1,c.2,?_,ev,?_⟩
   ·rw[q.length];rw[Qc1];exact e4
   ·rw[List.eraseIdx_eq_take_drop_succ];exact vP rel e1 e ((q.take _).append (q.drop _)) rv p4
  next=>exact p4.elim
 ·obtain⟨_,_,p⟩:=Po.opt p;exact p.elim
end
noncomputable def Ya:Expr->Bool
 |.Starred ..=>false
 |.Slice ..=>false
 |.Set ..=>false
 |_=>true
noncomputable def zi:Expr->Bool
 |.Call (.Name x _) [] [] _=>!(x==("super":Str))
 |_=>true
noncomputable def zM(cs sc:az):az :=
 {cs with names:=cs.names.map λ(n,k)=>if(k==Gp&&sc.kind == .function&&sc.names.lookup n==some .cell) then(n,Kq) else(n,k)}
noncomputable def gl(sc:az)(x:Str):Bool:=sc.names.lookup x==some .globalImplicit&&!(x==("__debug__":Str))&&decide (x≠("__name__":Str))
noncomputable def oX(sc:az)(x:Str):Bool:=(sc.names.lookup x==some .local||sc.names.lookup x==some .cell||sc.names.lookup x==some .free)&&!(x==("__debug__":Str))&&!(x==("__classdict__":Str))
noncomputable def rg(lo:Str->Bool)(sc:az)(x:Str):Bool:=sc.names.lookup x==some .local||(lo x&&sc.names.lookup x==some .cell)
noncomputable abbrev nL:Str->Bool:=λ_=>true
noncomputable abbrev tx(cs:az):Str->Bool:=λx=>cs.names.lookup x==some .cell
mutual
noncomputable def QE(lo:Str->Bool)(N:List Str)(sc:az):Tg->Expr->Bool
 |.nm i,.Name x _=>N[i]? == some x&&rg lo sc x
 |.tp ts,.Tuple es _ _=>Y7 lo N sc ts es
 |_,_=>false
noncomputable def Y7(lo:Str->Bool)(N:List Str)(sc:az):List Tg->List Expr->Bool
 |[],[]=>true
 |t::ts,e::es=>QE lo N sc t e&&Y7 lo N sc ts es
 |_,_=>false
end
mutual
noncomputable def nD:Tg->Expr->List Str
 |.nm _,.Name x _=>[x]
 |.tp ts,.Tuple es _ _=>Af ts es
 |_,_=>[]
noncomputable def Af:List Tg->List Expr->List Str
 |t::ts,e::es=>nD t e++Af ts es
 |_,_=>[]
end
noncomputable def isTup:Expr->Bool
 |.Tuple ..=>true
 |_=>false
noncomputable def eP:List String:=["len","sum","all","min","max"]
noncomputable def dO:List String:=["int","tuple","list"]
noncomputable def iZ:List String:=["append","insert","extend","pop"]
noncomputable def ig:List String:=["reverse"]
noncomputable def aY:List String:=["dict","list","tuple","str","int","bool"]
noncomputable def yE:Expr->List Expr
 |.Call (.Name _ _) as [] _=>as
 |_=>[]
noncomputable def vI(tg:Expr)(it:String):Expr->Bool
 |.Call (.Name x _) as [] _=>(it == "range"&&as.length==1||it == "zip"&&isTup tg&&as.length==2||it == "enumerate"&&false&&as.length==1)&&x==jk it
 |_=>false
noncomputable def iY:ME->Bool
 |.eO _=>false
 |.ite _ _ _=>false
 |_=>true
noncomputable def Mo:Expr->Bool
 |.Constant (.bool true) _ _=>true
 |_=>false
noncomputable def rD{α:Type}:List α->Option (α×α)
 |[a,b]=>some (a,b)
 |_=>none
noncomputable def sr{α:Type}:List α->Option α
 |[a]=>some a
 |_=>none
noncomputable def JW:Expr->Option (Expr×Expr)
 |.Dict ks vs _=>(rD ks).bind λk=>(rD vs).bind λv=>if Mo v.1&&Mo v.2 then k.1.bind λx=>k.2.map λy=>(x,y) else none
 |_=>none
noncomputable def rz:Expr->Option (Str×Expr)
 |.Call (.Name x _) as [] _=>(sr as).map λa=>(x,a)
 |_=>none
noncomputable def Mw(e:Expr):Option (Str×Str×Expr):=(rz e).bind λp=>(rz p.2).map λq=>(p.1,q.1,q.2)
noncomputable def pM:Expr->Bool
 |.UnaryOp .USub (.Constant (.int 1) _ _) _=>true
 |_=>false
noncomputable def uW:Expr->Option (Str×Expr×Expr)
 |.Call (.Name x _) as [] _=>(rD as).map λa=>(x,a)
 |_=>none
noncomputable def QY:Expr->Option (Expr×dH×Expr)
 |.Compare l os rs _=>(sr os).bind λo=>(sr rs).map λr=>(l,o,r)
 |_=>none
noncomputable def C5:Expr->Bool
 |.Constant .none _ _=>true
 |_=>false
noncomputable def C3:Expr->Option Str
 |.Name x _=>some x
 |_=>none
noncomputable def Fw(e:Expr):Option (Str×Expr×Str):=(uW e).bind λq=>(C3 q.2.2).map λy=>(q.1,q.2.1,y)
noncomputable def Lg(e:Expr):Option (Str×Str×Expr×Expr):=(rz e).bind λp=>(uW p.2).map λq=>(p.1,q.1,q.2)
noncomputable def Kz:Expr->Option Expr
 |.Subscript x (.Slice none none (some st) _) _=>if pM st then some x else none
 |_=>none
noncomputable def Ydi:Expr->Option Expr
 |.Call (.Attribute l n ap) [] [] cp=>if n==("items":Str)&&zi l&&(ap.endLine==cp.line) then some l else none
 |_=>none
section
variable (Pm:Prog)
mutual
noncomputable def zq(me:ME)(N:List Str)(sc:az)(e:Expr):Bool:=match me,e with
 |.var i,.Name x _=>N[i]? == some x&&oX sc x
 |.cI i,.Constant (.int j) _ _=>i==j
 |.cB b,.Constant (.bool c) _ _=>b==c
 |.cN,.Constant .none _ _=>true
 |.cS s,.Constant (.str x) _ _=>s==x
 |.bin _ op a b,.BinOp l o r _=>o==Er op&&(Ya l&&zq a N sc l)&&(Ya r&&zq b N sc r)
 |.neg a,.UnaryOp .USub x _=>(Ya x&&zq a N sc x)
 |.cmp op a b,e=>match QY e with
  |some (l,o,r)=>o==nA op&&(Ya l&&zq a N sc l)&&(Ya r&&zq b N sc r)
  |none=>false
 |.chain op kZ a b c,.Compare l [o,o'] [m,r] _=>o==nA op&&o'==nA kZ&&(Ya l&&zq a N sc l)&&(Ya m&&zq b N sc m)&&(Ya r&&zq c N sc r)
 |.BL a,e=>match QY e with
  |some (l,o,r)=>o == .Is&&C5 r&&(Ya l&&zq a N sc l)
  |none=>false
 |.pG a,e=>match QY e with
  |some (l,o,r)=>o == .IsNot&&C5 r&&(Ya l&&zq a N sc l)
  |none=>false
 |.and es,.BoolOp .And vs _=>es.all iY&&Ym es N sc vs
 |.or es,.BoolOp .Or vs _=>es.all iY&&Ym es N sc vs
 |.not a,.UnaryOp .Not x _=>iY a&&(Ya x&&zq a N sc x)
 |.ite c a b,.IfExp t x y _=>iY c&&(Ya t&&zq c N sc t)&&(Ya x&&zq a N sc x)&&(Ya y&&zq b N sc y)
 |.tup es,.Tuple vs _ _=>decide (vs.length<1000)&&Ym es N sc vs
 |.lst _ es,.List vs _=>decide (vs.length<1000)&&Ym es N sc vs
 |.sub a i,.Subscript x y _=>(Ya x&&zq a N sc x)&&(Ya y&&zq i N sc y)
 |.slice _ a lo hi,.Subscript x (.Slice l u none _) _=>(Ya x&&zq a N sc x)&&xN lo N sc l&&xN hi N sc u
 |.fld a n,.Attribute x m _=>m==jk n&&zi x&&(Ya x&&zq a N sc x)
 |.lC o m es,.Call (.Attribute x n ap) vs [] cp=>n==jk m&&decide (m≠"__init__")&&zi x&&(ap.endLine==cp.line)&&(Ya x&&zq o N sc x)&&Ym es N sc vs&&decide (vs.length<30)
 |.call f es,.Call (.Name x _) (v::vs) [] _=>x==jk f&&gl sc x&&!(f.toList.contains '.')&&(Pm.defs f).isSome&&Ym es N sc (v::vs)
 |.make _ c es,.Call (.Name x _) (v::vs) [] _=>x==jk c&&gl sc x&&(Pm.meths c "__init__").isSome&&Ym es N sc (v::vs)
 |.make _ c [],.Call (.Name x _) [] [] _=>x==jk c&&gl sc x&&Pm.nT c&&(Pm.meths c "__init__").isNone
 |.blt _ n es,.Call (.Name x _) (v::vs) [] _=>x==jk n&&gl sc x&&(eP.contains n||dO.contains n)&&Ym es N sc (v::vs)
 |.lJ a t,e=>match Fw e with
  |some (x,v,y)=>x==("isinstance":Str)&&gl sc x&&y==jk t&&gl sc y&&(aY.contains t||(Pm.subs t t).isSome)&&(Ya v&&zq a N sc v)
  |none=>false
 |.pC _ a,e=>match Mw e with
  |some (x,y,v)=>false
  |none=>match Kz e with
   |some v=>Ya v&&zq a N sc v
   |none=>false
 |.pK,.Dict [] [] _=>true
 |.Es a,e=>match rz e with
  |some (x,v)=>x==("dict":Str)&&gl sc x&&(Ya v&&zq a N sc v)
  |none=>false
 |.sL .upd a b,.Call (.Attribute x n ap) [v] [] cp=>n==("update":Str)&&zi x&&(ap.endLine==cp.line)&&(Ya x&&zq a N sc x)&&(Ya v&&zq b N sc v)
 |.sL (.lB _) a b,e=>match Lg e with
  |some (x,y,u,v)=>x==("list":Str)&&gl sc x&&y==("zip":Str)&&gl sc y&&(Ya u&&zq a N sc u)&&(Ya v&&zq b N sc v)
  |none=>false
 |.pJ a b,e=>match QY e with
  |some (l,o,r)=>o == .NotIn&&(Ya l&&zq a N sc l)&&(Ya r&&zq b N sc r)
  |none=>false
 |.lm m o es,.Call (.Attribute x n ap) vs [] cp=>n==jk m&&zi x&&(ap.endLine==cp.line)&&(Ya x&&zq o N sc x)&&Ym es N sc vs&&(if vs.isEmpty then ig.contains m else iZ.contains m&&decide (vs.length<30))
 |.comp _ elt tg it src cond bW js,.ListComp x [⟨t,iter,ifs,a⟩] cs _ =>
   let N':=nD tg t++js.filterMap λj=>N[j]?
   (a==0)&&Ya iter&&QA sc N cs N' bW js&&decide N'.Nodup&&QE (tx cs) N' (zM cs sc) tg t&&(Ya x&&zq elt N' (zM cs sc) x)&&pZ cond N' (zM cs sc) ifs &&
    (if it == "seq" then wY src N sc iter else if it == "signs" then false else if it == "enum1" then false else vI t it iter&&gl sc (jk it)&&Ym src N sc (yE iter))
 |.eO m,e=>(Ya e&&zq m N sc e)
 |_,_=>false
noncomputable def Ym(pI:List ME)(N:List Str)(sc:az)(es:List Expr):Bool:=match pI,es with
 |[],[]=>true
 |m::ms,e::es=>(Ya e&&zq m N sc e)&&Ym ms N sc es
 |_,_=>false
noncomputable def wY(pI:List ME)(N:List Str)(sc:az)(e:Expr):Bool:=match pI with
 |[m]=>(Ya e&&zq m N sc e)
 |_=>false
noncomputable def xN(mo:Option ME)(N:List Str)(sc:az)(eo:Option Expr):Bool:=match mo,eo with
 |none,none=>true
 |some m,some e=>(Ya e&&zq m N sc e)
 |_,_=>false
noncomputable def pZ(mo:Option ME)(N:List Str)(sc:az)(es:List Expr):Bool:=match mo,es with
 |none,[]=>true
 |some m,[e]=>iY m&&(Ya e&&zq m N sc e)
 |_,_=>false
end
noncomputable def Qf(me:ME)(N:List Str)(sc:az)(e:Expr):Bool:=Ya e&&zq Pm me N sc e
end
noncomputable def mJ(ct:Tx)(W:List MV->MH->R MV):Sp:=λvs H Q E=>∃ μ h ms,Rel ct μ h H/\ay ct μ (bg μ h) H ms vs/\Po ct E (W ms h) μ h H (kV ct Q)
structure oF (K:Gc) (C:ae):Prop where
 cl:lZ K C
 ha:Wc K (.ref C) "__class__"=some (some (.builtin "object.__class__"))
 hn:Vm K (.builtin "object.__class__") "__get__"=some (some (.builtin "getset_descriptor.__get__"))
 tk:Vo K (.builtin "object.__class__")=some true
 hm:vw K C (.type "object")=some true
noncomputable def D5(ct:Tx)(Pm:Prog)(wd:String):ae->ae->Sp:=λx C vs H Q _=>vs=[.ref x]/\∃ c s,C=ct c/\Pm.word wd c=some s/\∀ H',iW H H'->Q (.str s) H'
def Nl(mg:Str->Option Value)(x:String):FV->Prop
 |.int i=>∃ t,mg (jk x)=some (.int i t)
 |.str s=>∃ t,mg (jk x)=some (.str s t)
 |_=>False
structure Txt (P:ak) (w:World) (K:Gc) (mg:Str->Option Value) (base:Heap) (Pm:Prog) (ct:Tx) (n:Nat):Prop where
 defs:∀ f d,Pm.defs f=some d->f.toList.contains '.'=false->∃ ps,AV P w K mg base (jk f) (2*n) ps (mJ ct (run Pm n f))
 mO:∀ c f,Pm.meths c "__init__"=some f->∃ ps,Rj P w K mg base (jk c) (ct c) (2*n) ps (mJ ct (run Pm n f))
 iV:∀ x∈eP++dO++aY++["range","zip","enumerate","isinstance","sorted","reversed","set"],mg (jk x)=none
 jM:∀ c f,Pm.jM c f=true->lZ K (ct c)/\gA K (ct c) (jk f)
 cls:∀ c t b,Pm.subs c t=some b->oF K (ct c)
 nP:∀ c t b,Pm.subs c t=some b->aY.contains t=false->mg (jk t)=some (.ref (ct t))/\Xe K (.ref (ct c)) (.ref (ct t))=some b
 pk:∀ c t b,Pm.subs c t=some b->aY.contains t=true->Xe K (.ref (ct c)) (.type t)=some b
 DT:∀ t c b,Pm.subs c t=some b->aY.contains t=false->∀ T∈["NoneType","bool","int","str","list","tuple"],Xe K (.type T) (.ref (ct t))=some false
 jN:∀ c,Pm.jN c=true->YO K (ct c)/\mg (jk c)=some (.ref (ct c))
 words:∀ wd,Pm.words wd=true->YO K (ct "DotError")/\mg "DotError"=some (.ref (ct "DotError"))/\(∃ ps,fG P w K mg base (jk wd) 1 ps (D5 ct Pm wd)) /\
  ∀ c s,Pm.word wd c=some s->YO K (ct c)/\(ZB K (ct c)).contains (.ref (ct "DotError"))=true
 mV:∀ t,Pm.mV t=true->(if t="ValueError" then mg "ValueError"=none else mg (jk t)=some (.ref (ct t)))
 xs:∀ c t b,Pm.mI c t=some b->mF K (ct c)/\Xe K (.ref (ct c)) (if t="ValueError" then .type "ValueError" else .ref (ct t))=some b
 wU:∀ f ds,Pm.wU f ds=true->∃ ps fa fd iq,fF P w K mg base (kL P w) (2*n) fa fd ps (mJ ct (run Pm n f))/\Binds K fd ps iq/\Vals (ds.map V.int) iq/\vg K (.ref fa)=true/\mg (jk f)=some (.ref fa)
 sI:Pm.xt=true->YO K (ct "DotError")/\mg "DotError"=some (.ref (ct "DotError"))/\∀ c b,Pm.mI c c=some b->YO K (ct c)/\(ZB K (ct c)).contains (.ref (ct "DotError"))=true
 meths:∀ c m f,Pm.meths c m=some f->m≠"__init__"->Np P w K mg base (2*n) (ct c) (jk m) (mJ ct (run Pm n f))
 nT:∀ c,Pm.nT c=true->rp K (ct c)/\mg (jk c)=some (.ref (ct c))
 jI:∀ x v,Pm.jI x=some v->Nl mg x v
structure Cc (X:Cx) (Pm:Prog) (ct:Tx) (n:Nat) (Ra:L2.St->Prop) (E:XK) (N:List Str) (sc:az):Prop where
 txt:Txt X.prog X.w X.K X.mg X.base Pm ct n
 calm:X.calm=true
 room:df (2*n+1) X.A
 Ej:∀ σ,Ra σ->qt (kL X.prog X.w) X σ E
 nm:X.N=N
 sc:X.env.scope=sc
 nd:X.N.Nodup
 hK:X.K=ct.K
section
variable {ct:Tx} {X:Cx} {E:XK} {Pm:Prog} {n:Nat} {Ra:L2.St->Prop} {N:List Str} {sc:az}
theorem Cc.units(c:Cc X Pm ct n Ra E N sc):X.A.units+65<dn:=by have:=c.room.un;lia
theorem yD  (hs:X.env.scope=sc)(h:gl sc x=true):Gl X x/\(x==("__debug__":Str))=false/\x≠"__name__":=by
 unfold gl at h;simp only[Wa,beq_iff_eq,Wi,decide_eq_true_eq] at h;refine⟨?_,h.1.2,h.2⟩;show X.env.scope.names.lookup x=_;rw[hs];exact h.1.1
theorem Yg    (h:Ya e=true):ao (e::es) env=(false,eval e env)::ao es env:=by
 cases e <;> first|rfl|(simp[Ya] at h)
theorem yH  (h:Ya e=true)(op:dH):bf op e=false:=by
 cases e <;> first|rfl|(simp[Ya] at h)
theorem qcr  (h:Ya e=true):Rx e:=by
 intro o i;cases e <;> first|rfl|(simp[Ya] at h)
theorem yR   (h:Ya e=true):∀ x,bX e env x=pure x:=by
 intro x;cases e <;> first|rfl|(simp[Ya] at h)
theorem Qy     (h:zi e=true):aZ e f env w=w:=by
 cases e with
 |Call g as ks p =>
  cases g with
  |Name x q =>
   cases as with
   |nil =>
    cases ks with
    |nil =>
     have h':(x==("super":Str))=false:=by simpa[zi] using h
     have e1:(x != ("super":Str))=true:=by simp[bne,h']
     unfold aZ;simp only[e1,Bool.true_or,if_true]
    |cons _ _=>rfl
   |cons _ _=>rfl
  |_=>rfl
 |_=>rfl
theorem qo   (h:Qf Pm me N sc e=true):Ya e=true:=by
 unfold Qf at h;exact(xz.mp h).1
theorem Ye   (h:Qf Pm me N sc e=true):zq Pm me N sc e=true:=by
 unfold Qf at h;exact(xz.mp h).2
theorem ff{P:Prop}(h:false=true):P:=wj h
theorem ybx     (h:Ym Pm (m::ms) N sc (e::es)=true):Qf Pm m N sc e=true/\Ym Pm ms N sc es=true:=xz.mp (show(Qf Pm m N sc e&&Ym Pm ms N sc es)=true from h)
theorem yn :∀{es:List Expr},(∀ e∈es,Ya e=true)->ao es env=es.map λe=>(false,eval e env)
 |[],_=>rfl
 |e::es,h=>by
  rw[Yg (h e (by simp)),yn λx hx=>h x (by simp[hx])];rfl
theorem Yv    (h:∀ e∈es,Ya e=true):(a9 pos (ao es env)).any (·.1)=false:=by
 rw[yn h];unfold a9;rw[Ue,List.any_map]
 induction es with
 |nil=>rfl
 |cons e es ih=>simp[ju]
theorem PE.imp   (p:PE X e t)(k:∀ σ H Q,t' σ H Q->t σ H Q):PE X e t':=λpins s σ H Q I h=>p pins s σ H Q I (k σ H Q h)
theorem PT.imp   (p:PT X e t)(k:∀ σ H Q,t' σ H Q->t σ H Q):PT X e t':=λpins s σ H Q I h=>p pins s σ H Q I (k σ H Q h)
theorem PW.imp   (p:PW X e t)(k:∀ σ H Q,t' σ H Q->t σ H Q):PW X e t':=λwh pins s σ H Q I h=>p wh pins s σ H Q I (k σ H Q h)
theorem PA.imp   (p:PA X es t)(k:∀ σ H Q,t' σ H Q->t σ H Q):PA X es t':=λpos pins s σ H Q I h=>p pos pins s σ H Q I (k σ H Q h)
theorem PS.imp   (p:PS X e t)(k:∀ D σ H,t' D σ H->t D σ H):PS X e t':=λpins s σ H D I h=>p pins s σ H D I (k D σ H h)
theorem fj.imp   (p:fj X e t)(k:∀ D σ H,t' D σ H->t D σ H):fj X e t':=λpins s σ H D I h=>p pins s σ H D I (k D σ H h)
noncomputable def lG(ct:Tx)(tg:Tg):TG:=λv σ H Q=>∃ μ h σs m σs',Rel ct μ h H/\ba ct μ h H σ σs/\RV ct μ (bg μ h) H m v/\QI tg m σs=some σs'/\∀ σ',ba ct μ h H σ' σs'->Q σ' H
noncomputable def lGs(ct:Tx)(tgs:List Tg):sC:=λvs σ H Q=>∃ μ h σs ms σs',Rel ct μ h H/\ba ct μ h H σ σs/\ay ct μ (bg μ h) H ms vs/\qG tgs ms σs=some σs'/\∀ σ',ba ct μ h H σ' σs'->Q σ' H
theorem PG.imp   (p:PG X e t)(k:∀ v σ H Q,t' v σ H Q->t v σ H Q):PG X e t':=λpins s σ H v u Q I r h=>p pins s σ H v u Q I r (k v σ H Q h)
theorem oY.imp   (p:oY X e t)(k:∀ v σ H Q,t' v σ H Q->t v σ H Q):oY X e t':=λpins s σ H v u Q I r h=>p pins s σ H v u Q I r (k v σ H Q h)
theorem FZ{lo:Str->Bool}{t:Tg}{e:Expr}(h:QE lo N sc t e=true):∀(es:List Expr)(env:Env),bP (e::es) env=(false,dh e env)::bP es env:=by
 intro es env;cases t with
 |nm i=>cases e <;> first|rfl|(simp[QE] at h)
 |tp ts=>cases e <;> first|rfl|(simp[QE] at h)
theorem Rb{lo:Str->Bool}{env:Env}:∀{ts:List Tg}{es:List Expr},Y7 lo N sc ts es=true->(bP es env).length=ts.length/\(bP es env).findIdx? (·.1)=none
 |[],[],_=>⟨rfl,rfl⟩
 |[],_::_,h=>by simp[Y7] at h
 |_::_,[],h=>by simp[Y7] at h
 |t::ts,e::es,h=>by
  simp only[Y7,Wa] at h;obtain⟨h1,h2⟩:=Rb (env:=env) h.2;rw[FZ h.1 es env];exact⟨by simp[h1],by rw[List.findIdx?_cons];simp[h2]⟩
theorem RU:∀{ts:List Tg}{ms:List MV}{σs σs':aI},qG ts ms σs=some σs'->ms.length=ts.length
 |[],[],_,_,_=>rfl
 |[],_::_,_,_,e=>by simp[qG] at e
 |_::_,[],_,_,e=>by simp[qG] at e
 |t::ts,m::ms,σs,σs',e=>by
  simp only[qG,wb] at e;obtain⟨σ1,_,e2⟩:=e;simp[RU e2]
mutual
theorem sG{lo:Str->Bool}(hN:X.N=N)(hs:X.env.scope=sc)(nd:X.N.Nodup)(hc:X.calm=true)(hf:∀ x,lo x=true->X.fn x=true):∀(t:Tg)(e:Expr),QE lo N sc t e=true->PG X e (lG ct t)
 |.nm i,e,h=>by
  cases e with
  |Name x p =>
   simp only[QE,rg,Wa,beq_iff_eq,Ui] at h;obtain⟨h1,h2⟩:=h;have hi:X.N[i]?=some x:=by rw[hN];exact h1
   have hk:Loc X.env.scope x:=by
    rw[hs]
    rcases h2 with h2|⟨_,h2⟩
    ·exact .inl h2
    ·exact .inr h2
   have hf':X.fn x=true\/X.env.scope.names.lookup x=some .local:=by
    rw[hs]
    rcases h2 with h2|⟨hl,h2⟩
    ·exact .inr h2
    ·exact .inl (hf x hl)
   refine PG.imp (Fg nd hi hk hf') λv σ H Q q=>?_;obtain⟨μ,hh,σs,m,σs',rel,aF,r,e,k⟩:=q;simp[QI] at e;subst e;exact k _ (aF.set i r)
  |_=>simp[QE] at h
 |.tp ts,e,h=>by
  cases e with
  |Tuple es k p =>
   simp only[QE] at h;obtain⟨h1,h2⟩:=Rb (env:=X.env) h;refine PG.imp (Ydc hc (Nc hN hs nd hc hf ts es h) h1 h2) λv σ H Q q=>?_;obtain⟨μ,hh,σs,m,σs',rel,aF,r,e,k⟩:=q;simp only[QI,wb] at e;obtain⟨ms,e1,e2⟩:=e;obtain⟨a,vs,rfl,_,rd,rs⟩:=yC e1 r;exact⟨a,vs,rfl,.inl (.inl rd),by rw[rs.length];exact RU e2,μ,hh,σs,ms,σs',rel,aF,rs,e2,k⟩
  |_=>simp[QE] at h
theorem Nc{lo:Str->Bool}(hN:X.N=N)(hs:X.env.scope=sc)(nd:X.N.Nodup)(hc:X.calm=true)(hf:∀ x,lo x=true->X.fn x=true):∀(ts:List Tg)(es:List Expr),Y7 lo N sc ts es=true->oY X es (lGs ct ts)
 |[],es,h=>by
  cases es with
  |nil =>
   refine oY.imp zcB λv σ H Q q=>?_;obtain⟨μ,hh,σs,ms,σs',rel,aF,rs,e,k⟩:=q;cases ms with
   |nil =>
    simp only[ay] at rs;subst rs;simp[qG] at e;subst e;exact⟨rfl,k _ aF⟩
   |cons m ms=>simp[qG] at e
  |cons e es=>simp[Y7] at h
 |t::ts,es,h=>by
  cases es with
  |nil=>simp[Y7] at h
  |cons e es =>
   simp only[Y7,Wa] at h;refine oY.imp (ycp (sG hN hs nd hc hf t e h.1) (Nc hN hs nd hc hf ts es h.2) (by rw[FZ h.1 es X.env];rfl)) λv σ H Q q=>?_;obtain⟨μ,hh,σs,ms,σs',rel,aF,rs,e,k⟩:=q;cases ms with
   |nil=>simp[qG] at e
   |cons m ms =>
    simp only[qG,wb] at e;obtain⟨σ1,e1,e2⟩:=e;simp only[ay] at rs;obtain⟨v1,vr,rfl,r1,r2⟩:=rs;exact⟨v1,vr,rfl,μ,hh,σs,m,σ1,rel,aF,r1,e1,λσ' iS=>⟨μ,hh,σ1,ms,σs',rel,iS,r2,e2,k⟩⟩
end
end
section
variable {ct:Tx} {X:Cx} {E:XK} {Pm:Prog} {n:Nat} {Ra:L2.St->Prop} {N:List Str} {sc:az}
theorem PI.imp   (p:PI X tg e t)(k:∀ σ H Q,t' σ H Q->t σ H Q):PI X tg e t':=λpins s σ H Q I h=>p pins s σ H Q I (k σ H Q h)
def Wk(ct:Tx)(J:It)(items:List MV)(g:zG)(μ1:List ae)(h1:MH)(H1:Hp):Prop:=∀(i:Nat) μ h H,Ext μ1 h1 H1 μ h H->Rel ct μ h H->aX g h ->
 (i<items.length->J.go i H/\∀ x H2,J.mU i H x H2->∃ m,items[i]?=some m/\Ext μ h H μ h H2/\Rel ct μ h H2/\RV ct μ (bg μ h) H2 m x)/\(i=items.length->J.stop i H)
def rk(ct:Tx)(b:Bool)(a:ae)(items:List MV)(g:zG)(μ1:List ae)(h1:MH)(H1:Hp):Prop:=∀ μ h H,Ext μ1 h1 H1 μ h H->Rel ct μ h H->aX g h->∃ vs,w8 ct H b a vs/\ay ct μ (bg μ h) H items vs
theorem K5       (rel:Rel ct μ h H)(e:Qa h m=some items)(r:RV ct μ (bg μ h) H m v):∃ b a,v=.ref a/\rk ct b a items (qe h m) μ h H:=by
 cases m with
 |f x =>
  rcases zB e with e'|e'|⟨ns,e',rfl⟩
  ·obtain⟨a,vs,rfl,na,rd,rs⟩:=yC e' r;exact⟨true,a,rfl,λμ' h' H' ex _ _=>⟨vs,ir.of (ex.keep a _ rd na),rs.ext ex⟩⟩
  ·cases x with
   |lst xs =>
    simp only[RV,RF] at r;obtain⟨a,vs,rfl,na,rd,rs⟩:=r;cases e';exact⟨false,a,rfl,λμ' h' H' ex _ _=>⟨vs,.inl (Rd.keep (λo q=>ex.keep a o q na) rd),(ay.Bi (μ:=μ) rs).ext ex⟩⟩
   |_=>cases e'
  ·cases e';simp only[RV,RF] at r;obtain⟨a,rfl,q⟩:=r;exact⟨false,a,rfl,λμ' h' H' ex _ _=>⟨_,DH (L:=bg μ' h') (q.imp (λ⟨n,o,e⟩=>⟨ex.let.lF a _ e n,o,ex.keep a _ e n⟩) id),xR ns⟩⟩
 |tup xs =>
  rcases zB e with e'|e'|⟨ns,e',_⟩
  ·obtain⟨a,vs,rfl,na,rd,rs⟩:=yC e' r;exact⟨true,a,rfl,λμ' h' H' ex _ _=>⟨vs,ir.of (ex.keep a _ rd na),rs.ext ex⟩⟩
  ·cases e'
  ·cases e'
 |ref i =>
  have e0:Ze h i=some items:=e;simp only[RV] at r;obtain⟨b,eb,rfl⟩:=r;refine⟨false,b,rfl,λμ' h' H' ex bL g=>?_⟩;have g':Ze h' i=some items:=g (i,items) (by simp[qe,e0]);obtain⟨b',vs,i7,hb,rs⟩:=bL.lst g';obtain⟨ν,rfl⟩:=ex.pre;rw[ub (xa.mp eb).1,eb] at i7;cases i7;exact⟨vs,fR.of hb,rs⟩
 |exc c=>cases e
theorem aX.left   (k:aX (g++g') h):aX g h:=λp hp=>k p (Uf _ hp)
theorem aX.right   (k:aX (g++g') h):aX g' h:=λp hp=>k p (Wf _ hp)
theorem ycV{K:Gc}(hK:K=ct.K){b:Bool}{a:ae}{items:List MV}{g:zG}{μ1:List ae}{h1:MH}{H1:Hp}(st:rk ct b a items g μ1 h1 H1):Wk ct (oz K b a) items g μ1 h1 H1:=by
 intro i μ h H ex rel gd;obtain⟨vs,sq,rs⟩:=st μ h H ex rel gd;have hl:=rs.length;refine⟨λhi=>⟨oz.go (sq.s hK) (by lia),λx H2 y=>?_⟩,λhi=>?_⟩
 ·obtain⟨rfl,e⟩:=oz.mU (sq.s hK) y;obtain⟨m,em,rm⟩:=rs.get' e;exact⟨m,em,Ext.refl _ _ _,rel,rm⟩
 ·rw[hi,<- hl];exact oz.stop (sq.s hK)
theorem Qc8{K:Gc}(hK:K=ct.K){b1 b2:Bool}{a1 a2:ae}{xs ys:List MV}{g g':zG}{μ1:List ae}{h1:MH}{H1:Hp}(s1:rk ct b1 a1 xs g μ1 h1 H1)(s2:rk ct b2 a2 ys g' μ1 h1 H1) :
  Wk ct (Lm K b1 b2 a1 a2) ((xs.zip ys).map λp=>Qi [p.1,p.2]) (g++g') μ1 h1 H1:=by
 intro i μ h H ex rel gd;obtain⟨vs,sq,rs⟩:=s1 μ h H ex rel (aX.left gd);obtain⟨ws,GS,Nh⟩:=s2 μ h H ex rel (aX.right gd);have hl:=rs.length;have tY:=Nh.length;refine⟨λhi=>?_,λhi=>?_⟩
 ·simp only[wc,WD] at hi;refine⟨⟨vs,ws,sq.s hK,GS.s hK,by lia,by lia⟩,λx H2 y=>?_⟩;obtain⟨T,x1,y1,rfl,hT,rfl,e1,e2⟩:=y;obtain⟨m1,em1,r1⟩:=rs.get' (e1 vs (sq.s hK));obtain⟨m2,em2,r2⟩:=Nh.get' (e2 ws (GS.s hK));have JK:=Ext.new rel hT (.tup [x1,y1]);refine⟨Qi [m1,m2],?_,JK,rel.new hT _,zI (Y0 rel hT) zf (ay.cons (r1.ext JK) (ay.cons (r2.ext JK) ay.nil))⟩;simp only[Xc,VB,Uc];exact⟨(m1,m2),⟨em1,em2⟩,rfl⟩
 ·simp only[wc,WD] at hi;refine⟨vs,ws,sq.s hK,GS.s hK,?_⟩
  lia
theorem qc9{lo:Int}{k:Nat}{μ1:List ae}{h1:MH}{H1:Hp}(f:Nat->Int)(hf:∀ i:Nat,f i=lo+i):Wk ct (vM lo k) ((Vb k).map λi=>MV.f (.int (f i))) [] μ1 h1 H1:=by
 intro i μ h H ex rel gd;refine⟨λhi=>?_,λhi=>?_⟩
 ·have nY:i<k:=by simpa using hi
  refine⟨nY,λx H2 y=>?_⟩;obtain⟨rfl,rfl⟩:=y;refine⟨.f (.int (f i)),by simp[nY],Ext.refl _ _ _,rel,?_⟩;rw[hf];exact YA _
 ·have nY:i=k:=by simpa using hi
  exact Uq nY.symm
noncomputable def lI(ct:Tx)(Ra:L2.St->Prop)(E:XK)(ev:aI->MH->R (List MV))(it:String):TI:=λσ H R=>∃ μ h σs,Rel ct μ h H/\ba ct μ h H σ σs/\Ra σ /\
 Po ct E (ev σs h) μ h H λxs μ1 h1 H1=>∃ items g,i5 it xs h1=some (items,g)/\Rel ct μ1 h1 H1/\∀ J,Wk ct J items g μ1 h1 H1->R J H1
theorem Yc5(hK:X.K=ct.K)   (h:PE X e (lE ct Ra E ev)):PI X tg e (lI ct Ra E (λσ hh=>(ev σ hh).bind λx h1=>.ok [x] h1) "seq"):=PI.imp (HY X.K h) λσ H Q q=>by
 obtain⟨μ,hh,σs,rel,aF,ra,p⟩:=q;refine lE.mk rel aF ra p λm v μ1 h1 H1 ex ar aW rv p1=>?_;obtain⟨items,g,e1,_,k⟩:=p1.now ar;simp only[yu,Uc,Ju.injEq] at e1;obtain⟨xs,e2,rfl,rfl⟩:=e1;obtain⟨b,a,rfl,st⟩:=K5 ar e2 rv;obtain⟨vs,sq,_⟩:=st μ1 h1 H1 (Ext.refl _ _ _) ar (λp hp=>by
  cases m with
  |ref i =>
   have e0:Ze h1 i=some xs:=e2;simp[qe,e0] at hp;subst hp;exact e0
  |f _=>simp[qe] at hp
  |tup _=>simp[qe] at hp
  |exc _=>simp[qe] at hp)
 exact⟨b,a,rfl,⟨vs,sq.s hK⟩,k _ (ycV hK st)⟩
theorem P7    (e2:Qa h1 m=some xs):aX (qe h1 m) h1:=λp hp=>by
 cases m with
 |ref i =>
  have e0:Ze h1 i=some xs:=e2;simp[qe,e0] at hp;subst hp;exact e0
 |f _=>simp[qe] at hp
 |tup _=>simp[qe] at hp
 |exc _=>simp[qe] at hp
theorem Qb6{tg:Expr}{es:List Expr}{p pos:Pos}{ev:aI->MH->R (List MV)}(hg:Gl X "range")(hm:X.mg "range"=none)(ha:PA X es (lA ct Ra E ev))(cC:∀ e∈es,Ya e=true)(hl:es.length=1)(hn:∀ σ h xs h',ev σ h=.ok xs h'->xs.length=es.length) :
  PI X tg (.Call (.Name "range" p) es [] pos) (lI ct Ra E ev "range"):=by
 rcases es with _|⟨a,_|⟨b,_|⟨c,_|⟨d,es⟩⟩⟩⟩
 ·simp at hl
 ·refine PI.imp (QbU hg hm ha (yn cC)) λσ H Q q=>?_;obtain⟨μ,hh,σs,rel,aF,ra,p⟩:=q;refine⟨μ,hh,σs,rel,aF,ra,?_⟩;cases er:ev σs hh with
  |exc c h'=>rw[er] at p;exact p
  |stuck=>rw[er] at p;exact p
  |ok xs h' =>
   rw[er] at p;have hx:=hn _ _ _ _ er;intro μ' H' ex bL vs eV;obtain⟨items,g,e1,_,k⟩:=p μ' H' ex bL
   rcases xs with _|⟨m,_|⟨m2,xs⟩⟩
   ·simp at hx
   ·obtain⟨v,rfl,rm⟩:=Zu eV;simp only[Ydb,wb] at e1;obtain⟨j,e2,e3⟩:=e1;have:=yj e2;subst this;split at e3
    next c =>
     simp only[Kc.injEq,Ju.injEq] at e3;obtain⟨rfl,rfl⟩:=e3;rw[Qp rm];exact⟨j,rfl,c.1,c.2,k _ (qc9 _ λi=>by simp)⟩
    next=>cases e3
   ·simp at hx
 ·simp at hl
 ·simp at hl
 ·simp at hl
theorem qc6(hK:X.K=ct.K)      (hg:Gl X "zip")(hm:X.mg "zip"=none)(ha:PA X [a,b] (lA ct Ra E ev))(cC:∀ e∈[a,b],Ya e=true)(hn:∀ σ h xs h',ev σ h=.ok xs h'->xs.length=2) :
  PI X (.Tuple es kt pt) (.Call (.Name "zip" p) [a,b] [] pos) (lI ct Ra E ev "zip"):=by
 refine PI.imp (BB X.K hg hm ha (yn cC) (yn λe he=>cC e (by simp at he;simp[he]))) λσ H Q q=>?_;obtain⟨μ,hh,σs,rel,aF,ra,p⟩:=q;refine⟨μ,hh,σs,rel,aF,ra,?_⟩;cases er:ev σs hh with
 |exc c h'=>rw[er] at p;exact p
 |stuck=>rw[er] at p;exact p
 |ok xs h' =>
  rw[er] at p;have hx:=hn _ _ _ _ er;intro μ' H' ex bL vs eV;obtain⟨items,g,e1,_,k⟩:=p μ' H' ex bL
  rcases xs with _|⟨m,_|⟨m2,_|⟨m3,xs⟩⟩⟩
  ·simp at hx
  ·simp at hx
  ·obtain⟨v,v',rfl,rm,tf⟩:=Fj eV;simp only[ycx,wb,Uc,Ju.injEq] at e1;obtain⟨us,e2,ws,e3,rfl,rfl⟩:=e1;obtain⟨b1,a1,rfl,s1⟩:=K5 bL e2 rm;obtain⟨b2,a2,rfl,s2⟩:=K5 bL e3 tf;obtain⟨vs1,q1,_⟩:=s1 _ _ _ (Ext.refl _ _ _) bL (P7 e2);obtain⟨vs2,q2,_⟩:=s2 _ _ _ (Ext.refl _ _ _) bL (P7 e3);exact⟨b1,b2,a1,a2,rfl,⟨vs1,q1.s hK⟩,⟨vs2,q2.s hK⟩,k _ (Qc8 hK s1 s2)⟩
  ·simp at hx
end
theorem YE  (h:jk a=jk b):a=b:=by
 rw[Jk,Jk] at h;injection h with h
 have h2:a.toList.map Char.toNat=b.toList.map Char.toNat:=by simpa using congrArg UF h
 have h3:a.toList=b.toList:=by
  refine(List.map_inj_right λx y e=>?_).mp h2;exact Char.ext (UInt32.toNat_inj.mp e)
 exact String.ext h3
section
variable {ct:Tx} {X:Cx} {E:XK} {Pm:Prog} {n:Nat} {Ra:L2.St->Prop} {N:List Str} {sc:az}
noncomputable def fM(ev:aI->MH->R MV):aI->MH->R Bool:=λσ h=>(ev σ h).bind λx h1=>opt (ZE x) λk=>.ok k h1
theorem Ly     (q:lT ct Ra E (fM ev) σ H Q):lE ct Ra E ev σ H λx H'=>∃ k,x=.bl k/\Q k H':=by
 obtain⟨μ,h,σs,rel,aF,ra,p⟩:=q;refine lE.mk rel aF ra p λm v μ1 h1 H1 ex ar aW rv p1=>?_;obtain⟨k,e,p2⟩:=Po.opt p1;have:=Dn e;subst this;exact⟨k,uY rv,p2.now ar⟩
theorem Dp    (p:PE X e t)(pt:PT X e (FW t))(k:∀ σ H Q,lE ct Ra E ev σ H Q->t σ H Q):PE X e (lE ct Ra E ev)/\PT X e (lT ct Ra E (fM ev)) :=
 ⟨PE.imp p k,PT.imp pt λσ H Q q=>k σ H _ (Ly q)⟩
theorem Qd   (p:PE X e (lE ct Ra E ev))(he:∀ whole,lg e X.env whole=(do let v<-whole;kX e.pos;dP [v] (truthy v)):=by intro _;rfl):PE X e (lE ct Ra E ev)/\PT X e (lT ct Ra E (fM ev)) :=
 ⟨p,PT.imp (KA p he) λσ H Q q=>Ly q⟩
section
variable {ea eb ec:aI->MH->R MV} {a b c:Expr} {pos:Pos}
theorem DN   (h:PE X a (tC v))(r:∀ μ L H,RV ct μ L H (.f x) v):PE X a (lE ct Ra E λ_ h=>.ok (.f x) h):=PE.imp h λσ H Q q=>by
 obtain⟨μ,hh,σs,rel,aF,ra,p⟩:=q;exact p.now rel v (r _ _ _)
theorem Cr{i:Nat}{x:Str}(hN:X.N[i]?=some x)(hv:oX X.env.scope x=true):PE X (.Name x pos) (lE ct Ra E λσ h=>opt ((σ[i]?).join) λv=>.ok v h):=by
 unfold oX at hv;simp only[Wa,Ui,beq_iff_eq,Wi] at hv;refine PE.imp (Fh hN (by rcases hv.1.1 with (h|h)|h;exact .inl h;exact .inr (.inl h);exact .inr (.inr h)) hv.1.2 hv.2) λσ H Q q=>?_;obtain⟨μ,hh,σs,rel,aF,ra,p⟩:=q;obtain⟨m,e,p⟩:=Po.opt p;have e':σs[i]?=some (some m):=by
  cases q:σs[i]? with
  |none=>rw[q] at e;cases e
  |some z=>rw[q] at e;exact congrArg some e
 obtain⟨v,e2,rv⟩:=aF.at_ i m e';exact⟨v,e2,p.now rel v rv⟩
theorem CM(fz)(op)(ha:PE X a (lE ct Ra E ea))(hb:PE X b (lE ct Ra E eb)):PE X (.BinOp a (Er op) b pos) (lE ct Ra E λσ h=>(ea σ h).bind λx h1=>(eb σ h1).bind λy h2=>qh fz op x y h2) :=
 PE.imp (K' (Yc9 (ct:=ct) (E:=E) fz op) ha hb) λσ H Q q=>by
  obtain⟨μ,h,σs,rel,aF,ra,p⟩:=q;exact lE.mk rel aF ra p λm v μ1 h1 H1 ex ar aW rv p1=>lE.mk ar aW ra p1 λm2 v2 μ2 h2 H2 e8 br dr j7 p2=>⟨μ2,h2,m,m2,br,rv.ext e8,j7,p2⟩
theorem Cz(ha:PE X a (lE ct Ra E ea)):PE X (.UnaryOp .USub a pos) (lE ct Ra E λσ h=>(ea σ h).bind λx h1=>opt (yd x) λi=>.ok (.f (.int (-i))) h1) :=
 PE.imp (OU Nj ha) λσ H Q q=>by
  obtain⟨μ,h,σs,rel,aF,ra,p⟩:=q;refine lE.mk rel aF ra p λm v μ1 h1 H1 ex ar aW rv p1=>?_;obtain⟨i,e,p2⟩:=Po.opt p1;have:=yj e;subst this;exact⟨i,Qp rv,p2.now ar _ (YA _)⟩
theorem CJ(hK:X.K=ct.K)(op)(hu:X.A.units+65<dn)(ha:PE X a (lE ct Ra E ea))(hb:PE X b (lE ct Ra E eb))(hp:Ya b=true) :
  PE X (.Compare a [nA op] [b] pos) (lE ct Ra E λσ h=>(ea σ h).bind λx h1=>(eb σ h1).bind λy h2=>opt (ZH op x y h2) λk=>.ok (.f (.bl k)) h2) /\
  PT X (.Compare a [nA op] [b] pos) (lT ct Ra E (fM λσ h=>(ea σ h).bind λx h1=>(eb σ h1).bind λy h2=>opt (ZH op x y h2) λk=>.ok (.f (.bl k)) h2)) :=
 Dp (zcJ (vX (ct:=ct) hK hu op) ha hb (yH hp _)) (MB (vX (ct:=ct) hK hu op) ha hb (yH hp _)) λσ H Q q=>by
  obtain⟨μ,h,σs,rel,aF,ra,p⟩:=q;refine lE.mk rel aF ra p λm v μ1 h1 H1 ex ar aW rv p1=>lE.mk ar aW ra p1 λm2 v2 μ2 h2 H2 e8 br dr j7 p2=>?_;obtain⟨k,e,p3⟩:=Po.opt p2;exact⟨μ2,h2,m,m2,k,br,rv.ext e8,j7,e,p3.now br _ (QC _)⟩
theorem ZcA(hK:X.K=ct.K)(op kZ)(hu:X.A.units+65<dn)(ha:PE X a (lE ct Ra E ea))(hb:PE X b (lE ct Ra E eb))(hc:PE X c (lE ct Ra E ec))(hp:Ya c=true) :
  PE X (.Compare a [nA op,nA kZ] [b,c] pos) (lE ct Ra E λσ h=>(ea σ h).bind λx h1=>(eb σ h1).bind λy h2=>opt (ZH op x y h2) λk=>if k=true then(ec σ h2).bind λz h3=>opt (ZH kZ y z h3) λk=>.ok (.f (.bl k)) h3 else .ok (.f (.bl false)) h2) /\
  PT X (.Compare a [nA op,nA kZ] [b,c] pos) (lT ct Ra E (fM λσ h=>(ea σ h).bind λx h1=>(eb σ h1).bind λy h2=>opt (ZH op x y h2) λk=>if k=true then(ec σ h2).bind λz h3=>opt (ZH kZ y z h3) λk=>.ok (.f (.bl k)) h3 else .ok (.f (.bl false)) h2)) :=
 Dp (zcl (vX (ct:=ct) hK hu op) (vX (ct:=ct) hK hu kZ) ha hb hc (yH hp _)) (Qch (vX (ct:=ct) hK hu op) (vX (ct:=ct) hK hu kZ) ha hb hc (yH hp _)) λσ H Q q=>by
  obtain⟨μ,h,σs,rel,aF,ra,p⟩:=q;refine lE.mk rel aF ra p λm v μ1 h1 H1 ex ar aW rv p1=>lE.mk ar aW ra p1 λm2 v2 μ2 h2 H2 e8 br dr j7 p2=>?_;obtain⟨k,e,p3⟩:=Po.opt p2;refine⟨μ2,h2,m,m2,k,br,rv.ext e8,j7,e,k,rfl,?_⟩;cases k with
  |false=>exact p3.now br _ (QC _)
  |true =>
   refine lE.mk br dr ra p3 λm3 v3 μ3 h3 H3 iA fZ sZ GZ p4=>?_;obtain⟨k',e',p5⟩:=Po.opt p4;exact⟨μ3,h3,m2,m3,k',fZ,j7.ext iA,GZ,e',p5.now fZ _ (QC _)⟩
theorem Kw      (r:RV ct μ L H m v):qw m=decide (v=.bh):=by
 cases m with
 |f x =>
  cases x with
  |bh=>simp only[RV,RF] at r;subst r;rfl
  |bl _=>simp only[RV,RF] at r;subst r;rfl
  |int _=>simp only[RV,RF] at r;subst r;rfl
  |str _=>simp only[RV,RF] at r;subst r;rfl
  |tup _=>simp only[RV,RF] at r;obtain⟨_,_,rfl,_⟩:=r;rfl
  |lst _=>simp only[RV,RF] at r;obtain⟨_,_,rfl,_⟩:=r;rfl
  |obj _ _ _=>simp only[RV,RF] at r;obtain⟨_,_,_,rfl,_⟩:=r;rfl
  |eZ _=>simp only[RV,RF] at r;obtain⟨_,rfl,_⟩:=r;rfl
  |tab _=>simp only[RV,RF] at r;obtain⟨_,_,rfl,_⟩:=r;rfl
  |cE _=>simp only[RV,RF] at r;obtain⟨_,_,rfl,_⟩:=r;rfl
 |ref _=>simp only[RV] at r;obtain⟨_,_,rfl⟩:=r;rfl
 |tup _=>simp only[RV] at r;obtain⟨_,_,rfl,_⟩:=r;rfl
 |exc _=>simp only[RV] at r;obtain⟨_,rfl,_⟩:=r;rfl
theorem CF   (ha:PE X a (lE ct Ra E ea)) :
  PE X (.Compare a [.Is] [.Constant .none j p2] pos) (lE ct Ra E λσ h=>(ea σ h).bind λx h1=>.ok (.f (.bl (qw x))) h1) /\
  PT X (.Compare a [.Is] [.Constant .none j p2] pos) (lT ct Ra E (fM λσ h=>(ea σ h).bind λx h1=>.ok (.f (.bl (qw x))) h1)) :=
 Dp (KP (MC ha)) (KY (MC ha)) λσ H Q q=>by
  obtain⟨μ,h,σs,rel,aF,ra,p⟩:=q;refine lE.mk rel aF ra p λm v μ1 h1 H1 ex ar aW rv p1=>?_;rw[<- Kw rv];exact p1.now ar _ (QC _)
theorem zc1   (ha:PE X a (lE ct Ra E ea)) :
  PE X (.Compare a [.IsNot] [.Constant .none j p2] pos) (lE ct Ra E λσ h=>(ea σ h).bind λx h1=>.ok (.f (.bl (!qw x))) h1) /\
  PT X (.Compare a [.IsNot] [.Constant .none j p2] pos) (lT ct Ra E (fM λσ h=>(ea σ h).bind λx h1=>.ok (.f (.bl (!qw x))) h1)) :=
 Dp (KP (LU ha)) (KY (LU ha)) λσ H Q q=>by
  obtain⟨μ,h,σs,rel,aF,ra,p⟩:=q;refine lE.mk rel aF ra p λm v μ1 h1 H1 ex ar aW rv p1=>?_;rw[<- Kw rv];exact p1.now ar _ (QC _)
theorem Cy(ha:PE X a (lE ct Ra E ea))(ta:PT X a (lT ct Ra E (fM ea))) :
  PE X (.UnaryOp .Not a pos) (lE ct Ra E λσ h=>(ea σ h).bind λx h1=>opt (ZE x) λk=>.ok (.f (.bl (!k))) h1) /\
  PT X (.UnaryOp .Not a pos) (lT ct Ra E (fM λσ h=>(ea σ h).bind λx h1=>opt (ZE x) λk=>.ok (.f (.bl (!k))) h1)):=by
 refine⟨PE.imp (YcU ha) λσ H Q q=>?_,PT.imp (Mi ta) λσ H Q q=>?_⟩
 ·obtain⟨μ,h,σs,rel,aF,ra,p⟩:=q;refine lE.mk rel aF ra p λm v μ1 h1 H1 ex ar aW rv p1=>?_;obtain⟨k,e,p2⟩:=Po.opt p1;have:=Dn e;subst this;exact⟨k,uY rv,p2.now ar _ (QC _)⟩
 ·obtain⟨μ,h,σs,rel,aF,ra,p⟩:=q;refine⟨μ,h,σs,rel,aF,ra,?_⟩;dsimp only[fM] at p ⊢;cases er:ea σs h with
  |stuck=>rw[er] at p;exact p
  |exc c h'=>rw[er] at p;exact p
  |ok x h' =>
   rw[er] at p;simp only[R.aH] at p ⊢;cases eb:ZE x with
   |none=>rw[eb] at p;exact p
   |some k =>
    rw[eb] at p;exact p
theorem CD(tc:PT X c (lT ct Ra E (fM ec)))(ha:PE X a (lE ct Ra E ea))(hb:PE X b (lE ct Ra E eb)) :
  PE X (.IfExp c a b pos) (lE ct Ra E λσ h=>(ec σ h).bind λx h1=>opt (ZE x) λk=>if k=true then ea σ h1 else eb σ h1) :=
 PE.imp (Qb9 tc ha hb) λσ H Q q=>by
  obtain⟨μ,h,σs,rel,aF,ra,p⟩:=q;have p':Po ct E ((fM ec σs h).bind λk h1=>if k=true then ea σs h1 else eb σs h1) μ h H (kV ct Q):=by
   dsimp only[fM] at p ⊢;cases er:ec σs h with
   |stuck=>rw[er] at p;exact p
   |exc c h'=>rw[er] at p;exact p
   |ok x h' =>
    rw[er] at p;simp only[R.aH] at p ⊢;cases eb:ZE x with
    |none=>rw[eb] at p;exact p
    |some k=>rw[eb] at p;exact p
  refine lT.mk rel aF ra p' λk μ1 h1 H1 ex ar aW p1=>?_;cases k with
  |true=>exact⟨μ1,h1,σs,ar,aW,ra,p1⟩
  |false=>exact⟨μ1,h1,σs,ar,aW,ra,p1⟩
theorem CH(ha:PE X a (lE ct Ra E ea)):PE X a (lE ct Ra E λσ h=>(ea σ h).bind λx h1=>qN x h1):=PE.imp ha λσ H Q q=>by
 obtain⟨μ,h,σs,rel,aF,ra,p⟩:=q;refine lE.mk rel aF ra p λm v μ1 h1 H1 ex ar aW rv p1=>?_;obtain⟨x,h',pS,bL,rv',k⟩:=Nr ar rv p1;exact k v rv'
theorem Cv(hK:X.K=ct.K)(ha:PE X a (lE ct Ra E ea))(hb:PE X b (lE ct Ra E eb))(hp:Ya b=true) :
  PE X (.Subscript a b pos) (lE ct Ra E λσ h=>(ea σ h).bind λx h1=>(eb σ h1).bind λy h2=>opt (Qa h2 x) λxs=>opt (yd y) λk=>opt (dR xs k) λv=>.ok v h2) :=
 PE.imp (Fc (ycF (ct:=ct) hK) ha hb (qcr hp)) λσ H Q q=>by
  obtain⟨μ,h,σs,rel,aF,ra,p⟩:=q;refine lE.mk rel aF ra p λm v μ1 h1 H1 ex ar aW rv p1=>lE.mk ar aW ra p1 λm2 v2 μ2 h2 H2 e8 br dr j7 p2=>?_;obtain⟨xs,e1,p3⟩:=Po.opt p2;obtain⟨k,e2,p4⟩:=Po.opt p3;obtain⟨w,e3,p5⟩:=Po.opt p4;have:=yj e2;subst this;exact⟨μ2,h2,m,k,xs,w,br,rv.ext e8,Qp j7,e1,e3,p5.now br⟩
end
end
section
variable {ct:Tx} {X:Cx} {E:XK} {Pm:Prog} {n:Nat} {Ra:L2.St->Prop} {N:List Str} {sc:az}
def Bo(ct:Tx)(X:Cx)(Ra:L2.St->Prop)(E:XK)(Pm:Prog)(n:Nat):List ME->List Expr->Prop
 |[],[]=>True
 |m::ms,e::es=>(Ya e=true/\PE X e (lE ct Ra E (qa Pm (run Pm n) m))/\(iY m=true->PT X e (lT ct Ra E (fM (qa Pm (run Pm n) m)))))/\Bo ct X Ra E Pm n ms es
 |_,_=>False
theorem Bo.pa:∀{ms:List ME}{es:List Expr},Bo ct X Ra E Pm n ms es->PA X es (lA ct Ra E (Zh Pm (run Pm n) ms))
 |[],[],_=>PA.imp yk λσ H Q q=>by
  obtain⟨μ,h,σs,rel,aF,ra,p⟩:=q;simp only[Zh] at p;exact p.now rel [] ay.nil
 |[],_::_,b=>b.elim
 |_::_,[],b=>b.elim
 |m::ms,e::es,b=>PA.imp (Zb b.1.2.1 (Bo.pa b.2) (Yg b.1.1)) λσ H Q q=>by
  obtain⟨μ,h,σs,rel,aF,ra,p⟩:=q;simp only[Zh] at p;refine lE.mk rel aF ra p λm' v μ1 h1 H1 ex ar aW rv p1=>?_;refine lA.mk ar aW ra p1 λms' vs μ2 h2 H2 e8 br dr eV p2=>?_;exact p2.now br _ (ay.cons (rv.ext e8) eV)
theorem Bo.plain:∀{ms:List ME}{es:List Expr},Bo ct X Ra E Pm n ms es->∀ e∈es,Ya e=true
 |[],[],_,e,he=>by simp at he
 |[],_::_,b,_,_=>b.elim
 |_::_,[],b,_,_=>b.elim
 |m::ms,e::es,b,x,hx=>by
  rcases Wb.mp hx with rfl|hx
  ·exact b.1.1
  ·exact Bo.plain b.2 x hx
theorem Bo.length:∀{ms:List ME}{es:List Expr},Bo ct X Ra E Pm n ms es->ms.length=es.length
 |[],[],_=>rfl
 |[],_::_,b=>b.elim
 |_::_,[],b=>b.elim
 |m::ms,e::es,b=>by simp[Bo.length b.2]
theorem QR :∀{ms:List ME}{σ:aI}{h:MH}{xs:List MV}{h':MH},Zh Pm W ms σ h=.ok xs h'->xs.length=ms.length
 |[],σ,h,xs,h',e=>by simp only[Zh,R.ok.injEq] at e;simp[<- e.1]
 |m::ms,σ,h,xs,h',e=>by
  simp only[Zh] at e;cases e1:qa Pm W m σ h with
  |stuck=>rw[e1] at e;cases e
  |exc c h2=>rw[e1] at e;cases e
  |ok x h1 =>
   rw[e1] at e;simp only[R.aH] at e;cases e2:Zh Pm W ms σ h1 with
   |stuck=>rw[e2] at e;cases e
   |exc c h2=>rw[e2] at e;cases e
   |ok ys h2 =>
    rw[e2] at e;simp only[R.aH,R.ok.injEq] at e;rw[<- e.1,Vc,Vc,QR e2]
theorem Mq :∀{ms:List ME}{es:List Expr},Bo ct X Ra E Pm n ms es->ms.all iY=true->PE X (.BoolOp .And es pos) (lE ct Ra E (Yu Pm (run Pm n) ms))/\PW X (.BoolOp .And es pos) (lT ct Ra E (fM (Yu Pm (run Pm n) ms)))
 |[],[],_,_=>⟨λpins s σ H Q I q=>by
   obtain⟨μ,h,σs,rel,aF,ra,p⟩:=q;simp only[Yu] at p;exact p.elim,λwh pins s σ H Q I q=>by
   obtain⟨μ,h,σs,rel,aF,ra,p⟩:=q;simp only[fM,Yu] at p;exact p.elim⟩
 |[],_::_,b,_=>b.elim
 |_::_,[],b,_=>b.elim
 |[m],[e],b,ht=>by
  simp at ht;refine⟨PE.imp (Mj b.1.2.1) λσ H Q q=>?_,PW.imp (ZcJ (b.1.2.2 ht)) λσ H Q q=>?_⟩
  ·simpa only[Yu] using q
  ·have:Yu Pm (run Pm n) [m]=qa Pm (run Pm n) m:=by funext σ h;simp only[Yu]
   rw[this] at q;exact q
 |[m],_::_::_,b,_=>b.2.elim
 |_::_::_,[_],b,_=>b.2.elim
 |m::m'::ms,e::e'::es,b,ht=>by
  have BZ:iY m=true/\(m'::ms).all iY=true:=by simpa using ht
  obtain⟨i1,i2⟩:=Mq (ms:=m'::ms) (es:=e'::es) (pos:=pos) b.2 BZ.2;refine⟨PE.imp (qcY b.1.2.1 i1) λσ H Q q=>?_,PW.imp (ydb (b.1.2.2 BZ.1) i2) λσ H Q q=>?_⟩
  ·obtain⟨μ,h,σs,rel,aF,ra,p⟩:=q;simp only[Yu] at p;refine lE.mk rel aF ra p λx v μ1 h1 H1 ex ar aW rv p1=>?_;obtain⟨k,ek,p2⟩:=Po.opt p1;have:=Dn ek;subst this;refine⟨k,uY rv,?_⟩;cases k with
   |true=>exact⟨μ1,h1,σs,ar,aW,ra,p2⟩
   |false=>exact p2.now ar _ (QC _)
  ·obtain⟨μ,h,σs,rel,aF,ra,p⟩:=q;have p':Po ct E ((fM (qa Pm (run Pm n) m) σs h).bind λk h1=>if k=true then fM (Yu Pm (run Pm n) (m'::ms)) σs h1 else .ok false h1) μ h H (λb _ _ H'=>Q b H'):=by
    simp only[fM,Yu] at p ⊢;cases er:qa Pm (run Pm n) m σs h with
    |stuck=>rw[er] at p;exact p
    |exc c h'=>rw[er] at p;exact p
    |ok x h' =>
     rw[er] at p;simp only[R.aH] at p ⊢;cases eb:ZE x with
     |none=>rw[eb] at p;exact p
     |some k =>
      rw[eb] at p;cases k with
      |true=>exact p
      |false=>exact p
   refine lT.mk rel aF ra p' λk μ1 h1 H1 ex ar aW p1=>?_;cases k with
   |true=>exact⟨μ1,h1,σs,ar,aW,ra,p1⟩
   |false=>exact p1.now ar
theorem Cw :∀{ms:List ME}{es:List Expr},Bo ct X Ra E Pm n ms es->ms.all iY=true->PE X (.BoolOp .Or es pos) (lE ct Ra E (ZD Pm (run Pm n) ms))/\PW X (.BoolOp .Or es pos) (lT ct Ra E (fM (ZD Pm (run Pm n) ms)))
 |[],[],_,_=>⟨λpins s σ H Q I q=>by
   obtain⟨μ,h,σs,rel,aF,ra,p⟩:=q;simp only[ZD] at p;exact p.elim,λwh pins s σ H Q I q=>by
   obtain⟨μ,h,σs,rel,aF,ra,p⟩:=q;simp only[fM,ZD] at p;exact p.elim⟩
 |[],_::_,b,_=>b.elim
 |_::_,[],b,_=>b.elim
 |[m],[e],b,ht=>by
  simp at ht;refine⟨PE.imp (Mj b.1.2.1) λσ H Q q=>?_,PW.imp (Ml (b.1.2.2 ht)) λσ H Q q=>?_⟩
  ·simpa only[ZD] using q
  ·have:ZD Pm (run Pm n) [m]=qa Pm (run Pm n) m:=by funext σ h;simp only[ZD]
   rw[this] at q;exact q
 |[m],_::_::_,b,_=>b.2.elim
 |_::_::_,[_],b,_=>b.2.elim
 |m::m'::ms,e::e'::es,b,ht=>by
  have BZ:iY m=true/\(m'::ms).all iY=true:=by simpa using ht
  obtain⟨i1,i2⟩:=Cw (ms:=m'::ms) (es:=e'::es) (pos:=pos) b.2 BZ.2;refine⟨PE.imp (A2 b.1.2.1 i1) λσ H Q q=>?_,PW.imp (Pr (b.1.2.2 BZ.1) i2) λσ H Q q=>?_⟩
  ·obtain⟨μ,h,σs,rel,aF,ra,p⟩:=q;simp only[ZD] at p;refine lE.mk rel aF ra p λx v μ1 h1 H1 ex ar aW rv p1=>?_;obtain⟨k,ek,p2⟩:=Po.opt p1;have:=Dn ek;subst this;refine⟨k,uY rv,?_⟩;cases k with
   |false=>exact⟨μ1,h1,σs,ar,aW,ra,p2⟩
   |true=>exact p2.now ar _ (QC _)
  ·obtain⟨μ,h,σs,rel,aF,ra,p⟩:=q;have p':Po ct E ((fM (qa Pm (run Pm n) m) σs h).bind λk h1=>if k=true then .ok true h1 else fM (ZD Pm (run Pm n) (m'::ms)) σs h1) μ h H (λb _ _ H'=>Q b H'):=by
    simp only[fM,ZD] at p ⊢;cases er:qa Pm (run Pm n) m σs h with
    |stuck=>rw[er] at p;exact p
    |exc c h'=>rw[er] at p;exact p
    |ok x h' =>
     rw[er] at p;simp only[R.aH] at p ⊢;cases eb:ZE x with
     |none=>rw[eb] at p;exact p
     |some k =>
      rw[eb] at p;cases k with
      |true=>exact p
      |false=>exact p
   refine lT.mk rel aF ra p' λk μ1 h1 H1 ex ar aW p1=>?_;cases k with
   |false=>exact⟨μ1,h1,σs,ar,aW,ra,p1⟩
   |true=>exact p1.now ar
section
variable {ea:aI->MH->R MV} {es:List Expr} {ev:aI->MH->R (List MV)} {a:Expr} {pos:Pos}
theorem Cu  (ha:PA X es (lA ct Ra E ev))(hl:∀ σ h xs h',ev σ h=.ok xs h'->xs.length<=sizeLine):PE X (.Tuple es k pos) (lE ct Ra E λσ h=>(ev σ h).bind λxs h1=>.ok (Qi xs) h1):=PE.imp (Nq ha) λσ H Q q=>by
 obtain⟨μ,h,σs,rel,aF,ra,p⟩:=q;refine⟨μ,h,σs,rel,aF,ra,?_⟩;dsimp only at p;cases er:ev σs h with
 |stuck=>rw[er] at p;exact p
 |exc c h'=>rw[er] at p;exact p
 |ok xs h' =>
  rw[er] at p;intro μ1 H1 ex ar vs eV;exact⟨by rw[eV.length];exact hl _ _ _ _ er,Dh ar eV (Po.start ex p)⟩
theorem CB(fz)(ha:PA X es (lA ct Ra E ev))(hl:∀ σ h xs h',ev σ h=.ok xs h'->xs.length<=sizeLine):PE X (.List es pos) (lE ct Ra E λσ h=>(ev σ h).bind λxs h1=>Yq fz xs h1):=PE.imp (xX ha) λσ H Q q=>by
 obtain⟨μ,h,σs,rel,aF,ra,p⟩:=q;refine⟨μ,h,σs,rel,aF,ra,?_⟩;dsimp only at p;cases er:ev σs h with
 |stuck=>rw[er] at p;exact p
 |exc c h'=>rw[er] at p;exact p
 |ok xs h' =>
  rw[er] at p;intro μ1 H1 ex ar vs eV;exact⟨by rw[eV.length];exact hl _ _ _ _ er,zE ar eV (Po.start ex p)⟩
theorem PO.imp   (p:PO X e t)(k:∀ σ H Q,t' σ H Q->t σ H Q):PO X e t':=λpins s σ H Q I h=>p pins s σ H Q I (k σ H Q h)
theorem zcH(hK:X.K=ct.K)(fz:Bool){lo hi:Option Expr}{el eh:aI->MH->R (Option Int)}{p2:Pos}(ha:PE X a (lE ct Ra E ea))(hl:PO X lo (lO ct Ra E el))(hh:PO X hi (lO ct Ra E eh)) :
  PE X (.Subscript a (.Slice lo hi none p2) pos) (lE ct Ra E λσ h=>(ea σ h).bind λx h1=>(el σ h1).bind λl h2=>(eh σ h2).bind λu h3=>ZM fz x l u h3) :=
 PE.imp (Zco (ycJ (ct:=ct) (E:=E) hK fz) ha hl hh) λσ H Q q=>by
  obtain⟨μ,h,σs,rel,aF,ra,p⟩:=q;refine lE.mk rel aF ra p λm v μ1 h1 H1 ex ar aW rv p1=>?_;refine lO.mk ar aW ra p1 λl μ2 h2 H2 e8 br dr p2=>?_;refine lO.mk br dr ra p2 λu μ3 h3 H3 iA fZ sZ p3=>?_;exact⟨μ3,h3,m,fZ,(rv.ext e8).ext iA,p3⟩
theorem Mv   :∀{ns:List String}{xs:List FV}{fs:List (Str×V)} {x:FV},fs.map wu=ns.map jk->fI ct L H xs (fs.map um)->uZ f ns xs=some x->∃ v,fs.lookup (jk f)=some v/\RF ct L H x v
 |[],_,_,_,_,_,e=>by simp[uZ] at e
 |_::_,[],_,_,_,_,e=>by simp[uZ] at e
 |m::ns,y::xs,fs,x,h1,h2,e=>by
  cases fs with
  |nil=>simp at h1
  |cons p fs =>
   obtain⟨k,u⟩:=p;simp only[Va,gm.injEq] at h1;simp only[Va,fI] at h2;obtain⟨v,r,BX,r1,r2⟩:=h2;simp only[gm.injEq] at BX;obtain⟨rfl,rfl⟩:=BX;simp only[uZ] at e;by_cases hf:f=m
   ·subst hf;simp at e;subst e;exact⟨u,by simp[Xb,h1.1],r1⟩
   ·rw[if_neg hf] at e;obtain⟨w,q1,q2⟩:=Mv h1.2 r2 e;refine⟨w,?_,q2⟩;have:(jk f==k)=false:=by
     rw[h1.1];exact beq_false_of_ne λz=>hf (YE z)
    simp[Xb,this,q1]
theorem NJ    :∀{fs:List (String×MV)} {gs:List (Str×V)} {m:MV},gs.map wu=fs.map (λp=>jk p.1)->ay ct μ L H (fs.map um) (gs.map um)->fs.lookup f=some m->∃ v,gs.lookup (jk f)=some v/\RV ct μ L H m v
 |[],_,_,_,_,e=>by simp at e
 |(k,y)::fs,gs,m,h1,h2,e=>by
  cases gs with
  |nil=>simp at h1
  |cons p gs =>
   obtain⟨k',u⟩:=p;simp only[Va,gm.injEq] at h1;simp only[Va,ay] at h2;obtain⟨v,r,BX,r1,r2⟩:=h2;simp only[gm.injEq] at BX;obtain⟨rfl,rfl⟩:=BX;by_cases hf:f=k
   ·subst hf;simp[Xb] at e;subst e;exact⟨u,by simp[Xb,h1.1],r1⟩
   ·have hb:(f==k)=false:=beq_false_of_ne hf;simp[Xb,hb] at e;obtain⟨w,q1,q2⟩:=NJ h1.2 r2 e;refine⟨w,?_,q2⟩;have:(jk f==k')=false:=by
     rw[h1.1];exact beq_false_of_ne λz=>hf (YE z)
    simp[Xb,this,q1]
theorem Rel.obj{μ:List ae}{h:MH}{H:Hp}(rel:Rel ct μ h H){i:Nat}{c:String}{fs:List (String×MV)}(e:h[i]?=some (.obj c fs)):∃ b dx gs,μ[i]?=some b/\H b=some (.ins (ct c) dx gs)/\gs.map wu=fs.map (λp=>jk p.1)/\ay ct μ (bg μ h) H (fs.map um) (gs.map um):=by
 have hi:i<μ.length:=by rw[rel.len];exact(xa.mp e).1
 obtain⟨dx,gs,q1,q2,q3⟩:=rel.cells i μ[i] _ (by simp[hi]) e;exact⟨_,dx,gs,by simp[hi],q1,q2,q3⟩
set_option tactic.hygienic true in
theorem CI{f:String}(T:Txt X.prog X.w X.K X.mg X.base Pm ct n)(ha:PE X a (lE ct Ra E ea))(hn:zi a=true):PE X (.Attribute a (jk f) pos) (lE ct Ra E λσ h=>(ea σ h).bind λx h1=>opt (nM Pm.jM f x h1) λv=>.ok v h1) :=
 PE.imp (BG X.K ha (Qy hn)) λσ H Q q=>by
  obtain(⟨μ,h,σs,rel,aF,ra,p⟩):=q;refine lE.mk rel aF ra p λm v μ1 h1 H1 ex ar aW rv p1=>?_;obtain(⟨w,e,p2⟩):=Po.opt p1;unfold nM at e;split at e
  next c ns xs =>
   split at e
   next ok =>
    simp only[Uc] at e;obtain(⟨x,e1,rfl⟩):=e;simp only[RV,RF] at rv;obtain(⟨b,dx,fs,rfl,nl,hb,q1,q2⟩):=rv;obtain(⟨u,e2,ru⟩):=Mv q1 q2 e1;obtain(⟨t1,t2⟩):=T.jM c f ok;exact⟨b,ct c,dx,fs,u,rfl,hb,t1,t2,e2,p2.now ar u (by simp only[RV];exact ru)⟩
   next=>cases e
  next i =>
   split at e
   next c fs ec =>
    split at e
    next ok =>
     simp only[RV] at rv;obtain(⟨b,eb,rfl⟩):=rv;obtain(⟨b',dx,gs,i7,hb,q1,q2⟩):=ar.obj ec;rw[eb] at i7;cases i7;obtain(⟨u,e2,ru⟩):=NJ q1 q2 e;obtain(⟨t1,t2⟩):=T.jM c f ok;exact⟨b,ct c,dx,gs,u,rfl,hb,t1,t2,e2,p2.now ar u ru⟩
    next=>cases e
   next=>cases e
  next=>cases e
end
end
section
variable {ct:Tx} {X:Cx} {E:XK} {Pm:Prog} {n:Nat} {Ra:L2.St->Prop} {N:List Str} {sc:az}
section
variable {ea:aI->MH->R MV} {v:Expr} {es:List Expr} {ev:aI->MH->R (List MV)} {a:Expr} {p pos:Pos}
theorem qc5   (c:Cc X Pm ct n Ra E N sc)(hd:Pm.defs f=some d)(cT:f.toList.contains '.'=false)(hg:gl sc (jk f)=true)(ha:PA X (v::es) (lA ct Ra E ev))(cC:∀ e∈v::es,Ya e=true) :
  PE X (.Call (.Name (jk f) p) (v::es) [] pos) (lE ct Ra E λσ h=>(ev σ h).bind λxs h1=>run Pm n f xs h1):=by
 obtain⟨g1,g2,g3⟩:=yD c.sc hg;obtain⟨ps,D⟩:=c.txt.defs f d hd cT;intro pins s σ H Q I q;obtain⟨μ,h,σs,rel,aF,ra,p⟩:=q;refine Zb2 (σ0:=σ) D (c.room.mono (by lia)) g1 (c.Ej σ ra) ha g2 (Yg (cC v (by simp))) (Yv λe he=>cC e (by simp[he])) pins s σ H Q I ⟨rfl,?_⟩;refine lA.mk rel aF ra p λms vs μ1 h1 H1 ex ar aW eV p1=>?_;exact⟨μ1,h1,ms,ar,by simpa using eV,p1⟩
theorem Zdc(fz)  (c:Cc X Pm ct n Ra E N sc)(hi:Pm.meths cn "__init__"=some f)(hg:gl sc (jk cn)=true)(ha:PA X (v::es) (lA ct Ra E ev))(cC:∀ e∈v::es,Ya e=true) :
  PE X (.Call (.Name (jk cn) p) (v::es) [] pos) (lE ct Ra E λσ h=>(ev σ h).bind λxs h1=>ZP Pm (run Pm n) fz cn xs h1):=by
 obtain⟨g1,g2,g3⟩:=yD c.sc hg;obtain⟨ps,D⟩:=c.txt.mO cn f hi;intro pins s σ H Q I q;obtain⟨μ,h,σs,rel,aF,ra,p⟩:=q;refine Qb3 (σ0:=σ) D c.room g1 (c.Ej σ ra) ha g2 (Yg (cC v (by simp))) (Yv λe he=>cC e (by simp[he])) pins s σ H Q I ⟨rfl,?_⟩;refine lA.mk rel aF ra p λms vs μ1 h1 H1 ex ar aW eV p1=>?_;intro x dx hx Ce iR;have lL:upd H1 dx (.own x) x=none:=by rw[Qc (Ke iR)];exact hx
 have iB:=Ext.new ar Ce (.own x);have br:=ar.new Ce (.own x);have e8:=Ext.cell br lL (.obj cn []) (.ins (ct cn) dx []);have fZ:Rel ct (μ1++[x]) (h1++[.obj cn []]) (upd (upd H1 dx (.own x)) x (.ins (ct cn) dx [])):=br.cell lL ⟨dx,[],zf,rfl,ay.nil⟩;have iA:=iB.trans e8;refine⟨μ1++[x],h1++[.obj cn []],.ref h1.length::ms,fZ,ay.cons ?_ (by simpa using eV.ext iA),?_⟩
 ·simp only[RV];exact⟨x,by rw[<- ar.len];simp,rfl⟩
 ·unfold ZP at p1;rw[hi] at p1;dsimp only at p1;cases er:run Pm n f (.ref h1.length::ms) (h1++[.obj cn []]) with
  |stuck=>rw[er] at p1;exact p1.elim
  |exc c h2=>rw[er] at p1;exactλμ2 H2 l4 j8=>p1 μ2 H2 (iA.trans l4) j8
  |ok m h2 =>
   rw[er] at p1;simp only[R.aH] at p1;intro μ2 H2 l4 j8 u ru;have tW:qw m=true:=by
    cases em:qw m with
    |true=>rfl
    |false=>rw[em] at p1;simp only[if_true] at p1;exact p1.elim
   rw[tW] at p1;simp only[xG,if_false] at p1;rw[Kw ru] at tW;refine⟨of_decide_eq_true tW,?_⟩;have ext:=iA.trans l4;obtain⟨ν,eν⟩:=l4.pre;rw[Vg] at eν;subst eν;have BW:(μ1++([x]++ν))[h1.length]?=some x:=by rw[<- ar.len];simp
   cases fz with
   |false=>exact p1 _ H2 ext j8 _ (by simp only[RV];exact⟨x,BW,rfl⟩)
   |true =>
    dsimp only at p1;split at p1
    next c' fs ec =>
     obtain⟨ys,ey,p4⟩:=Po.opt p1;split at p4
     next t =>
      obtain⟨b,JU,gs,eb,hb,q1,q2⟩:=j8.obj ec;rw[BW] at eb;cases eb;have nx:x∉μ1:=ar.fresh hx;refine p4 μ1 H2 (Ext.cut ar.len ext) (ar.cut t j8) (.ref x) ?_;simp only[RV,RF];refine⟨x,JU,gs,rfl,λl=>?_,hb,?_,?_⟩
      ·obtain⟨i,_,e1,_,_⟩:=l;exact nx (We e1)
      ·rw[q1,Ue];rfl
      ·exact fI.to ⟨λ_ _ e _=>e,λb _ _ nl l=>nl (bg.cut ar.len l)⟩ (ay.toF ey q2)
     next=>exact p4.elim
    next=>exact p1.elim
theorem Dq(fz:Bool){id:String}(c:Cc X Pm ct n Ra E N sc)(hx:id∈eP)(hg:gl sc (jk id)=true)(hb:bc (jk id)=some (.builtin id))(hr:aO X (.builtin id) (rB ct E fz id))(ha:PA X (v::es) (lA ct Ra E ev))(cC:∀ e∈v::es,Ya e=true) :
  PE X (.Call (.Name (jk id) p) (v::es) [] pos) (lE ct Ra E λσ h=>(ev σ h).bind λxs h1=>yt fz id xs h1):=by
 obtain⟨g1,g2,g3⟩:=yD c.sc hg;have hm:=c.txt.iV id (by simp[hx]);refine PE.imp (Qm hr g1 hm hb ha g3 g2 (Yg (cC v (by simp))) (Yv λe he=>cC e (by simp[he]))) λσ H Q q=>?_;obtain⟨μ,h,σs,rel,aF,ra,p⟩:=q;exact lA.mk rel aF ra p λms vs μ1 h1 H1 ex ar aW eV p1=>⟨μ1,h1,ms,ar,eV,p1⟩
theorem FJ(fz:Bool){id:String}(c:Cc X Pm ct n Ra E N sc)(hx:id∈dO)(hg:gl sc (jk id)=true)(hb:bc (jk id)=some (.type id))(hr:aO X (.type id) (rB ct E fz id))(ha:PA X (v::es) (lA ct Ra E ev))(cC:∀ e∈v::es,Ya e=true) :
  PE X (.Call (.Name (jk id) p) (v::es) [] pos) (lE ct Ra E λσ h=>(ev σ h).bind λxs h1=>yt fz id xs h1):=by
 obtain⟨g1,g2,g3⟩:=yD c.sc hg;have hm:=c.txt.iV id (by simp[hx]);refine PE.imp (Pc hr g1 hm hb ha g3 g2 (Yg (cC v (by simp))) (Yv λe he=>cC e (by simp[he]))) λσ H Q q=>?_;obtain⟨μ,h,σs,rel,aF,ra,p⟩:=q;exact lA.mk rel aF ra p λms vs μ1 h1 H1 ex ar aW eV p1=>⟨μ1,h1,ms,ar,eV,p1⟩
theorem CL(fz:Bool){id:String}(c:Cc X Pm ct n Ra E N sc)(hx:id∈eP\/id∈dO)(hg:gl sc (jk id)=true)(ha:PA X (v::es) (lA ct Ra E ev))(cC:∀ e∈v::es,Ya e=true) :
  PE X (.Call (.Name (jk id) p) (v::es) [] pos) (lE ct Ra E λσ h=>(ev σ h).bind λxs h1=>yt fz id xs h1):=by
 rcases hx with hx|hx
 ·have lL:=hx;simp only[eP,Wb,Ud,or_false] at lL
  rcases lL with rfl|rfl|rfl|rfl|rfl
  ·exact Dq fz c hx hg (by decide +kernel) (Ydd c.hK fz) ha cC
  ·exact Dq fz c hx hg (by decide +kernel) (YcY c.hK fz c.calm) ha cC
  ·exact Dq fz c hx hg (by decide +kernel) (zde c.hK fz c.calm) ha cC
  ·exact Dq fz c hx hg (by decide +kernel) (Zda c.hK fz c.calm) ha cC
  ·exact Dq fz c hx hg (by decide +kernel) (Qdb c.hK fz c.calm) ha cC
 ·have lL:=hx;simp only[dO,Wb,Ud,or_false] at lL
  rcases lL with rfl|rfl|rfl
  ·exact FJ fz c hx hg (by decide +kernel) (Yda fz) ha cC
  ·exact FJ fz c hx hg (by decide +kernel) (qct c.hK fz) ha cC
  ·exact FJ fz c hx hg (by decide +kernel) (QcI c.hK fz) ha cC
theorem Zch  (h:t∈aY):bc (jk t)=some (.type t):=by
 simp only[aY,Wb,Ud,or_false] at h
 rcases h with rfl|rfl|rfl|rfl|rfl|rfl <;> decide +kernel
end
end
noncomputable def bb(T U:String):Bool:=decide (U=T)||(decide (T="bool")&&decide (U="int"))
theorem qdc{K:Gc}{T U:String}(h:T∈["NoneType","bool","int","str","list","tuple"])(h':U∈aY):Xe K (.type T) (.type U)=some (bb T U):=by
 simp only[aY,Wb,Ud,or_false] at h h'
 rcases h with rfl|rfl|rfl|rfl|rfl|rfl <;> rcases h' with rfl|rfl|rfl|rfl|rfl|rfl <;> rfl
section
variable {ct:Tx} {X:Cx} {E:XK} {Pm:Prog} {n:Nat} {Ra:L2.St->Prop} {N:List Str} {sc:az}
noncomputable def qX(h:MH):MV->Option String
 |.f .bh=>some "NoneType"
 |.f (.bl _)=>some "bool"
 |.f (.int _)=>some "int"
 |.f (.str _)=>some "str"
 |.f (.tup _)=>some "tuple"
 |.f (.lst _)=>some "list"
 |.tup _=>some "tuple"
 |.ref a=>match h[a]? with
  |some (.lst _)=>some "list"
  |_=>none
 |_=>none
theorem Mt    (e:qX h m=some T):T∈["NoneType","bool","int","str","list","tuple"]:=by
 unfold qX at e;split at e
 all_goals first|(cases e;simp;done)|skip
 ·split at e
  next=>cases e;simp
  next=>cases e
 ·cases e
set_option tactic.hygienic true in
theorem ycO{K:Gc}{μ:List ae}{h:MH}{H:Hp}{m:MV}{v:V}{T:String}(rel:Rel ct μ h H)(e:qX h m=some T)(r:RV ct μ (bg μ h) H m v):hV K H v (.type T):=by
 unfold qX at e;split at e
 next=>cases e;simp only[RV,RF] at r;subst r;exact .bh
 next=>cases e;simp only[RV,RF] at r;subst r;exact .bl _
 next=>cases e;simp only[RV,RF] at r;subst r;exact .int _
 next=>cases e;simp only[RV,RF] at r;subst r;exact .str _
 next=>cases e;simp only[RV,RF] at r;obtain(⟨_,_,rfl,_,hb,_⟩):=r;exact .tup hb
 next =>
  cases e;simp only[RV,RF] at r;obtain(⟨_,_,rfl,_,hb,_⟩):=r
  rcases hb with hb|⟨o,hb⟩
  ·exact .lst hb
  ·exact .eO hb
 next=>cases e;simp only[RV] at r;obtain(⟨_,_,rfl,_,hb,_⟩):=r;exact .tup hb
 next i =>
  split at e
  next xs q =>
   cases e;simp only[RV] at r;obtain(⟨b,eb,rfl⟩):=r;obtain(⟨b',vs,i7,hb,_⟩):=rel.lst (show Ze h i=some xs by unfold Ze;rw[q]);rw[eb] at i7;cases i7;exact .lst hb
  next=>cases e
 next=>cases e
set_option tactic.hygienic true in
theorem Qcy      (e:qX h m=some T)(q:YN subs h m t=some b)(hn:t≠"NoneType"):b=bb T t:=by
 unfold qX at e;split at e
 next=>cases e;cases q;simp[bb,hn]
 next=>cases e;cases q;simp[bb]
 next=>cases e;cases q;simp[bb]
 next=>cases e;cases q;simp[bb]
 next=>cases e;cases q;simp[bb]
 next=>cases e;cases q;simp[bb]
 next=>cases e;cases q;simp[bb]
 next i =>
  split at e
  next xs w =>
   cases e;simp only[YN,w,Kc.injEq] at q;rw[<- q];simp[bb]
  next=>cases e
 next=>cases e
set_option tactic.hygienic true in
theorem zc8        (T:Txt X.prog X.w X.K X.mg X.base Pm ct n)(rel:Rel ct μ h H)(r:RV ct μ (bg μ h) H m v)(q:YN Pm.subs h m t=some b)(ht:aY.contains t=true\/(Pm.subs t t).isSome=true) :
  ∃ tv,hV X.K H v tv/\Xe X.K tv (if aY.contains t=true then .type t else .ref (ct t))=some b:=by
 cases ek:qX h m with
 |some Tn =>
  refine⟨.type Tn,ycO rel ek r,?_⟩;by_cases hb:aY.contains t=true
  ·rw[if_pos hb];have hm:t∈aY:=by simpa using hb
   have hn:t≠"NoneType":=by
    rintro rfl;simp[aY] at hm
   rw[Qcy ek q hn];exact qdc (Mt ek) hm
  ·rw[if_neg hb];have uM:aY.contains t=false:=by simpa using hb
   obtain⟨b0,e0⟩:=Vk.mp (ht.resolve_left hb);have hk:=T.DT t t b0 e0 uM Tn (Mt ek);rw[hk];have hm:t∉aY:=by simpa using uM
   simp only[aY,Wb,Ud,or_false,not_or] at hm;unfold qX at ek;split at ek
   next=>cases ek;cases q;rfl
   next=>cases ek;cases q;simp[hm]
   next=>cases ek;cases q;simp[hm]
   next=>cases ek;cases q;simp[hm]
   next=>cases ek;cases q;simp[hm]
   next=>cases ek;cases q;simp[hm]
   next=>cases ek;cases q;simp[hm]
   next i =>
    split at ek
    next xs w =>
     simp only[YN,w,Kc.injEq] at q;rw[<- q];simp[hm]
    next=>cases ek
   next=>cases ek
 |none =>
  have obj:∃ c a dx fs,v=.ref a/\H a=some (.ins (ct c) dx fs)/\Pm.subs c t=some b:=by
   cases m with
   |f x =>
    cases x with
    |obj c ns vs =>
     simp only[RV,RF] at r;obtain⟨a,dx,fs,rfl,_,hb,_⟩:=r;exact⟨c,a,dx,fs,rfl,hb,q⟩
    |eZ _=>cases q
    |tab _=>cases q
    |cE _=>cases q
    |_=>simp[qX] at ek
   |tup _=>simp[qX] at ek
   |exc _=>cases q
   |ref i =>
    simp only[YN] at q;split at q
    next xs w=>simp[qX,w] at ek
    next c fs w =>
     obtain⟨a,dx,gs,ea,hb,_⟩:=rel.obj w;simp only[RV] at r;obtain⟨a',OH,rfl⟩:=r;rw[ea] at OH;cases OH;exact⟨c,a,dx,gs,rfl,hb,q⟩
    next=>cases q
  obtain⟨c,a,dx,fs,rfl,hb,q⟩:=obj;have C:=T.cls c t b q;refine⟨.ref (ct c),.ins hb C.cl C.ha C.hn C.tk C.hm,?_⟩;by_cases hb:aY.contains t=true
  ·rw[if_pos hb];exact T.pk c t b q hb
  ·rw[if_neg hb];exact(T.nP c t b q (by simpa using hb)).2
section
variable {ea:aI->MH->R MV} {v:Expr} {es:List Expr} {ev:aI->MH->R (List MV)} {a:Expr} {p p2 pos:Pos}
theorem CG  (c:Cc X Pm ct n Ra E N sc)(ht:aY.contains t=true\/(Pm.subs t t).isSome=true)(hg:gl sc "isinstance"=true)(hgt:gl sc (jk t)=true)(ha:PE X a (lE ct Ra E ea))(hp:Ya a=true) :
  PE X (.Call (.Name "isinstance" p) [a,.Name (jk t) p2] [] pos) (lE ct Ra E λσ h=>(ea σ h).bind λx h1=>opt (YN Pm.subs h1 x t) λk=>.ok (.f (.bl k)) h1):=by
 obtain⟨g1,g2,g3⟩:=yD c.sc hg;obtain⟨k1,k2,k3⟩:=yD c.sc hgt;have hm:X.mg "isinstance"=none:=c.txt.iV "isinstance" (by simp);have tyE:∃ cv,pY cv=some (if aY.contains t=true then .type t else .ref (ct t))/\PE X (.Name (jk t) p2) (tC cv):=by
  by_cases hb:aY.contains t=true
  ·rw[if_pos hb];have nj:t∈aY:=by simpa using hb
   exact⟨.ty t,rfl,NL (v:=.ty t) k1 (c.txt.iV t (by simp[nj])) (Zch nj) rfl k3 k2⟩
  ·rw[if_neg hb];obtain⟨b0,e0⟩:=Vk.mp (ht.resolve_left hb);exact⟨.ref (ct t),rfl,yy (v:=.ref (ct t)) k1 (c.txt.nP t t b0 e0 (by simpa using hb)).1 rfl k2⟩
 obtain⟨cv,ecv,pe⟩:=tyE;refine PE.imp (Qm (BF X.K) g1 hm aJ (Zb ha (Zb pe yk (by rfl)) (Yg hp)) g3 g2 (Yg hp) (by rfl)) λσ H Q q=>?_;obtain⟨μ,h,σs,rel,aF,ra,p⟩:=q;refine lE.mk rel aF ra p λm w μ1 h1 H1 ex ar aW rv p1=>?_;obtain⟨k,e,p2⟩:=Po.opt p1;obtain⟨tv,ty,kit⟩:=zc8 c.txt ar rv e ht;exact⟨w,cv,tv,_,k,rfl,ecv,ty,kit,p2.now ar _ (QC _)⟩
theorem Mm{K:Gc}{mo:MV}{xs:List MV}{μ:List ae}{h:MH}{H:Hp}{x:V}(rel:Rel ct μ h H)(r:RV ct μ (bg μ h) H mo x)(e:Bv mo h=some xs):DS K "list" x H:=by
 cases mo with
 |ref i =>
  obtain⟨b,vs,e1,e2,q⟩:=rel.lst (show Ze h i=some xs from e);simp only[RV] at r;obtain⟨b',e3,rfl⟩:=r;rw[e1] at e3;cases e3;exact .inl ⟨rfl,vs,fR.of e2⟩
 |f _=>cases e
 |tup _=>cases e
 |exc _=>cases e
theorem FY    (h : ∀ e∈es, Ya e=true)(hl : es.length<30) : ((a9 cp (ao es env)).all (λx => !x.1)&&(eI cp (cb [] env)).all (λx => x.1.isSome)
   && decide (es.length+([]:List dA).length+(if([]:List dA).isEmpty then 0 else 1)<30))=true:=by
 rw[yn h];have h1:(a9 cp (es.map λe=>(false,eval e env))).all (λx=>!x.1)=true:=by
  unfold a9;rw[Ue,List.all_map]
  induction es with
  |nil=>rfl
  |cons e es ih=>simp[ju]
 rw[h1];simp[cb,eI];exact hl
theorem Ea{m id:String}{ap cp:Pos}(slot:Slot "list" (jk m) id)(tO:typeOf (.builtin id)=pure (.type "method_descriptor"))(hr:jZ X id (tj ct E m))(ho:PE X a (lE ct Ra E ea))(hn:zi a=true)(ha:PA X (v::es) (lA ct Ra E ev))(cC:∀ e∈v::es,Ya e=true)
  (hl:(v::es).length<30) (dg:(ap.endLine==cp.line)=true):PE X (.Call (.Attribute a (jk m) ap) (v::es) [] cp) (lE ct Ra E λσ h=>(ea σ h).bind λx h1=>opt (Bv x h1) λ_=>(ev σ h1).bind λxs h2=>l0 m x xs h2) :=
 PE.imp (A3 ki slot tO hr ho ha (Qy hn) (FY cC hl) dg (Yg (cC v (by simp))) (Yv λe he=>cC e (by simp[he]))) λσ H Q q=>by
  obtain⟨μ,h,σs,rel,aF,ra,p⟩:=q;refine lE.mk rel aF ra p λm' w μ1 h1 H1 ex ar aW rv p1=>?_;obtain⟨xs,iB,p2⟩:=Po.opt p1;refine⟨Mm ar rv iB,?_⟩;exact lA.mk ar aW ra p2 λms vs μ2 h2 H2 e8 br dr eV p3=>⟨μ2,h2,m',ms,br,rv.ext e8,eV,p3⟩
theorem CC{m id:String}{ap cp:Pos}(slot:Slot "list" (jk m) id)(tO:typeOf (.builtin id)=pure (.type "method_descriptor"))(hr:jZ X id (tj ct E m))(ho:PE X a (lE ct Ra E ea))(hn:zi a=true)
  (dg:(ap.endLine==cp.line)=true):PE X (.Call (.Attribute a (jk m) ap) [] [] cp) (lE ct Ra E λσ h=>(ea σ h).bind λx h1=>opt (Bv x h1) λ_=>(R.ok [] h1).bind λxs h2=>l0 m x xs h2) :=
 PE.imp (ZcZ ki slot tO hr ho (Qy hn) dg) λσ H Q q=>by
  obtain⟨μ,h,σs,rel,aF,ra,p⟩:=q;refine lE.mk rel aF ra p λm' w μ1 h1 H1 ex ar aW rv p1=>?_;obtain⟨xs,iB,p2⟩:=Po.opt p1;exact⟨Mm ar rv iB,μ1,h1,m',[],ar,rv,ay.nil,p2⟩
noncomputable abbrev kP(k:Int×Int):List Key:=[gb k.1,gb k.2]
theorem tL :kP k=kP l↔k=l:=by
 constructor
 ·intro h;simp only[kP,gm.injEq,gb.injEq,and_true] at h;exact vv h.1 h.2
 ·rintro rfl;rfl
theorem ZcY(k l):decide (kP k=kP l)=decide (k=l):=by
 by_cases h:k=l
 ·subst h;simp
 ·have h':¬ kP k=kP l:=λz=>h (tL.mp z);rw[decide_eq_false h,decide_eq_false h']
set_option tactic.hygienic true in
theorem F'{μ:List ae}{L:ae->Prop}{H:Hp}{y:MV}{v:V}{k:Int×Int}(r:RV ct μ L H y v)(e:xY y=some k):∃ p,v=.ref p/\¬ L p/\H p=some (.tup ((kP k).map L2.kV)):=by
 unfold xY at e;split at e
 next a b w =>
  cases e;cases y with
  |f x =>
   cases x with
   |tup xs =>
    simp only[Yj,Kc.injEq] at w
    rcases xs with _|⟨x,_|⟨y,_|⟨z,zs⟩⟩⟩ <;> simp at w
    obtain⟨rfl,rfl⟩:=w;simp only[RV,RF,fI] at r;obtain⟨p,vs,rfl,n,hp,v1,r1,rfl,rfl,v2,r2,rfl,rfl,rfl⟩:=r;exact⟨p,rfl,n,hp⟩
   |_=>simp[Yj] at w
  |tup xs =>
   simp only[Yj,Kc.injEq] at w;subst w;simp only[RV,ay,RF] at r;obtain⟨p,vs,rfl,n,hp,v1,r1,rfl,rfl,v2,r2,rfl,rfl,rfl⟩:=r;exact⟨p,rfl,n,hp⟩
  |ref _=>simp[Yj] at w
  |exc _=>simp[Yj] at w
 next=>cases e
theorem ay.rev   :∀{xs:List MV}{vs:List V},ay ct μ L H xs vs->ay ct μ L H xs.reverse vs.reverse
 |[],vs,r=>by simp only[ay] at r;subst r;exact ay.nil
 |x::xs,vs,r=>by
  simp only[ay] at r;obtain⟨v,t,rfl,r1,r2⟩:=r;rw[Xp,Xp];exact(ay.rev r2).append (ay.cons r1 ay.nil)
theorem qcX(fz:Bool){st:Expr}{p2:Pos}(c:Cc X Pm ct n Ra E N sc)(hs:pM st=true)(ha:PE X a (lE ct Ra E ea)) :
  PE X (.Subscript a (.Slice none none (some st) p2) pos) (lE ct Ra E λσ h=>(ea σ h).bind λx h1=>opt (MP.listOf h1 x) λxs=>Yq fz xs.reverse h1):=by
 have nh:∃ p3 p4 k,st=.UnaryOp .USub (.Constant (.int 1) k p3) p4:=by
  unfold pM at hs;split at hs
  ·exact⟨_,_,_,rfl⟩
  ·cases hs
 obtain⟨p3,p4,k,rfl⟩:=nh;refine PE.imp (qcJ ha (Mx (OU Nj Dj))) λσ H Q q=>?_;obtain⟨μ,h,σs,rel,aF,ra,pp⟩:=q;refine lE.mk rel aF ra pp λm w μ1 h1 H1 ex ar aW rv p1=>?_;obtain⟨xs,e,p2⟩:=Po.opt p1;obtain⟨b,vs,rfl,rd,rs⟩:=Zw ar e rv;exact⟨1,rfl,-1,rfl,rfl,b,vs,rfl,.inl rd,λl hl=>zE ar rs.rev p2 l hl⟩
theorem KZ :∀{ns:List String}{gs:List (Str×V)},gs.map wu=ns.map jk->m∉ns->gs.lookup (jk m)=none
 |[],[],_,_=>rfl
 |[],_::_,e,_=>by simp at e
 |_::_,[],e,_=>by simp at e
 |k::ns,(k',u)::gs,e,h=>by
  simp only[Va,gm.injEq] at e;have:(jk m==k')=false:=by
   rw[e.1];exact beq_false_of_ne λz=>h (by have:=YE z;subst this;exact Ug)
  rw[Xb,this];exact KZ e.2 λz=>h (Vd _ z)
set_option tactic.hygienic true in
theorem Rv{μ:List ae}{h:MH}{H:Hp}{m c:String}{x:MV}{v:V}(rel:Rel ct μ h H)(r:RV ct μ (bg μ h) H x v)(e:o7 m x h=some c):∃ b dx fs,v=.ref b/\H b=some (.ins (ct c) dx fs)/\fs.lookup (jk m)=none:=by
 unfold o7 at e;split at e
 next c' ns xs =>
  split at e
  next=>cases e
  next no =>
   cases e;simp only[RV,RF] at r;obtain⟨b,dx,fs,rfl,nl,hb,q1,q2⟩:=r;exact⟨b,dx,fs,rfl,hb,KZ q1 no⟩
 next i =>
  split at e
  next c' fs ec =>
   split at e
   next=>cases e
   next no =>
    cases e;simp only[RV] at r;obtain⟨b,eb,rfl⟩:=r;obtain⟨b',dx,gs,i7,hb,q1,q2⟩:=rel.obj ec;rw[eb] at i7;cases i7;exact⟨b,dx,gs,rfl,hb,KZ (by rw[q1,Ue];rfl) no⟩
  next=>cases e
 next=>cases e
theorem QcH   (c:Cc X Pm ct n Ra E N sc)(hm:m≠"__init__")(ho:PE X a (lE ct Ra E ea))(hn:zi a=true)(ha:PA X (v::es) (lA ct Ra E ev))(cC:∀ e∈v::es,Ya e=true)
  (hl:(v::es).length<30) (dg:(ap.endLine==cp.line)=true) :
  PE X (.Call (.Attribute a (jk m) ap) (v::es) [] cp) (lE ct Ra E λσ h=>(ea σ h).bind λx h1=>opt (o7 m x h1) λk=>opt (Pm.meths k m) λf=>(ev σ h1).bind λxs h2=>run Pm n f (x::xs) h2):=by
 intro pins s σ H Q I q;obtain⟨μ,h,σs,rel,aF,ra,p⟩:=q;refine Ycq (k:=2*n) (σ0:=σ) ho (c.room.mono (by lia)) (c.Ej σ ra) ha (Yg (cC v (by simp))) (Yv λe he=>cC e (by simp[he])) (Qy hn) (FY cC hl) dg pins s σ H Q I ⟨rfl,?_⟩;refine lE.mk rel aF ra p λm' w μ1 h1 H1 ex ar aW rv p1=>?_;obtain⟨cn,ec,p2⟩:=Po.opt p1;obtain⟨f,ef,p3⟩:=Po.opt p2;obtain⟨b,dx,fs,rfl,hb,l⟩:=Rv ar rv ec;refine⟨b,ct cn,dx,fs,mJ ct (run Pm n f),rfl,hb,l,c.txt.meths cn m f ef hm,?_⟩;refine lA.mk ar aW ra p3 λms vs μ2 h2 H2 e8 br dr eV p4=>?_;exact⟨μ2,h2,m'::ms,br,ay.cons (rv.ext e8) eV,p4⟩
theorem ycM   (c:Cc X Pm ct n Ra E N sc)(hm:m≠"__init__")(ho:PE X a (lE ct Ra E ea))(hn:zi a=true)(dg:(ap.endLine==cp.line)=true) :
  PE X (.Call (.Attribute a (jk m) ap) [] [] cp) (lE ct Ra E λσ h=>(ea σ h).bind λx h1=>opt (o7 m x h1) λk=>opt (Pm.meths k m) λf=>(R.ok [] h1).bind λxs h2=>run Pm n f (x::xs) h2):=by
 intro pins s σ H Q I q;obtain⟨μ,h,σs,rel,aF,ra,p⟩:=q;refine QbS (k:=2*n) (σ0:=σ) ho (c.room.mono (by lia)) (c.Ej σ ra) (Qy hn) dg pins s σ H Q I ⟨rfl,?_⟩;refine lE.mk rel aF ra p λm' w μ1 h1 H1 ex ar aW rv p1=>?_;obtain⟨cn,ec,p2⟩:=Po.opt p1;obtain⟨f,ef,p3⟩:=Po.opt p2;obtain⟨b,dx,fs,rfl,hb,l⟩:=Rv ar rv ec;exact⟨b,ct cn,dx,fs,mJ ct (run Pm n f),rfl,hb,l,c.txt.meths cn m f ef hm,μ1,h1,[m'],ar,ay.cons rv ay.nil,p3⟩
set_option tactic.hygienic true in
theorem qcG(fz)  (c:Cc X Pm ct n Ra E N sc)(hk:Pm.nT cn=true)(hi:Pm.meths cn "__init__"=none)(hg:gl sc (jk cn)=true) :
  PE X (.Call (.Name (jk cn) p) [] [] pos) (lE ct Ra E λσ h=>(R.ok [] h).bind λxs h1=>ZP Pm (run Pm n) fz cn xs h1):=by
 obtain⟨g1,g2,g3⟩:=yD c.sc hg;obtain⟨M,mg⟩:=c.txt.nT cn hk;refine PE.imp (YbS M g1 mg g2) λσ H Q q=>?_;obtain⟨μ,h,σs,ar,aF,ra,p1⟩:=q;intro x dx hx Ce iR;have lL:upd H dx (.own x) x=none:=by rw[Qc (Ke iR)];exact hx
 have iB:=Ext.new ar Ce (.own x);have br:=ar.new Ce (.own x);have e8:=Ext.cell br lL (.obj cn []) (.ins (ct cn) dx []);have fZ:Rel ct (μ++[x]) (h++[.obj cn []]) (upd (upd H dx (.own x)) x (.ins (ct cn) dx [])):=br.cell lL ⟨dx,[],zf,rfl,ay.nil⟩;have ext:=iB.trans e8;have BW:(μ++[x])[h.length]?=some x:=by rw[<- ar.len];simp
 have p2:Po ct E (ZP Pm (run Pm n) fz cn [] h) μ h H (λm μ' h' H'=>∀ v,RV ct μ' (bg μ' h') H' m v->Q v H'):=p1;unfold ZP at p2;rw[hi] at p2;simp only[R.aH,qbS,xG,if_false] at p2;cases fz with
 |false=>exact p2 _ _ ext fZ _ (by simp only[RV];exact⟨x,BW,rfl⟩)
 |true =>
  dsimp only at p2;split at p2
  next c' fs ec =>
   obtain⟨ys,ey,p4⟩:=Po.opt p2;split at p4
   next t =>
    obtain⟨b,JU,gs,eb,hb,q1,q2⟩:=fZ.obj ec;rw[BW] at eb;cases eb;have nx:x∉μ:=ar.fresh hx;refine p4 μ _ (Ext.cut ar.len ext) (ar.cut t fZ) (.ref x) ?_;simp only[RV,RF];refine⟨x,JU,gs,rfl,λl=>?_,hb,?_,?_⟩
    ·obtain⟨i,_,e1,_,_⟩:=l;exact nx (We e1)
    ·rw[q1,Ue];rfl
    ·exact fI.to ⟨λ_ _ e _=>e,λb _ _ nl l=>nl (bg.cut ar.len l)⟩ (ay.toF ey q2)
   next=>exact p4.elim
  next=>exact p2.elim
theorem Po.calm{α:Type}{r:R α}{μ:List ae}{h:MH}{H:Hp}{k:α->List ae->MH->Hp->Prop}(p:Po ct E (MP.calm r) μ h H k):Po ct E0 r μ h H k:=by
 cases r with
 |ok x h'=>exact p
 |exc c h'=>exact p.elim
 |stuck=>exact p.elim
theorem nB.imp{ifs:List Expr}{t t':TT}(p:nB X ifs t)(k:∀ σ H Q,t' σ H Q->t σ H Q):nB X ifs t':=λpins s σ H Q I h=>p pins s σ H Q I (k σ H Q h)
theorem YbT{μ:List ae}{h:MH}{H:Hp}{σ:L2.St}{σs:aI}(bW:Nat)(js:List Nat)(r:ba ct μ h H σ σs):ba ct μ h H (stC bW js σ) (stM bW js σs):=by
 refine⟨by simp[L3.stC,MP.stM],λi m e=>?_⟩;unfold MP.stM at e;by_cases hi:i<bW
 ·rw[ub (by simpa using hi),xr,if_pos hi] at e;cases e
 ·rw[Ve (by simpa using hi),vk,Xc] at e;cases ej:js[i-bW]? with
  |none=>rw[ej] at e;cases e
  |some j =>
   rw[ej] at e;simp only[uh,Kc.injEq] at e;have e':σs[j]?=some (some m):=by
    cases q:σs[j]? with
    |none=>rw[q] at e;cases e
    |some z=>rw[q] at e;exact congrArg some e
   obtain⟨v,ev,rv⟩:=r.at_ j m e';refine⟨v,?_,rv⟩;unfold L3.stC;rw[Ve (by simpa using hi),vk,Xc,ej];simp[ev]
theorem Pj(fz:Bool){bW:Nat}{js:List Nat}{it:String}{t:Tg}{es:aI->MH->R (List MV)}{tc:aI->MH->R Bool}{te:aI->MH->R MV}(σ:L2.St)(H:Hp)(Q:VK)
  (q:lE ct Ra E (λσ h=>(es σ h).bind λxs h1=>opt (i5 it xs h1) λp=>(Qj p.2 (zk t tc te) p.1 [] (MP.stM bW js σ) h1).bind λacc h3=>Yq fz acc h3) σ H Q) :
  Fi (lI ct Ra E es it) bW js (lG ct t) (lT ct (λ_=>True) E0 tc) (lE ct (λ_=>True) E0 te) σ H Q:=by
 obtain⟨μ,h,σs,rel,aF,ra,p⟩:=q;refine⟨μ,h,σs,rel,aF,ra,(Po.bind p).imp λxs μ1 h1 H1 ⟨iB,ar,p1⟩=>?_⟩;obtain⟨⟨items,g⟩,e1,p2⟩:=Po.opt p1;refine⟨items,g,e1,ar,λJ wk=>?_⟩;dsimp only at p2;refine⟨λi m acc σ' H'=>∃ μ' h' σs' lD,m=items.length-i/\i<=items.length/\Ext μ1 h1 H1 μ' h' H'/\Rel ct μ' h' H'/\ba ct μ' h' H' σ' σs'/\ay ct μ' (bg μ' h') H' lD acc /\
  Po ct E ((Qj g (zk t tc te) (items.drop i) lD σs' h').bind λacc h3=>Yq fz acc h3) μ' h' H' (kV ct Q),?_,?_⟩
 ·exact⟨items.length,μ1,h1,stM bW js σs,[],by simp,xl _,Ext.refl _ _ _,ar,YbT bW js (aF.ext iB),ay.nil,by simpa using p2⟩
 ·rintro i m acc σ' H' ⟨μ',h',σs',lD,rfl,nY,ex,bL,iS,pD,p3⟩;by_cases lt:i<items.length
  ·right
   have ed:items.drop i=items[i]::items.drop (i+1):=wq lt;rw[ed] at p3;simp only[Qj] at p3;split at p3
   next gd =>
    obtain⟨w1,_⟩:=wk i μ' h' H' ex bL gd.1;obtain⟨go,yl⟩:=w1 lt;refine⟨go,λx H2 y=>?_⟩;obtain⟨mx,em,e8,br,rx⟩:=yl x H2 y;have JS:mx=items[i]:=by simpa[lt] using em.symm
    subst JS;have p4:=Po.start e8 p3;unfold zk at p4;cases eb:QI t items[i] σs' with
    |none=>rw[eb] at p4;exact p4.elim
    |some σ2s =>
     rw[eb] at p4;simp only[qc] at p4;refine⟨μ',h',σs',items[i],σ2s,br,iS.ext e8,rx,eb,λσ2 dr=>?_⟩;have p5:Po ct E ((MP.calm (tc σ2s h')).bind λk h2=>(if k=true then(MP.calm (te σ2s h2)).bind λy h3=>R.ok (some y,σ2s) h3 else R.ok (none,σ2s) h2).bind λp h1=>(Qj g (zk t tc te) (items.drop (i+1)) (match p.1 with|some y=>lD++[y]|none=>lD) p.2 h1).bind λacc h3=>Yq fz acc h3) μ' h' H2 (kV ct Q):=by
      cases er:MP.calm (tc σ2s h') with
      |stuck=>rw[er] at p4;exact p4
      |exc c pR=>rw[er] at p4;exact p4
      |ok k pR =>
       rw[er] at p4;simp only[R.aH] at p4 ⊢;cases k with
       |false=>exact p4
       |true =>
        simp only[if_true] at p4 ⊢;cases uP:MP.calm (te σ2s pR) with
        |stuck=>rw[uP] at p4;exact p4
        |exc c h3=>rw[uP] at p4;exact p4
        |ok y h3=>rw[uP] at p4;exact p4
     refine⟨μ',h',σ2s,br,dr,trivial,Po.calm ((Po.bind p5).imp λk μ3 h3 H3 ⟨iA,fZ,p6⟩=>?_)⟩;cases k with
     |false =>
      simp only[uj,if_false,R.aH] at p6 ⊢;exact⟨items.length-(i+1),by lia,μ3,h3,σ2s,lD,rfl,lt,(ex.trans e8).trans iA,fZ,dr.ext iA,(pD.ext e8).ext iA,p6⟩
     |true =>
      simp only[if_true] at p6 ⊢;have p7:Po ct E ((MP.calm (te σ2s h3)).bind λy h4=>(Qj g (zk t tc te) (items.drop (i+1)) (lD++[y]) σ2s h4).bind λacc h5=>Yq fz acc h5) μ3 h3 H3 (kV ct Q):=by
       cases uP:MP.calm (te σ2s h3) with
       |stuck=>rw[uP] at p6;exact p6
       |exc c h4=>rw[uP] at p6;exact p6
       |ok y h4=>rw[uP] at p6;exact p6
      refine⟨μ3,h3,σ2s,fZ,dr.ext iA,trivial,Po.calm ((Po.bind p7).imp λy μ4 h4 H4 ⟨l4,j8,p8⟩ w rw_=>?_)⟩;refine⟨by rw[pD.length];exact vb gd.2 QG,items.length-(i+1),by lia,μ4,h4,σ2s,lD++[y],rfl,lt,((ex.trans e8).trans iA).trans l4,j8,(dr.ext iA).ext l4,?_,p8⟩;exact(((pD.ext e8).ext iA).ext l4).append (ay.cons rw_ ay.nil)
   next=>exact p3.elim
  ·left
   have IP:i=items.length:=by lia
   subst IP;rw[Ux] at p3;simp only[Qj] at p3;split at p3
   next gd =>
    obtain⟨_,w2⟩:=wk items.length μ' h' H' ex bL gd;exact⟨w2 rfl,λD hD=>zE bL pD p3 D hD⟩
   next=>exact p3.elim
theorem qc2(fz:Bool){elt iter tg:Expr}{ifs:List Expr}{cs:az}{N':List Str}{bW:Nat}{js:List Nat}{it:String}{t:Tg}{es:aI->MH->R (List MV)}{tc:aI->MH->R Bool}{te:aI->MH->R MV}(aS:QA X.env.scope X.N cs N' bW js=true)(hc:X.calm=true)
  (hi:PI X tg iter (lI ct Ra E es it)) (hg:∀ C s3 H ex,PG (ia X cs N' C s3 H ex) tg (lG ct t)) (nX:∀ C s3 H ex,nB (ia X cs N' C s3 H ex) ifs (lT ct (λ_=>True) E0 tc)) (jG:∀ C s3 H ex,PE (ia X cs N' C s3 H ex) elt (lE ct (λ_=>True) E0 te)) (cC:Ya iter=true) :
  PE X (.ListComp elt [⟨tg,iter,ifs,0⟩] cs pos) (lE ct Ra E λσ h=>(es σ h).bind λxs h1=>opt (i5 it xs h1) λp=>(Qj p.2 (zk t tc te) p.1 [] (stM bW js σ) h1).bind λacc h3=>Yq fz acc h3):=by
 exact PE.imp (qcM N' bW js aS hc hi hg nX jG (yR cC)) (Pj fz)
end
end
end SD
end
section
namespace SD
open PySem PySem.Spec PyProof.Rows L2 L3 M3 MP
section
variable {ct:Tx} {X:Cx} {E:XK} {Pm:Prog} {n:Nat} {Ra:L2.St->Prop} {N:List Str} {sc:az}
noncomputable abbrev yz(ks:List (Int×Int)):List (List Key×V):=ks.map λk=>(kP k,V.bl true)
theorem MA(ks)(k):((yz ks).any λkv=>decide (kv.1=kP k))=decide (k∈ks):=by
 induction ks with
 |nil=>rfl
 |cons a r ih =>
  show(decide (kP a=kP k)||(yz r).any λkv=>decide (kv.1=kP k))=_;rw[ih,ZcY];by_cases h:a=k
  ·subst h;simp
  ·simp[h,Ke h]
theorem zb7(ks)(k):ow (yz ks) (kP k) (V.bl true)=yz (Yo ks k):=by
 unfold ow Yo;rw[MA];by_cases h:k∈ks
 ·rw[if_pos (by simpa using h),if_pos h,yz,Ue]
  congr 1
  funext p;show(if kP p=kP k then(kP p,V.bl true) else(kP p,V.bl true))=_;split <;> rfl
 ·rw[if_neg (by simpa using h),if_neg h,yz,yz,ud];rfl
theorem Lh:∀(ks acc:List (Int×Int)),qu (yz ks) (yz acc)=yz (ks.foldl Yo acc)
 |[],acc=>rfl
 |k::ks,acc=>by
  show qu (yz ks) (ow (yz acc) (kP k) (V.bl true))=_;rw[zb7];exact Lh ks (Yo acc k)
theorem yb8(ks)(k):(nJ (yz ks) (kP k)).isSome=decide (k∈ks):=by
 rw[<- MA,HL]
set_option tactic.hygienic true in
theorem qcu       (r:RV ct μ L H y v)(e:vZ y=some k):∃ T K,v=.ref T/\H T=some (.tup [.ref K,V.bl true])/\H K=some (.tup ((kP k).map L2.kV)):=by
 unfold vZ at e;split at e
 next q w =>
  cases y with
  |f x =>
   cases x with
   |tup xs =>
    simp only[Yj,Kc.injEq] at w
    rcases xs with _|⟨x,_|⟨y,_|⟨z,zs⟩⟩⟩ <;> simp at w
    obtain⟨rfl,rfl⟩:=w;simp only[RV,RF,fI] at r;obtain⟨p,vs,rfl,n,hp,v1,r1,rfl,h1,v2,r2,rfl,rfl,rfl⟩:=r;obtain⟨K,rfl,_,hK⟩:=F' (y:=MV.f x) (μ:=μ) (L:=L) (H:=H) (by simp only[RV];exact h1) e;exact⟨p,K,rfl,hp,hK⟩
   |_=>simp[Yj] at w
  |tup xs =>
   simp only[Yj,Kc.injEq] at w;subst w;simp only[RV,ay,RF] at r;obtain⟨p,vs,rfl,n,hp,v1,r1,rfl,h1,v2,r2,rfl,rfl,rfl⟩:=r;obtain⟨K,rfl,_,hK⟩:=F' h1 e;exact⟨p,K,rfl,hp,hK⟩
  |ref _=>simp[Yj] at w
  |exc _=>simp[Yj] at w
 next=>cases e
theorem P5   :∀{xs:List MV}{vs:List V}{ks:List (Int×Int)},ay ct μ L H xs vs->xs.mapM vZ=some ks->Ld H vs (yz ks)
 |[],vs,ks,r,e=>by
  simp only[ay] at r;subst r;simp at e;subst e;exact .nil
 |x::xs,vs,ks,r,e=>by
  simp only[ay] at r;obtain⟨v,r',rfl,h1,h2⟩:=r;simp only[uq,Wv,wb] at e;obtain⟨k,e1,i4,e2,e3⟩:=e;cases e3;obtain⟨T,K,q⟩:=qcu h1 e1;exact .cons ⟨T,K,q⟩ (P5 h2 e2)
set_option tactic.hygienic true in
theorem MN    (e:qH h (.ref i)=some ks):h[i]?=some (.cE ks):=by
 simp only[qH] at e;split at e
 next i4 w=>cases e;exact w
 next=>cases e
theorem OR       (rel:Rel ct μ h H)(r:RV ct μ (bg μ h) H x v)(e:qH h x=some ks):∃ a,v=.ref a/\Rd H a (.dT (yz ks)):=by
 cases x with
 |ref i =>
  simp only[RV] at r;obtain⟨b,eb,rfl⟩:=r;exact⟨b,rfl,.inl (rel.cells _ _ _ eb (MN e))⟩
 |f y =>
  cases y with
  |cE ks =>
   cases e;simp only[RV,RF] at r;obtain⟨a,o,rfl,_,ha⟩:=r;exact⟨a,rfl,.inr ⟨o,ha⟩⟩
  |_=>cases e
 |tup _=>cases e
 |exc _=>cases e
section
variable {ea eb:aI->MH->R MV} {a b:Expr} {p p2 pos:Pos}
theorem Zc3:PE X (.Dict [] [] pos) (lE ct Ra E λ_ h=>.ok (.ref h.length) (h++[.cE []])):=by
 refine PE.imp ycm λσ H Q q d hd=>?_;obtain⟨μ,h,σs,rel,aF,ra,pp⟩:=q;have ex0:=Ext.cell rel hd (.cE []) (.dT []);have G2:Rel ct (μ++[d]) (h++[.cE []]) (upd H d (.dT [])):=rel.cell hd zf;exact(Po.start ex0 pp).now G2 _ (by simp only[RV];exact⟨d,by rw[<- rel.len];simp,rfl⟩)
theorem CA(c:Cc X Pm ct n Ra E N sc)(hg:gl sc "dict"=true)(ha:PE X a (lE ct Ra E ea))(hp:Ya a=true) :
  PE X (.Call (.Name "dict" p) [a] [] pos) (lE ct Ra E λσ h=>(ea σ h).bind λx h1=>Fb x h1):=by
 obtain(⟨k1,k2,k3⟩):=yD c.sc hg;have hm:X.mg "dict"=none:=c.txt.iV "dict" (by simp[aY]);refine PE.imp (Pc (zbv c.calm (by have:=c.units;lia)) k1 hm (by decide +kernel) (Zb ha yk (Yg hp)) k3 k2 (Yg hp) (by rfl)) λσ H Q q=>?_;obtain(⟨μ,h,σs,rel,aF,ra,pp⟩):=q;refine lE.mk rel aF ra pp λm w μ1 h1 H1 ex ar aW rv p1=>?_;cases m with
 |ref i =>
  obtain(⟨xs,e1,p2⟩):=Po.opt p1;obtain(⟨ks,e2,p3⟩):=Po.opt p2;split at p3
  next hl =>
   simp only[RV] at rv;obtain(⟨b,eb,rfl⟩):=rv;have hc:h1[i]?=some (.lst xs):=by
    simp only[Ze] at e1;split at e1
    next w=>cases e1;exact w
    next=>cases e1
   obtain(⟨vs,hb,eV⟩):=(show bM ct μ1 (bg μ1 h1) H1 b (.lst xs) from ar.cells _ _ _ eb hc);have pv:=P5 eV e2;have hlen:ks.length=xs.length:=by
    clear p1 p2 p3 pv hc hl e1 eV
    induction xs generalizing ks with
    |nil=>simp at e2;subst e2;rfl
    |cons x xs ih =>
     simp only[uq,Wv,wb] at e2;obtain(⟨k,_,i4,e3,e4⟩):=e2;cases e4;simp[ih _ e3]
   refine⟨b,vs,yz ks,rfl,.inl hb,pv,by rw[wc,hlen,iP];lia,λq o hq=>?_⟩;have e5:qu (yz ks) []=yz (ks.foldl Yo []):=Lh ks [];rw[e5];refine p3 μ1 _ (Ext.new ar hq _) (ar.new hq _) _ ?_;simp only[RV,RF];exact⟨q,o,rfl,Y0 ar hq,zf⟩
  next=>exact p3.elim
 |f _=>exact p1.elim
 |tup _=>exact p1.elim
 |exc _=>exact p1.elim
theorem qda(hu:X.A.units+65<dn)(ha:PE X a (lE ct Ra E ea))(hb:PE X b (lE ct Ra E eb))(hp:Ya b=true) :
  PE X (.Compare a [.NotIn] [b] pos) (lE ct Ra E λσ h=>(ea σ h).bind λx h1=>(eb σ h1).bind λy h2=>vY x y h2) /\
  PT X (.Compare a [.NotIn] [b] pos) (lT ct Ra E (fM λσ h=>(ea σ h).bind λx h1=>(eb σ h1).bind λy h2=>vY x y h2)):=by
 have main:∀ σ H Q,lE ct Ra E (λσ h=>(ea σ h).bind λx h1=>(eb σ h1).bind λy h2=>vY x y h2) σ H Q->NK (lE ct Ra E ea) (lE ct Ra E eb) σ H Q:=λσ H Q q=>by
  obtain⟨μ,h,σs,rel,aF,ra,pp⟩:=q;refine lE.mk rel aF ra pp λm w μ1 h1 H1 iB ar aW rN p1=>?_;refine lE.mk ar aW ra p1 λm2 w2 μ2 h2 H2 e8 br dr j7 p2=>?_;obtain⟨k,e1,p3⟩:=Po.opt p2;obtain⟨ks,e2,p4⟩:=Po.opt p3;obtain⟨c,rfl,rd⟩:=OR br j7 e2;obtain⟨q,rfl,_,hq⟩:=F' (rN.ext e8) e1;refine⟨c,_,rfl,.inr ⟨_,kP k,q,rd,rfl,hq,rfl⟩,?_⟩;rw[yb8];have e3:(!decide (k∈ks))=decide (k∉ks):=by by_cases z:k∈ks <;> simp[z]
  rw[e3];exact p4.now br _ (QC _)
 have uM:bf .NotIn b=false:=yH hp _;exact Dp (KP (MO (by lia) ha hb) uM) (KY (MO (by lia) ha hb) uM) main
end
end
section
variable {ct:Tx} {X:Cx} {E:XK} {Pm:Prog} {n:Nat} {Ra:L2.St->Prop} {N:List Str} {sc:az} {ea eb:aI->MH->R MV} {a b:Expr} {p pos:Pos}
theorem Rn  :∀{xs ys:List MV}{vs ws:List V}{H:Hp}(Ts:List ae),Rel ct μ h H->ay ct μ (bg μ h) H xs vs->ay ct μ (bg μ h) H ys ws->Ts.Nodup->(∀ T∈Ts,H T=none)->Ts.length=(vs.zip ws).length ->
  Ext μ h H μ h (nC H Ts (vs.zip ws))/\Rel ct μ h (nC H Ts (vs.zip ws))/\ay ct μ (bg μ h) (nC H Ts (vs.zip ws)) ((xs.zip ys).map λp=>Qi [p.1,p.2]) (Ts.map V.ref)
 |[],ys,vs,ws,H,Ts,rel,r1,r2,nd,fr,hl=>by
  simp only[ay] at r1;subst r1;simp at hl;subst hl;exact⟨Ext.refl _ _ _,rel,by simp[ay]⟩
 |x::xs,[],vs,ws,H,Ts,rel,r1,r2,nd,fr,hl=>by
  simp only[ay] at r2;subst r2;simp at hl;subst hl;exact⟨by simp only[XG,nC];exact Ext.refl _ _ _,by simp only[XG,nC];exact rel,by simp[ay]⟩
 |x::xs,y::ys,vs,ws,H,Ts,rel,r1,r2,nd,fr,hl=>by
  simp only[ay] at r1 r2;obtain(⟨v,vr,rfl,q1,r1⟩):=r1;obtain(⟨w,wr,rfl,q2,r2⟩):=r2;cases Ts with
  |nil=>simp at hl
  |cons T Ts =>
   rw[Vh] at nd;have hT:=fr T Ug;have ex:=Ext.new rel hT (.tup [v,w]);have rv:RV ct μ (bg μ h) (upd H T (.tup [v,w])) (Qi [x,y]) (.ref T):=zI (Y0 rel hT) zf (by
    simp only[ay];exact⟨v,[w],rfl,q1.ext ex,w,[],rfl,q2.ext ex,rfl⟩)
   obtain(⟨e2,br,eV⟩):=Rn Ts (rel.new hT (.tup [v,w])) (r1.ext ex) (r2.ext ex) nd.2 (λT' h'=>by
    have ne:T'≠T:=λz=>nd.1 (by rw[<- z];exact h');rw[Qc ne];exact fr T' (Vd _ h')) (by simpa using hl)
   refine⟨ex.trans e2,br,?_⟩;simp only[uG,Va,ay];exact⟨_,_,rfl,rv.ext e2,eV⟩
theorem Zc0(fz)  (c:Cc X Pm ct n Ra E N sc)(hg:gl sc "list"=true)(hgl:gl sc "zip"=true)(ha:PE X a (lE ct Ra E ea))(hb:PE X b (lE ct Ra E eb))(hp:Ya a=true)(Iu:Ya b=true) :
  PE X (.Call (.Name "list" p) [.Call (.Name "zip" p2) [a,b] [] p3] [] pos) (lE ct Ra E λσ h=>(ea σ h).bind λx h1=>opt (some (⟨#[]⟩:Str)) λ_=>(eb σ h1).bind λy h2=>sH (.lB fz) x y h2):=by
 obtain⟨g1,g2,g3⟩:=yD c.sc hg;obtain⟨k1,k2,k3⟩:=yD c.sc hgl;have hm:X.mg "list"=none:=c.txt.iV "list" (by simp[dO,aY]);have nj:X.mg "zip"=none:=c.txt.iV "zip" (by simp);have st:∀ e∈[a,b],Ya e=true:=λe he=>by
  simp only[Wb,Ud,or_false] at he
  rcases he with rfl|rfl <;> assumption
 refine PE.imp (QcE c.calm (Zb ha (Zb hb yk (Yg Iu)) (Yg hp)) g1 hm k1 nj (yn st) (yn λe he=>st e (by simp at he;simp[he]))) λσ H Q q=>?_;obtain⟨μ,h,σs,rel,aF,ra,pp⟩:=q;refine lE.mk rel aF ra pp λm w μ1 h1 H1 iB ar aW rN p1=>?_;refine lE.mk ar aW ra p1 λm2 w2 μ2 h2 H2 e8 br dr j7 p3=>?_;obtain⟨xs,e1,p4⟩:=Po.opt p3;obtain⟨ys,e2,p5⟩:=Po.opt p4;obtain⟨b1,a1,vs,rfl,s1,r1⟩:=Yt br e1 (rN.ext e8);obtain⟨b2,a2,ws,rfl,s2,r2⟩:=Yt br e2 j7;refine⟨b1,b2,a1,a2,vs,ws,rfl,s1.s c.hK,s2.s c.hK,λTs p nd fr np fp hl=>?_⟩;obtain⟨ex,bL,eV⟩:=Rn Ts br r1 r2 nd fr hl;exact zE bL eV (Po.start ex p5) p (by rw[KQ np];exact fp)
theorem LX  :∀(ks:List (Int×Int)),ks.all ZY=true->ks.Nodup->(ks.map λk=>(aq (zg P w)).hash (kP k)).Nodup
 |[],_,_=>by simp
 |k::ks,h,n=>by
  rw[List.all_cons,Wa] at h;rw[Vh] at n;rw[Va,Vh];refine⟨λm=>?_,LX ks h.2 n.2⟩;obtain⟨k',hk,e⟩:=Wd.mp m;have:=zci (by have q:=Vl.mp h.2 k' hk;simpa[ZY,DP] using q) (by have q:=h.1;simpa[ZY,DP] using q) e;exact n.1 (this ▸ hk)
theorem Ct  (c:Cc X Pm ct n Ra E N sc)(ha:PE X a (lE ct Ra E ea))(hb:PE X b (lE ct Ra E eb))(hn:zi a=true)(cC:Ya b=true)(dg:(ap.endLine==cp.line)=true) :
  PE X (.Call (.Attribute a "update" ap) [b] [] cp) (lE ct Ra E λσ h=>(ea σ h).bind λx h1=>opt ((qH h1 x).map λ_=>(⟨#[]⟩:Str)) λ_=>(eb σ h1).bind λy h2=>sH .upd x y h2):=by
 have B8:∀ e∈[b],Ya e=true:=λe he=>by rw[vc.mp he];exact cC
 have hu:X.A.units+3<dn:=by have:=c.units;lia
 refine PE.imp (Qcq hu ha hb ⟨Qy hn,FY B8 (by simp),dg,by rw[yn B8];rfl⟩) λσ H Q q=>?_;obtain⟨μ,h,σs,rel,aF,ra,pp⟩:=q;refine lE.mk rel aF ra pp λm w μ1 h1 H1 iB ar aW rN p1=>?_;obtain⟨st,e0,p2⟩:=Po.opt p1;rw[Uc] at e0;obtain⟨ks0,e0,_⟩:=e0;obtain⟨c,rfl,rd0⟩:=OR ar rN e0;refine⟨c,rfl,.inr ⟨_,rd0⟩,?_⟩;refine lE.mk ar aW ra p2 λm2 w2 μ2 h2 H2 e8 br dr j7 p3=>?_;have AI:=rN.ext e8;rw[show sH .upd m m2 h2=pb m m2 h2 from rfl] at p3;cases m with
 |ref i =>
  cases m2 with
  |f y =>
   cases y with
   |cE i4 =>
    obtain⟨ks,e1,p4⟩:=Po.opt p3;simp only[RV] at AI;obtain⟨c',ec,ecc⟩:=AI;cases ecc;have hc:=MN e1;have hH:H2 c=some (.dT (yz ks)):=br.cells _ _ _ ec hc;simp only[RV,RF] at j7;obtain⟨d,o,rfl,nd,hd⟩:=j7;have l4:=λl=>Ext.set (H:=H2) br ec hc (λz=>nomatch z) (.cE l) (.dT (yz l));have j8:=λl=>br.set (c':=.cE l) (o:=.dT (yz l)) ec hc (λz=>nomatch z) zf;refine⟨d,yz ks,yz i4,rfl,hH,.inr ⟨o,hd⟩,λz=>?_,?_⟩
    ·rw[z,hd] at hH;cases hH
    ·split at p4
     next hq =>
      split at p4
      next Iq =>
       left
       have e6:(if yz i4=[] then yz ks else yz i4)=yz (if i4=[] then ks else i4):=by
        by_cases z:i4=[]
        ·subst z;rfl
        ·rw[if_neg z,if_neg (by intro q;exact z (Uu.mp q))]
       refine⟨?_,?_,?_⟩
       ·rcases hq with z|z
        ·left;rw[z];rfl
        ·right;rw[z];rfl
       ·rw[Ue];exact LX i4 Iq.1 Iq.2
       ·rw[e6];exact p4.tD (l4 _) (j8 _) _ (by simp only[RV,RF])
      next=>exact p4.elim
     next hq =>
      split at p4
      next hz =>
       right
       refine⟨λz=>hq (.inl (Uu.mp z)),λz=>hq (.inr (Uu.mp z)),by rw[wc,wc];exact hz,?_⟩;rw[Lh];exact p4.tD (l4 _) (j8 _) _ (by simp only[RV,RF])
      next=>exact p4.elim
   |_=>exact p3.elim
  |ref _=>exact p3.elim
  |tup _=>exact p3.elim
  |exc _=>exact p3.elim
 |f _=>cases m2 <;> exact p3.elim
 |tup _=>cases m2 <;> exact p3.elim
 |exc _=>cases m2 <;> exact p3.elim
end
section
variable {ct:Tx} {Pm:Prog} {n:Nat}
section
variable {X:Cx} {E:XK} {Ra:L2.St->Prop} {N:List Str} {sc:az}
theorem zd   (p:PE X e (lE ct Ra E ev))(h:∀ σ hh,wR σ hh=ev σ hh):PE X e (lE ct Ra E wR):=by
 have:wR=ev:=funext λσ=>funext λhh=>h σ hh;rw[this];exact p
theorem yr   (p:PE X e (lE ct Ra E ev)/\PT X e (lT ct Ra E (fM ev)))(h:∀ σ hh,wR σ hh=ev σ hh):PE X e (lE ct Ra E wR)/\PT X e (lT ct Ra E (fM wR)):=by
 have:wR=ev:=funext λσ=>funext λhh=>h σ hh;rw[this];exact p
theorem Cc.comp   (c:Cc X Pm ct n Ra E N sc)(nd:N'.Nodup)(C)(s3)(H)(ex):Cc (ia X cs N' C s3 H ex) Pm ct n (λ_=>True) E0 N' (zM cs sc) :=
 ⟨c.txt,c.calm,c.room,λσ _ pins H s e s' I ⟨_,_,_,_,_,_,_,_,_,_,_,_,_,_,_,q⟩=>q.elim,rfl,by rw[<- c.sc];rfl,nd,c.hK⟩
def Sd(X:Cx)(ct:Tx)(Pm:Prog)(n:Nat)(Ra:L2.St->Prop)(E:XK)(me:ME)(e:Expr):Prop :=
 PE X e (lE ct Ra E (qa Pm (run Pm n) me))/\(iY me=true->PT X e (lT ct Ra E (fM (qa Pm (run Pm n) me))))
theorem Sd.of   (h:PE X e (lE ct Ra E (qa Pm (run Pm n) me))/\PT X e (lT ct Ra E (fM (qa Pm (run Pm n) me)))):Sd X ct Pm n Ra E me e:=⟨h.1,λ_=>h.2⟩
theorem K9   (b:Bo ct X Ra E Pm n ms es)(hl:es.length<1000):∀ σ h xs h',Zh Pm (run Pm n) ms σ h=.ok xs h'->xs.length<=sizeLine:=λσ h xs h' e=>by
 rw[QR e,b.length];exact xf (wC hl) (by decide)
end
end
end SD
end
section
namespace SD
open PySem PySem.Spec PyProof.Rows L2 L3 M3 MP
variable {ct:Tx} {Pm:Prog} {n:Nat}
set_option tactic.hygienic true in
theorem KN         (c:Cc X Pm ct n Ra E N sc)(k1:vI t it iter=true)(k2:gl sc (jk it)=true)(b:Bo ct X Ra E Pm n ms (yE iter)) :
  PI X t iter (lI ct Ra E (Zh Pm (run Pm n) ms) it):=by
 obtain⟨g1,g2,g3⟩:=yD c.sc k2;unfold vI at k1;split at k1
 next x p as p2 =>
  simp only[Wa,Ui,beq_iff_eq] at k1;obtain⟨k1,rfl⟩:=k1;have b':Bo ct X Ra E Pm n ms as:=b
  rcases k1 with (⟨rfl,ha⟩|⟨⟨rfl,ht⟩,ha⟩)|⟨⟨rfl,ht⟩,ha⟩
  ·have hl:=b'.length;have hm:X.mg "range"=none:=c.txt.iV "range" (by simp);exact Qb6 g1 hm b'.pa b'.plain ha λσ h xs h' e=>by rw[QR e,hl]
  ·cases t with
   |Tuple es k pt =>
    have hm:X.mg "zip"=none:=c.txt.iV "zip" (by simp)
    rcases as with _|⟨u,_|⟨v,_|⟨w,as⟩⟩⟩
    ·simp at ha
    ·simp at ha
    ·exact qc6 c.hK g1 hm b'.pa b'.plain λσ h xs h' e=>by rw[QR e,b'.length];rfl
    ·simp at ha
   |_=>exact wj ht
  ·exact wj ht
 next=>exact wj k1
theorem LM{α:Type}{l:List α}{p:α×α}(h:rD l=some p):l=[p.1,p.2]:=by
 rcases l with _|⟨a,_|⟨b,_|⟨c,l⟩⟩⟩
 ·exact nomatch h
 ·exact nomatch h
 ·cases h;rfl
 ·exact nomatch h
theorem FU{α:Type}{l:List α}{p:α}(h:sr l=some p):l=[p]:=by
 rcases l with _|⟨a,_|⟨b,l⟩⟩
 ·exact nomatch h
 ·cases h;rfl
 ·exact nomatch h
theorem rV{α:Type}{a:α}{p:Prop}(h:none=some a):p:=nomatch h
theorem Rw{e v:Expr}{x:Str}(h:rz e=some (x,v)):∃ p q,e=.Call (.Name x p) [v] [] q:=by
 cases e with
 |Call g as ks q =>
  cases g with
  |Name z p =>
   cases ks with
   |nil =>
    have h:((sr as).map λa=>(z,a))=some (x,v):=h;obtain⟨a,e1,h⟩:=Uc.mp h;cases h;exact⟨p,q,by rw[FU e1]⟩
   |cons _ _=>exact rV h
  |_=>exact rV h
 |_=>exact rV h
theorem Zb8{e l r:Expr}{o:dH}(h:QY e=some (l,o,r)):∃ p,e=.Compare l [o] [r] p:=by
 cases e with
 |Compare l' os rs p =>
  have h:((sr os).bind λo=>(sr rs).map λr=>(l',o,r))=some (l,o,r):=h;obtain⟨o',e1,h⟩:=wb.mp h;obtain⟨r',e2,h⟩:=Uc.mp h;cases h;exact⟨p,by rw[FU e1,FU e2]⟩
 |_=>exact rV h
theorem LQ  (h:C5 e=true):∃ j p,e=.Constant .none j p:=by
 cases e with
 |Constant k j p =>
  cases k with
  |none=>exact⟨_,_,rfl⟩
  |_=>exact ff h
 |_=>exact ff h
theorem DG{e:Expr}{f:Expr->dH->Expr->Bool}(h:(match QY e with|some (l,o,r)=>f l o r|none=>false)=true):∃ l o r p,e=.Compare l [o] [r] p/\f l o r=true:=by
 cases w:QY e with
 |none=>rw[w] at h;exact ff h
 |some q =>
  obtain⟨l,o,r⟩:=q;rw[w] at h;obtain⟨p,e⟩:=Zb8 w;exact⟨l,o,r,p,e,h⟩
theorem O2{e v u:Expr}{x:Str}(h:uW e=some (x,v,u)):∃ p q,e=.Call (.Name x p) [v,u] [] q:=by
 cases e with
 |Call g as ks q =>
  cases g with
  |Name z p =>
   cases ks with
   |nil =>
    have h:((rD as).map λa=>(z,a))=some (x,v,u):=h;obtain⟨a,e1,h⟩:=Uc.mp h;cases h;exact⟨p,q,by rw[LM e1]⟩
   |cons _ _=>exact rV h
  |_=>exact rV h
 |_=>exact rV h
theorem CV{e:Expr}{f:Str->Expr->Bool}(h:(match rz e with|some (x,v)=>f x v|none=>false)=true):∃ x v p q,e=.Call (.Name x p) [v] [] q/\f x v=true:=by
 cases w:rz e with
 |none=>rw[w] at h;exact ff h
 |some q =>
  obtain⟨x,v⟩:=q;rw[w] at h;obtain⟨p,q,e⟩:=Rw w;exact⟨x,v,p,q,e,h⟩
theorem ZcO{e:Expr}{x:Str}(h:C3 e=some x):∃ p,e=.Name x p:=by
 cases e with
 |Name y p=>cases h;exact⟨p,rfl⟩
 |_=>exact rV h
theorem BJ{e:Expr}{f:Str->Expr->Str->Bool}(h:(match Fw e with|some (x,v,y)=>f x v y|none=>false)=true):∃ x v y p1 p2 p3,e=.Call (.Name x p1) [v,.Name y p2] [] p3/\f x v y=true:=by
 cases w:Fw e with
 |none=>rw[w] at h;exact ff h
 |some q =>
  obtain⟨x,v,y⟩:=q;rw[w] at h;obtain⟨⟨x',v',y'⟩,e1,w⟩:=wb.mp w;obtain⟨z,e2,w⟩:=Uc.mp w;cases w;obtain⟨p2,e2⟩:=ZcO e2;have e2:y'=.Name y p2:=e2;subst e2;obtain⟨p1,p3,e⟩:=O2 e1;exact⟨_,_,_,p1,p2,p3,e,h⟩
theorem qbT   (h:Lg e=some (x,y,u,v)):∃ p1 p2 p3 p,e=.Call (.Name x p1) [.Call (.Name y p2) [u,v] [] p3] [] p:=by
 obtain⟨⟨x',v'⟩,e1,h⟩:=wb.mp h;obtain⟨⟨y',w⟩,e2,h⟩:=Uc.mp h;cases h;obtain⟨p1,p,rfl⟩:=Rw e1;obtain⟨p2,p3,rfl⟩:=O2 e2;exact⟨p1,p2,p3,p,rfl⟩
set_option tactic.hygienic true in
mutual
theorem sB:∀(me:ME){X:Cx}{E:XK}{Ra:L2.St->Prop}{N:List Str} {sc:az} (c:Cc X Pm ct n Ra E N sc) (e:Expr),Qf Pm me N sc e=true->Sd X ct Pm n Ra E me e
 |.var i,X,E,Ra,N,sc,c,e,h=>by
  have h:=Ye h;cases e with
  |Name x p =>
   have h:(N[i]? == some x&&oX sc x)=true:=h;simp only[Wa,beq_iff_eq] at h;exact Sd.of (Qd (zd (Cr (by rw[c.nm];exact h.1) (by rw[c.sc];exact h.2)) λσ hh=>by simp only[qa]))
  |_=>exact ff h
 |.cI i,X,E,Ra,N,sc,c,e,h=>by
  have h:=Ye h;cases e with
  |Constant k j p =>
   cases k with
   |int z =>
    have hz:i=z:=by simpa using(show(i==z)=true from h)
    subst hz;exact Sd.of (Qd (zd (DN Dj λ_ _ _=>YA _) λσ hh=>by simp only[qa]))
   |_=>exact ff h
  |_=>exact ff h
 |.cB i,X,E,Ra,N,sc,c,e,h=>by
  have h:=Ye h;cases e with
  |Constant k j p =>
   cases k with
   |bool z =>
    have hz:i=z:=by simpa using(show(i==z)=true from h)
    subst hz;exact Sd.of (Qd (zd (DN A4 λ_ _ _=>QC _) λσ hh=>by simp only[qa]))
   |_=>exact ff h
  |_=>exact ff h
 |.cN,X,E,Ra,N,sc,c,e,h=>by
  have h:=Ye h;cases e with
  |Constant k j p =>
   cases k with
   |none =>
    exact Sd.of (Qd (zd (DN yc6 λ_ _ _=>wZ) λσ hh=>by simp only[qa]))
   |_=>exact ff h
  |_=>exact ff h
 |.cS i,X,E,Ra,N,sc,c,e,h=>by
  have h:=Ye h;cases e with
  |Constant k j p =>
   cases k with
   |str z =>
    have hz:i=z:=by simpa using(show(i==z)=true from h)
    subst hz;exact Sd.of (Qd (zd (DN Yz λ_ _ _=>Fo _) λσ hh=>by simp only[qa]))
   |_=>exact ff h
  |_=>exact ff h
 |.bin fz op a b,X,E,Ra,N,sc,c,e,h=>by
  have h:=Ye h;cases e with
  |BinOp l o r p =>
   have h:(o==Er op&&Qf Pm a N sc l&&Qf Pm b N sc r)=true:=h;simp only[Wa,beq_iff_eq] at h;obtain(⟨⟨rfl,h1⟩,h2⟩):=h;exact Sd.of (Qd (zd (CM fz op (sB a c l h1).1 (sB b c r h2).1) λσ hh=>by simp only[qa]))
  |_=>exact ff h
 |.neg a,X,E,Ra,N,sc,c,e,h=>by
  have h:=Ye h;cases e with
  |UnaryOp o x p =>
   cases o with
   |USub=>exact Sd.of (Qd (zd (Cz (sB a c x (show Qf Pm a N sc x=true from h)).1) λσ hh=>by simp only[qa]))
   |_=>exact ff h
  |_=>exact ff h
 |.cmp op a b,X,E,Ra,N,sc,c,e,h=>by
  obtain(⟨l,o,r,p,rfl,g⟩):=DG (show(match QY e with|some (l,o,r)=>o==nA op&&Qf Pm a N sc l&&Qf Pm b N sc r|none=>false)=true from Ye h);simp only[Wa,beq_iff_eq] at g;obtain(⟨⟨rfl,h1⟩,h2⟩):=g;exact Sd.of (yr (CJ c.hK op c.units (sB a c l h1).1 (sB b c r h2).1 (qo h2)) λσ hh=>by simp only[qa])
 |.chain op N6 a b d,X,E,Ra,N,sc,c,e,h=>by
  have h:=Ye h;cases e with
  |Compare l os rs p =>
   rcases os with _|⟨o,_|⟨o2,_|⟨o3,os⟩⟩⟩
   ·exact ff h
   ·exact ff h
   ·rcases rs with _|⟨m,_|⟨r,_|⟨r2,rs⟩⟩⟩
    ·exact ff h
    ·exact ff h
    ·have h:(o==nA op&&o2==nA N6&&Qf Pm a N sc l&&Qf Pm b N sc m&&Qf Pm d N sc r)=true:=h;simp only[Wa,beq_iff_eq] at h;obtain(⟨⟨⟨⟨rfl,rfl⟩,h1⟩,h2⟩,h3⟩):=h;exact Sd.of (yr (ZcA c.hK op N6 c.units (sB a c l h1).1 (sB b c m h2).1 (sB d c r h3).1 (qo h3)) λσ hh=>by simp only[qa])
    ·exact ff h
   ·exact ff h
  |_=>exact ff h
 |.BL a,X,E,Ra,N,sc,c,e,h=>by
  obtain(⟨l,o,r,p,rfl,g⟩):=DG (show(match QY e with|some (l,o,r)=>o == .Is&&C5 r&&Qf Pm a N sc l|none=>false)=true from Ye h);simp only[Wa,beq_iff_eq] at g;obtain(⟨⟨rfl,h1⟩,h2⟩):=g;obtain(⟨j,p2,rfl⟩):=LQ h1;exact Sd.of (yr (CF (sB a c l h2).1) λσ hh=>by simp only[qa])
 |.pG a,X,E,Ra,N,sc,c,e,h=>by
  obtain(⟨l,o,r,p,rfl,g⟩):=DG (show(match QY e with|some (l,o,r)=>o == .IsNot&&C5 r&&Qf Pm a N sc l|none=>false)=true from Ye h);simp only[Wa,beq_iff_eq] at g;obtain(⟨⟨rfl,h1⟩,h2⟩):=g;obtain(⟨j,p2,rfl⟩):=LQ h1;exact Sd.of (yr (zc1 (sB a c l h2).1) λσ hh=>by simp only[qa])
 |.and es,X,E,Ra,N,sc,c,e,h=>by
  have h:=Ye h;cases e with
  |BoolOp o vs p =>
   cases o with
   |And =>
    have h:(es.all iY&&Ym Pm es N sc vs)=true:=h;rw[Wa] at h;obtain(⟨i1,i2⟩):=Mq (pos:=p) (mK es c vs h.2) h.1;exact Sd.of (yr ⟨i1,i2.pt⟩ λσ hh=>by simp only[qa])
   |_=>exact ff h
  |_=>exact ff h
 |.or es,X,E,Ra,N,sc,c,e,h=>by
  have h:=Ye h;cases e with
  |BoolOp o vs p =>
   cases o with
   |Or =>
    have h:(es.all iY&&Ym Pm es N sc vs)=true:=h;rw[Wa] at h;obtain(⟨i1,i2⟩):=Cw (pos:=p) (mK es c vs h.2) h.1;exact Sd.of (yr ⟨i1,i2.pt⟩ λσ hh=>by simp only[qa])
   |_=>exact ff h
  |_=>exact ff h
 |.not a,X,E,Ra,N,sc,c,e,h=>by
  have h:=Ye h;cases e with
  |UnaryOp o x p =>
   cases o with
   |Not =>
    have h:(iY a&&Qf Pm a N sc x)=true:=h;rw[Wa] at h;obtain(⟨i1,i2⟩):=sB a c x h.2;exact Sd.of (yr (Cy i1 (i2 h.1)) λσ hh=>by simp only[qa])
   |_=>exact ff h
  |_=>exact ff h
 |.ite d a b,X,E,Ra,N,sc,c,e,h=>by
  have h:=Ye h;cases e with
  |IfExp t x y p =>
   have h:(iY d&&Qf Pm d N sc t&&Qf Pm a N sc x&&Qf Pm b N sc y)=true:=h;simp only[Wa] at h;obtain(⟨⟨⟨h0,h1⟩,h2⟩,h3⟩):=h;exact⟨zd (CD ((sB d c t h1).2 h0) (sB a c x h2).1 (sB b c y h3).1) λσ hh=>by simp only[qa],λz=>wj z⟩
  |_=>exact ff h
 |.tup es,X,E,Ra,N,sc,c,e,h=>by
  have h:=Ye h;cases e with
  |Tuple vs k p =>
   have h:(decide (vs.length<1000)&&Ym Pm es N sc vs)=true:=h;rw[Wa] at h;have b:=mK es c vs h.2;exact Sd.of (Qd (zd (Cu b.pa (K9 b (of_decide_eq_true h.1))) λσ hh=>by simp only[qa]))
  |_=>exact ff h
 |.lst fz es,X,E,Ra,N,sc,c,e,h=>by
  have h:=Ye h;cases e with
  |List vs p =>
   have h:(decide (vs.length<1000)&&Ym Pm es N sc vs)=true:=h;rw[Wa] at h;have b:=mK es c vs h.2;exact Sd.of (Qd (zd (CB fz b.pa (K9 b (of_decide_eq_true h.1))) λσ hh=>by simp only[qa]))
  |_=>exact ff h
 |.sub a i,X,E,Ra,N,sc,c,e,h=>by
  have h:=Ye h;cases e with
  |Subscript x y p =>
   have h:(Qf Pm a N sc x&&Qf Pm i N sc y)=true:=h;rw[Wa] at h;exact Sd.of (Qd (zd (Cv c.hK (sB a c x h.1).1 (sB i c y h.2).1 (qo h.2)) λσ hh=>by simp only[qa]))
  |_=>exact ff h
 |.slice fz a lo hi,X,E,Ra,N,sc,c,e,h=>by
  have h:=Ye h;cases e with
  |Subscript x y p =>
   cases y with
   |Slice l u st p2 =>
    cases st with
    |none =>
     have h:(Qf Pm a N sc x&&xN Pm lo N sc l&&xN Pm hi N sc u)=true:=h;simp only[Wa] at h;obtain(⟨⟨h1,h2⟩,h3⟩):=h;exact Sd.of (Qd (zd (zcH c.hK fz (sB a c x h1).1 (Nd lo c l h2) (Nd hi c u h3)) λσ hh=>by simp only[qa]))
    |some _=>exact ff h
   |_=>exact ff h
  |_=>exact ff h
 |.fld a f,X,E,Ra,N,sc,c,e,h=>by
  have h:=Ye h;cases e with
  |Attribute x m p =>
   have h:(m==jk f&&zi x&&Qf Pm a N sc x)=true:=h;simp only[Wa,beq_iff_eq] at h;obtain(⟨⟨rfl,h1⟩,h2⟩):=h;exact Sd.of (Qd (zd (CI c.txt (sB a c x h2).1 h1) λσ hh=>by simp only[qa]))
  |_=>exact ff h
 |.call f es,X,E,Ra,N,sc,c,e,h=>by
  have h:=Ye h;cases e with
  |Call g as ks p =>
   cases g with
   |Name x p2 =>
    cases as with
    |nil=>exact ff h
    |cons v vs =>
     cases ks with
     |cons _ _=>exact ff h
     |nil =>
      have h:(x==jk f&&gl sc x&&!(f.toList.contains '.')&&(Pm.defs f).isSome&&Ym Pm es N sc (v::vs))=true:=h;simp only[Wa,beq_iff_eq,Wi] at h;obtain(⟨⟨⟨⟨rfl,h1⟩,h2⟩,h3⟩,h4⟩):=h;obtain(⟨d,hd⟩):=Vk.mp h3;have b:=mK es c (v::vs) h4;exact Sd.of (Qd (zd (qc5 c hd h2 h1 b.pa b.plain) λσ hh=>by simp only[qa]))
   |_=>exact ff h
  |_=>exact ff h
 |.make fz cn es,X,E,Ra,N,sc,c,e,h=>by
  have h:=Ye h;cases e with
  |Call g as ks p =>
   cases g with
   |Name x p2 =>
    cases as with
    |nil =>
     cases ks with
     |cons _ _=>cases es <;> exact ff h
     |nil =>
      cases es with
      |cons _ _=>exact ff h
      |nil =>
       have h:(x==jk cn&&gl sc x&&Pm.nT cn&&(Pm.meths cn "__init__").isNone)=true:=h;simp only[Wa,beq_iff_eq,Option.isNone_iff_eq_none] at h;obtain(⟨⟨⟨rfl,h1⟩,h3⟩,h4⟩):=h;exact Sd.of (Qd (zd (qcG fz c h3 h4 h1) λσ hh=>by simp only[qa,Zh]))
    |cons v vs =>
     cases ks with
     |cons _ _=>exact ff h
     |nil =>
      have h:(x==jk cn&&gl sc x&&(Pm.meths cn "__init__").isSome&&Ym Pm es N sc (v::vs))=true:=h;simp only[Wa,beq_iff_eq] at h;obtain(⟨⟨⟨rfl,h1⟩,h3⟩,h4⟩):=h;obtain(⟨d,hd⟩):=Vk.mp h3;have b:=mK es c (v::vs) h4;exact Sd.of (Qd (zd (Zdc fz c hd h1 b.pa b.plain) λσ hh=>by simp only[qa]))
   |_=>exact ff h
  |_=>exact ff h
 |.lC o m es,X,E,Ra,N,sc,c,e,h=>by
  have h:=Ye h;cases e with
  |Call g as ks p =>
   cases g with
   |Attribute x nm ap =>
    cases ks with
    |cons _ _=>exact ff h
    |nil =>
     have h:(nm==jk m&&decide (m≠"__init__")&&zi x&&(ap.endLine==p.line)&&Qf Pm o N sc x&&Ym Pm es N sc as&&decide (as.length<30))=true:=h;simp only[Wa,beq_iff_eq,decide_eq_true_eq] at h;obtain(⟨⟨⟨⟨⟨⟨rfl,h0⟩,h1⟩,h2⟩,h3⟩,h4⟩,h5⟩):=h;have b:=mK es c as h4;have ho:=(sB o c x h3).1;have hl:(ap.endLine==p.line)=true:=by simpa using h2
     cases as with
     |nil =>
      cases es with
      |cons _ _=>exact b.elim
      |nil=>exact Sd.of (Qd (zd (ycM c h0 ho h1 hl) λσ hh=>by simp only[qa,Zh]))
     |cons v vs=>exact Sd.of (Qd (zd (QcH c h0 ho h1 b.pa b.plain h5 hl) λσ hh=>by simp only[qa]))
   |_=>exact ff h
  |_=>exact ff h
 |.blt fz id es,X,E,Ra,N,sc,c,e,h=>by
  have h:=Ye h;cases e with
  |Call g as ks p =>
   cases g with
   |Name x p2 =>
    cases as with
    |nil=>exact ff h
    |cons v vs =>
     cases ks with
     |cons _ _=>exact ff h
     |nil =>
      have h:(x==jk id&&gl sc x&&(eP.contains id||dO.contains id)&&Ym Pm es N sc (v::vs))=true:=h;simp only[Wa,beq_iff_eq,Ui] at h;obtain(⟨⟨⟨rfl,h1⟩,h2⟩,h4⟩):=h;have b:=mK es c (v::vs) h4;exact Sd.of (Qd (zd (CL fz c (by simpa using h2) h1 b.pa b.plain) λσ hh=>by simp only[qa]))
   |_=>exact ff h
  |_=>exact ff h
 |.lJ a t,X,E,Ra,N,sc,c,e,h=>by
  obtain(⟨x,v,y,p1,p2,p3,rfl,g⟩):=BJ (show(match Fw e with|some (x,v,y)=>x==("isinstance":Str)&&gl sc x&&y==jk t&&gl sc y&&(aY.contains t||(Pm.subs t t).isSome)&&Qf Pm a N sc v|none=>false)=true from Ye h);simp only[Wa,beq_iff_eq,Ui] at g;obtain(⟨⟨⟨⟨⟨rfl,h1⟩,rfl⟩,h2⟩,h3⟩,h4⟩):=g;exact Sd.of (Qd (zd (CG c h3 h1 h2 (sB a c v h4).1 (qo h4)) λσ hh=>by simp only[qa]))
 |.pC fz a,X,E,Ra,N,sc,c,e,h=>by
  replace h:=Ye h;replace h:(match Mw e with|some (x,y,v)=>false|none=>match Kz e with|some v=>Qf Pm a N sc v|none=>false)=true:=h;split at h
  next x y v w=>exact ff h
  next =>
   split at h
   next v w =>
    have hw:∃ st p2 p,e=.Subscript v (.Slice none none (some st) p2) p/\pM st=true:=by
     unfold Kz at w;split at w
     ·split at w
      ·cases w;exact⟨_,_,_,rfl,by assumption⟩
      ·cases w
     ·cases w
    obtain(⟨st,p2,p,rfl,nh⟩):=hw;exact Sd.of (Qd (zd (qcX fz c nh (sB a c v h).1) λσ hh=>by simp only[qa]))
   next=>exact ff h
 |.pK,X,E,Ra,N,sc,c,e,h=>by
  replace h:=Ye h;cases e with
  |Dict ks vs p =>
   cases ks with
   |nil =>
    cases vs with
    |nil=>exact Sd.of (Qd (zd Zc3 λσ hh=>by simp only[qa]))
    |cons _ _=>exact ff h
   |cons _ _=>exact ff h
  |_=>exact ff h
 |.Es a,X,E,Ra,N,sc,c,e,h=>by
  obtain(⟨x,v,p1,p2,rfl,g⟩):=CV (show(match rz e with|some (x,v)=>x==("dict":Str)&&gl sc x&&Qf Pm a N sc v|none=>false)=true from Ye h);simp only[Wa,beq_iff_eq] at g;obtain(⟨⟨rfl,h1⟩,h2⟩):=g;exact Sd.of (Qd (zd (CA c h1 (sB a c v h2).1 (qo h2)) λσ hh=>by simp only[qa]))
 |.sL o a b,X,E,Ra,N,sc,c,e,h=>by
  replace h:=Ye h;cases o with
  |upd =>
   obtain(⟨x,ap,v,cp,rfl,h1,h2,h3,h4⟩):∃ x ap v cp,e=.Call (.Attribute x "update" ap) [v] [] cp/\zi x=true/\(ap.endLine==cp.line)=true/\Qf Pm a N sc x=true/\Qf Pm b N sc v=true:=by
    cases e with
    |Call f as ks p =>
     cases f with
     |Attribute x n ap =>
      rcases as with _|⟨v,_|⟨v2,as⟩⟩
      ·exact ff h
      ·cases ks with
       |nil =>
        replace h:(n==("update":Str)&&zi x&&(ap.endLine==p.line)&&Qf Pm a N sc x&&Qf Pm b N sc v)=true:=h;simp only[Wa,beq_iff_eq] at h;obtain(⟨⟨⟨⟨rfl,h1⟩,h2⟩,h3⟩,h4⟩):=h;exact⟨x,ap,v,p,rfl,h1,by simpa using h2,h3,h4⟩
       |cons _ _=>exact ff h
      ·exact ff h
     |_=>exact ff h
    |_=>exact ff h
   exact Sd.of (Qd (zd (Ct c (sB a c x h3).1 (sB b c v h4).1 h1 (qo h4) h2) λσ hh=>by simp only[qa,As]))
  |lB fz =>
   replace h:(match Lg e with|some (x,y,u,v)=>x==("list":Str)&&gl sc x&&y==("zip":Str)&&gl sc y&&Qf Pm a N sc u&&Qf Pm b N sc v|none=>false)=true:=h;split at h
   next x y u v w =>
    obtain(⟨p1,p2,p3,p,rfl⟩):=qbT w;simp only[Wa,beq_iff_eq] at h;obtain(⟨⟨⟨⟨⟨rfl,h1⟩,rfl⟩,h2⟩,h3⟩,h4⟩):=h;exact Sd.of (Qd (zd (Zc0 fz c h1 h2 (sB a c u h3).1 (sB b c v h4).1 (qo h3) (qo h4)) λσ hh=>by simp only[qa,As]))
   next=>exact ff h
 |.pJ a b,X,E,Ra,N,sc,c,e,h=>by
  obtain(⟨l,o,r,p,rfl,g⟩):=DG (show(match QY e with|some (l,o,r)=>o == .NotIn&&Qf Pm a N sc l&&Qf Pm b N sc r|none=>false)=true from Ye h);simp only[Wa,beq_iff_eq] at g;obtain(⟨⟨rfl,h1⟩,h2⟩):=g;exact Sd.of (yr (qda c.units (sB a c l h1).1 (sB b c r h2).1 (qo h2)) λσ hh=>by simp only[qa])
 |.rW a b,X,E,Ra,N,sc,c,e,h=>by
  replace h:=Ye h;cases e <;> exact ff h
 |.lm m o es,X,E,Ra,N,sc,c,e,h=>by
  have h:=Ye h;cases e with
  |Call g as ks p =>
   cases g with
   |Attribute x nm ap =>
    cases ks with
    |cons _ _=>exact ff h
    |nil =>
     have h:(nm==jk m&&zi x&&(ap.endLine==p.line)&&Qf Pm o N sc x&&Ym Pm es N sc as&&(if as.isEmpty then ig.contains m else iZ.contains m&&decide (as.length<30)))=true:=h;simp only[Wa,beq_iff_eq] at h;obtain(⟨⟨⟨⟨⟨rfl,h1⟩,h2⟩,h3⟩,h4⟩,h5⟩):=h;have b:=mK es c as h4;have ho:=(sB o c x h3).1;have hl:(ap.endLine==p.line)=true:=by simpa using h2
     cases as with
     |nil =>
      cases es with
      |cons _ _=>exact b.elim
      |nil =>
       have ES:m∈ig:=by simpa using h5
       simp only[ig,Wb,Ud,or_false] at ES
       rcases ES with rfl
       ·exact Sd.of (Qd (zd (CC PySem.F.slot_list_reverse PySem.F.type_list_reverse ybG ho h1 hl) λσ hh=>by simp only[qa,Zh]))
     |cons v vs =>
      have ES:m∈iZ/\(v::vs).length<30:=by simpa using h5
      obtain(⟨h6,h7⟩):=ES;simp only[iZ,Wb,Ud,or_false] at h6
      rcases h6 with rfl|rfl|rfl|rfl
      ·exact Sd.of (Qd (zd (Ea PySem.F.slot_list_append PySem.F.type_list_append zbR ho h1 b.pa b.plain h7 hl) λσ hh=>by simp only[qa]))
      ·exact Sd.of (Qd (zd (Ea PySem.F.slot_list_insert PySem.F.type_list_insert yb1 ho h1 b.pa b.plain h7 hl) λσ hh=>by simp only[qa]))
      ·exact Sd.of (Qd (zd (Ea PySem.F.slot_list_extend PySem.F.type_list_extend YbQ ho h1 b.pa b.plain h7 hl) λσ hh=>by simp only[qa]))
      ·exact Sd.of (Qd (zd (Ea PySem.F.slot_list_pop PySem.F.type_list_pop Qc5 ho h1 b.pa b.plain h7 hl) λσ hh=>by simp only[qa]))
   |_=>exact ff h
  |_=>exact ff h
 |.comp fz elt tg it src cond bW js,X,E,Ra,N,sc,c,e,h=>by
  have h:=Ye h;cases e with
  |ListComp x gs cs p =>
   rcases gs with _|⟨⟨t,iter,ifs,a⟩,_|⟨g2,gs⟩⟩
   ·exact ff h
   ·have h:((a==0)&&Ya iter&&QA sc N cs (nD tg t++js.filterMap λj=>N[j]?) bW js&&decide (nD tg t++js.filterMap λj=>N[j]?).Nodup&&QE (tx cs) (nD tg t++js.filterMap λj=>N[j]?) (zM cs sc) tg t&&Qf Pm elt (nD tg t++js.filterMap λj=>N[j]?) (zM cs sc) x&&pZ Pm cond (nD tg t++js.filterMap λj=>N[j]?) (zM cs sc) ifs&&(if it == "seq" then wY Pm src N sc iter else if it == "signs" then false else if it == "enum1" then false else vI t it iter&&gl sc (jk it)&&Ym Pm src N sc (yE iter)))=true:=h;simp only[Wa,beq_iff_eq,decide_eq_true_eq] at h;obtain(⟨⟨⟨⟨⟨⟨⟨ha,h1⟩,h2⟩,h3⟩,h4⟩,h5⟩,h6⟩,h7⟩):=h;subst ha;have hi:PI X t iter (lI ct Ra E (Zh Pm (run Pm n) src) it):=by
     split at h7
     next hs =>
      subst hs;exact GX src c t iter h7
     next hs =>
      split at h7
      next Im =>
       subst Im;exact ff h7
      next =>
      split at h7
      next kR =>
       exact ff h7
      next =>
       simp only[Wa] at h7;obtain(⟨⟨k1,k2⟩,k3⟩):=h7;exact KN c k1 k2 (mK src c (yE iter) k3)
    exact Sd.of (Qd (zd (qc2 fz (by rw[c.sc,c.nm];exact h2) c.calm hi (λC s3 H ex=>sG rfl (c.comp h3 C s3 H ex).sc h3 c.calm (λ_ z=>z) tg t h4) (λC s3 H ex=>Nf cond (c.comp h3 C s3 H ex) ifs h6) (λC s3 H ex=>(sB elt (c.comp h3 C s3 H ex) x h5).1) h1) λσ hh=>by simp only[qa]))
   ·exact ff h
  |_=>exact ff h
 |.eO m,X,E,Ra,N,sc,c,e,h=>by
  have h:=Ye h;have h':Qf Pm m N sc e=true:=h;exact⟨zd (CH (sB m c e h').1) λσ hh=>by simp only[qa],λz=>wj z⟩
theorem mK:∀(pI:List ME){X:Cx}{E:XK}{Ra:L2.St->Prop}{N:List Str} {sc:az} (c:Cc X Pm ct n Ra E N sc) (es:List Expr),Ym Pm pI N sc es=true->Bo ct X Ra E Pm n pI es
 |[],X,E,Ra,N,sc,c,es,h=>by
  cases es with
  |nil=>trivial
  |cons e es=>exact ff h
 |m::ms,X,E,Ra,N,sc,c,es,h=>by
  cases es with
  |nil=>exact ff h
  |cons e es =>
   have h:=ybx h;exact⟨⟨qo h.1,sB m c e h.1⟩,mK ms c es h.2⟩
theorem GX:∀(pI:List ME){X:Cx}{E:XK}{Ra:L2.St->Prop}{N:List Str} {sc:az} (c:Cc X Pm ct n Ra E N sc) (t e:Expr),wY Pm pI N sc e=true->PI X t e (lI ct Ra E (Zh Pm (run Pm n) pI) "seq")
 |[],X,E,Ra,N,sc,c,t,e,h=>ff h
 |[m],X,E,Ra,N,sc,c,t,e,h=>by
  have h:Qf Pm m N sc e=true:=h;have:=Yc5 c.hK (tg:=t) (sB m c e h).1;have e2:Zh Pm (run Pm n) [m]=λσ hh=>(qa Pm (run Pm n) m σ hh).bind λx h1=>.ok [x] h1:=by
   funext σ hh;simp only[Zh] <;> rfl
  rw[e2];exact this
 |_::_::_,X,E,Ra,N,sc,c,t,e,h=>ff h
theorem Nd:∀(mo:Option ME){X:Cx}{E:XK}{Ra:L2.St->Prop}{N:List Str} {sc:az} (c:Cc X Pm ct n Ra E N sc) (eo:Option Expr),xN Pm mo N sc eo=true->PO X eo (lO ct Ra E (AW Pm (run Pm n) mo))
 |none,X,E,Ra,N,sc,c,eo,h=>by
  cases eo with
  |none =>
   refine PO.imp qcK λσ H Q q=>?_;obtain⟨μ,hh,σs,rel,aF,ra,p⟩:=q;simp only[AW] at p;exact p.now rel
  |some e=>exact ff h
 |some m,X,E,Ra,N,sc,c,eo,h=>by
  cases eo with
  |none=>exact ff h
  |some e =>
   have h:Qf Pm m N sc e=true:=h;refine PO.imp (Mx (sB m c e h).1) λσ H Q q=>?_;obtain⟨μ,hh,σs,rel,aF,ra,p⟩:=q;simp only[AW] at p;refine lE.mk rel aF ra p λx v μ1 h1 H1 ex ar aW rv p1=>?_;obtain⟨i,e,p2⟩:=Po.opt p1;have:=yj e;subst this;exact⟨i,Qp rv,p2.now ar⟩
theorem Nf:∀(mo:Option ME){X:Cx}{E:XK}{Ra:L2.St->Prop}{N:List Str} {sc:az} (c:Cc X Pm ct n Ra E N sc) (es:List Expr),pZ Pm mo N sc es=true->nB X es (lT ct Ra E (xP Pm (run Pm n) mo))
 |none,X,E,Ra,N,sc,c,es,h=>by
  cases es with
  |nil =>
   refine nB.imp ycL λσ H Q q=>?_;obtain⟨μ,hh,σs,rel,aF,ra,p⟩:=q;simp only[xP] at p;exact p.now rel
  |cons e es=>exact ff h
 |some m,X,E,Ra,N,sc,c,es,h=>by
  rcases es with _|⟨e,_|⟨e2,es⟩⟩
  ·exact ff h
  ·have h:(iY m&&Qf Pm m N sc e)=true:=h;rw[Wa] at h;have e2:xP Pm (run Pm n) (some m)=fM (qa Pm (run Pm n) m):=by
    funext σ hh;simp only[xP,fM]
   rw[e2];exact PN ((sB m c e h.2).2 h.1)
  ·exact ff h
end
end SD
end
section
namespace SD
open PySem PySem.Spec PyProof.Rows L2 L3 M3 MP
def fA(ct:Tx)(E:XK)(r:RS)(μ:List ae)(h:MH)(H:Hp)(D:Ends):Prop:=match r with
 |.next σ' h'=>∀ μ' H' σ,Ext μ h H μ' h' H'->Rel ct μ' h' H'->ba ct μ' h' H' σ σ'->D.nx σ H'
 |.ret m h'=>∀ μ' H' v,Ext μ h H μ' h' H'->Rel ct μ' h' H'->RV ct μ' (bg μ' h') H' m v->D.rt v H'
 |.brk σ' h'=>∀ μ' H' σ,Ext μ h H μ' h' H'->Rel ct μ' h' H'->ba ct μ' h' H' σ σ'->D.bk σ H'
 |.cnt σ' h'=>∀ μ' H' σ,Ext μ h H μ' h' H'->Rel ct μ' h' H'->ba ct μ' h' H' σ σ'->D.ct σ H'
 |.exc c h'=>∀ μ' H',Ext μ h H μ' h' H'->Rel ct μ' h' H'->E (.ref (ct c)) none H'
 |.stuck=>False
noncomputable def lS(ct:Tx)(Ra:L2.St->Prop)(E:XK)(ex:aI->MH->RS):TS:=λD σ H=>∃ μ h σs,Rel ct μ h H/\ba ct μ h H σ σs/\Ra σ/\fA ct E (ex σs h) μ h H D
section
variable {ct:Tx} {Pm:Prog} {n:Nat} {X:Cx} {E:XK} {Ra:L2.St->Prop} {N:List Str} {sc:az}
section
variable {μ μ1:List ae} {h h1:MH} {H H1:Hp} {D:Ends} {α:Type}
theorem fA.start  (e:Ext μ h H μ1 h1 H1)(p:fA ct E r μ h H D):fA ct E r μ1 h1 H1 D:=by
 cases r with
 |next σ' h'=>exactλμ' H' σ e' r' q=>p μ' H' σ (e.trans e') r' q
 |ret m h'=>exactλμ' H' v e' r' q=>p μ' H' v (e.trans e') r' q
 |brk σ' h'=>exactλμ' H' σ e' r' q=>p μ' H' σ (e.trans e') r' q
 |cnt σ' h'=>exactλμ' H' σ e' r' q=>p μ' H' σ (e.trans e') r' q
 |exc c h'=>exactλμ' H' e' r'=>p μ' H' (e.trans e') r'
 |stuck=>exact p
theorem fA.st   (p:fA ct E (r.st k) μ h H D):Po ct E r μ h H λx μ1 h1 H1=>Ext μ h H μ1 h1 H1/\Rel ct μ1 h1 H1/\fA ct E (k x h1) μ1 h1 H1 D:=by
 cases r with
 |ok x h'=>exactλμ' H' e' r'=>⟨e',r',fA.start (r:=k x h') e' p⟩
 |exc c h'=>exact p
 |stuck=>exact p
theorem fA.opt   (p:fA ct E (zD o k) μ h H D):∃ x,o=some x/\fA ct E (k x) μ h H D:=by
 cases o with
 |none=>exact p.elim
 |some x=>exact⟨x,rfl,p⟩
end
section
variable {μ:List ae} {h:MH} {H:Hp} {σ:L2.St} {σs:aI} {D:Ends}
theorem lE.st    (rel:Rel ct μ h H)(aF:ba ct μ h H σ σs)(ra:Ra σ)(p:fA ct E ((ev σs h).st k) μ h H D)
  (f:∀ m v μ1 h1 H1,Ext μ h H μ1 h1 H1->Rel ct μ1 h1 H1->ba ct μ1 h1 H1 σ σs->RV ct μ1 (bg μ1 h1) H1 m v->fA ct E (k m h1) μ1 h1 H1 D->Q v H1):lE ct Ra E ev σ H Q :=
 ⟨μ,h,σs,rel,aF,ra,(fA.st p).imp λm μ1 h1 H1 ⟨e1,r1,p1⟩ v rv=>f m v μ1 h1 H1 e1 r1 (aF.ext e1) rv p1⟩
end
structure Cs (X:Cx) (Pm:Prog) (ct:Tx) (n:Nat) (E:XK) (N:List Str) (sc:az):Prop where
 cc:Cc X Pm ct n (λ_=>True) E N sc
 ex:X.ex=[]
 own:gG (aj X.prog X.w) X.A X.env X.xe
 tk:Ec X E
 fn:∀ x,X.fn x=true
 kd:X.env.scope.kind=.function
 pq:X.stack=X.env::X.outer
 fr:X.env.frame=some X.env.locals
section
variable {ea eb ec:aI->MH->R MV} {a b c:Expr} {pos p2:Pos}
noncomputable def l6:Expr->Bool
 |.ListComp ..=>true
 |.SetComp ..=>true
 |.DictComp ..=>true
 |_=>false
theorem Fe     (h:l6 e=false):bq e t l env=pure false:=by
 cases e <;> first|rfl|(simp[l6] at h)
theorem Rl    (h1:∀ x gs cs p,bq (.ListComp x gs cs p) (some t) l env=pure false)(h2:∀ x gs cs p,bq (.SetComp x gs cs p) (some t) l env=pure false)(h3:∀ x y gs cs p,bq (.DictComp x y gs cs p) (some t) l env=pure false):bq e (some t) l env=pure false:=by
 cases hl:l6 e with
 |false=>exact Fe hl
 |true =>
  cases e with
  |ListComp x gs cs p=>exact h1 _ _ _ _
  |SetComp x gs cs p=>exact h2 _ _ _ _
  |DictComp x y gs cs p=>exact h3 _ _ _ _ _
  |_=>exact wj (show false=true from hl)
theorem Au        (h:∀ x p,t≠.Name x p):bq (.ListComp x gs cs p) (some t) l env=pure false:=by
 cases t with
 |Name x p=>exact absurd rfl (h x p)
 |_=>rfl
theorem Lz(ha:PE X a (lE ct Ra E ea))(hl:l6 a=false):PS X (.Expr a pos) (lS ct Ra E λσ h=>(ea σ h).st λ_ h1=>.next σ h1):=PS.imp (YcG ha (Fe hl)) λD σ H q=>by
 obtain⟨μ,h,σs,rel,aF,ra,p⟩:=q;exact lE.st rel aF ra p λm v μ1 h1 H1 ex ar aW rv p1=>p1 μ1 H1 σ (Ext.refl _ _ _) ar aW
theorem AA(ha:PE X a (lE ct Ra E ea)):PS X (.Return (some a) pos) (lS ct Ra E λσ h=>(ea σ h).st λv h1=>.ret v h1):=PS.imp (KW ha) λD σ H q=>by
 obtain⟨μ,h,σs,rel,aF,ra,p⟩:=q;exact lE.st rel aF ra p λm v μ1 h1 H1 ex ar aW rv p1=>p1 μ1 H1 v (Ext.refl _ _ _) ar rv
theorem AD   (tc:PT X c (lT ct Ra E (fM ec)))(hx:fj X x (lS ct Ra E ex))(hy:fj X y (lS ct Ra E ey)) :
  PS X (.If c x y pos) (lS ct Ra E λσ h=>(ec σ h).st λv h1=>zD (ZE v) λk=>if k=true then ex σ h1 else ey σ h1):=PS.imp (Mp tc hx hy) λD σ H q=>by
 obtain⟨μ,h,σs,rel,aF,ra,p⟩:=q;have p':fA ct E ((fM ec σs h).st λk h1=>if k=true then ex σs h1 else ey σs h1) μ h H D:=by
  dsimp only[fM] at p ⊢;cases er:ec σs h with
  |stuck=>rw[er] at p;exact p
  |exc c h'=>rw[er] at p;exact p
  |ok x h' =>
   rw[er] at p;simp only[R.aH,R.st_ok] at p ⊢;cases eb:ZE x with
   |none=>rw[eb] at p;exact p.elim
   |some k=>rw[eb] at p;exact p
 refine⟨μ,h,σs,rel,aF,ra,(fA.st p').imp λk μ1 h1 H1 ⟨iB,ar,p1⟩=>?_⟩;cases k with
 |true=>exact⟨μ1,h1,σs,ar,aF.ext iB,ra,p1⟩
 |false=>exact⟨μ1,h1,σs,ar,aF.ext iB,ra,p1⟩
theorem Az  (c:Cs X Pm ct n E N sc)(ht:QE nL N sc tg b=true)(ha:PE X a (lE ct (λ_=>True) E ea))(hs:bq a (some b) pos.line X.env=pure false)(hw:gM [b] a X.env=pure none) :
  PS X (.Assign [b] a pos) (lS ct (λ_=>True) E λσ h=>(ea σ h).st λv h1=>zD (QI tg v σ) λσ1=>.next σ1 h1):=by
 refine PS.imp (Rg ha (sG (ct:=ct) c.cc.nm c.cc.sc c.cc.nd c.cc.calm (λx _=>c.fn x) tg b ht) hs hw (by rw[FZ ht [] X.env];rfl)) λD σ H q=>?_;obtain⟨μ,h,σs,rel,aF,ra,p⟩:=q;refine lE.st rel aF ra p λm v μ1 h1 H1 ex ar aW rv p1=>?_;obtain⟨σ1,e,p2⟩:=fA.opt p1;exact⟨μ1,h1,σs,m,σ1,ar,aW,rv,e,λσ' iS=>p2 μ1 H1 σ' (Ext.refl _ _ _) ar iS⟩
theorem zbu   (hp : Ya i=true) : ∀ v, dh (.Subscript o i pos) env v=(do
   let ov<-dP [v] (eval o env)
   let iv<-dP [v,ov] (eval i env)
   kX pos
   dP [v,ov,iv] (setItem ov iv v)
   release [v,ov,iv] []):=by
 intro v;cases i <;> first|rfl|(simp[Ya] at hp)
theorem Zcl  (ha:PE X a (lE ct Ra E ea))(ho:PE X o (lE ct Ra E eb))(hi:PE X i (lE ct Ra E ec))(hp:Ya i=true) :
  PS X (.Assign [.Subscript o i p2] a pos) (lS ct Ra E λσ h=>(ea σ h).st λv h1=>(eb σ h1).st λx h2=>(ec σ h2).st λy h3 =>
   match x with
   |.ref a=>zD (Ze h3 a) λxs=>zD (yd y) λk=>zD (jX xs.length k) λj=>.next σ (Zd h3 a (xs.set j v))
   |_=>.stuck):=by
 refine PS.imp (Rg ha (ycU ho hi ycb (zbu hp)) (show j5 [Expr.Subscript o i p2] a pos.line X.env=pure false from Rl (e:=a) (t:=.Subscript o i p2) (l:=pos.line) (env:=X.env) (λ_ _ _ _=>rfl) (λ_ _ _ _=>rfl) (λ_ _ _ _ _=>rfl)) (by cases a <;> rfl) rfl) λD σ H q=>?_;obtain⟨μ,h,σs,rel,aF,ra,p⟩:=q;refine lE.st rel aF ra p λm v μ1 h1 H1 iB ar aW rv p1=>?_;refine lE.st ar aW ra p1 λm2 v2 μ2 h2 H2 e8 br dr j7 p2=>?_;refine lE.st br dr ra p2 λm3 v3 μ3 h3 H3 iA fZ sZ GZ p3=>?_;cases m2 with
 |ref i0 =>
  obtain⟨xs,e1,p4⟩:=fA.opt p3;obtain⟨k,e2,p5⟩:=fA.opt p4;obtain⟨j,e3,p6⟩:=fA.opt p5;have:=yj e2;subst this;obtain⟨b',vs,i7,hb,rs⟩:=fZ.lst e1;have AH:=j7.ext iA;simp only[RV] at AH;obtain⟨b0,Cq,rfl⟩:=AH;rw[i7] at Cq;cases Cq;have e4:=yQ e1;have l4:=Ext.set (H:=H3) fZ i7 e4 (λz=>nomatch z) (.lst (xs.set j m)) (.lst (vs.set j v));refine⟨b',vs,k,j,rfl,Qp GZ,hb,by rw[rs.length,<- Lx];exact e3,?_⟩;refine p6 μ3 _ σ l4 (fZ.set i7 e4 (λz=>nomatch z) ⟨_,zf,?_⟩) (sZ.ext l4);exact ay.set (((rv.ext e8).ext iA).ext l4) j (rs.ext l4)
 |f _=>exact p3.elim
 |tup _=>exact p3.elim
 |exc _=>exact p3.elim
theorem NF       (r:RV ct μ L H m v):∀{fs:List (String×MV)} {gs:List (Str×V)},gs.map wu=fs.map (λp=>jk p.1)->ay ct μ L H (fs.map um) (gs.map um) ->
  (ZN (jk f) v gs).map wu=(oI f m fs).map (λp=>jk p.1)/\ay ct μ L H ((oI f m fs).map um) ((ZN (jk f) v gs).map um)
 |[],gs,h1,h2=>by
  cases gs with
  |nil=>exact⟨rfl,ay.cons r ay.nil⟩
  |cons p gs=>simp at h1
 |(k,y)::fs,gs,h1,h2=>by
  cases gs with
  |nil=>simp at h1
  |cons p gs =>
   obtain⟨k',u⟩:=p;simp only[Va,gm.injEq] at h1;obtain⟨rfl,h3⟩:=h1;simp only[Va,ay] at h2;obtain⟨w,t,e,q1,q2⟩:=h2;cases e;unfold ZN oI;by_cases hk:k=f
   ·subst hk;rw[if_pos rfl,if_pos rfl];exact⟨by simp[h3],by simp only[Va];exact ay.cons r q2⟩
   ·rw[if_neg hk,if_neg (λz=>hk (YE z))];obtain⟨i1,i2⟩:=NF (f:=f) r h3 q2;exact⟨by simp[i1],by simp only[Va];exact ay.cons q1 i2⟩
theorem Ych   (T:Txt X.prog X.w X.K X.mg X.base Pm ct n)(ha:PE X a (lE ct Ra E ea))(ho:PE X o (lE ct Ra E eb)) :
  PS X (.Assign [.Attribute o (jk f) p2] a pos) (lS ct Ra E λσ h=>(ea σ h).st λv h1=>(eb σ h1).st λx h2=>match x with
   |.ref a=>match h2[a]? with
    |some (.obj c fs)=>if Pm.jM c f=true/\fs.length<100 then .next σ (h2.set a (.obj c (oI f v fs))) else .stuck
    |_=>.stuck
   |_=>.stuck):=by
 refine PS.imp (Yc3 ho ha (Rl (λ_ _ _ _=>rfl) (λ_ _ _ _=>rfl) (λ_ _ _ _ _=>rfl))) λD σ H q=>?_;obtain⟨μ,h,σs,rel,aF,ra,p⟩:=q;refine lE.st rel aF ra p λm v μ1 h1 H1 iB ar aW rv p1=>?_;refine lE.st ar aW ra p1 λm2 v2 μ2 h2 H2 e8 br dr j7 p2=>?_;cases m2 with
 |ref i0 =>
  dsimp only at p2;split at p2
  next c fs ec =>
   split at p2
   next ok =>
    obtain⟨ok1,ok2⟩:=ok;obtain⟨b,dx,gs,eb,hb,q1,q2⟩:=br.obj ec;simp only[RV] at j7;obtain⟨b0,Cq,rfl⟩:=j7;rw[eb] at Cq;cases Cq;obtain⟨t1,t2⟩:=T.jM c f ok1;have hl:gs.length=fs.length:=by have:=congrArg XD q1;simpa using this
    have iA:=Ext.set (H:=H2) br eb ec (λz=>nomatch z) (.obj c (oI f m fs)) (.ins (ct c) dx (ZN (jk f) v gs));refine⟨b,ct c,dx,gs,rfl,hb,t1,t2,by lia,?_⟩;obtain⟨s1,s2⟩:=NF (f:=f) ((rv.ext e8).ext iA) q1 (q2.ext iA);exact p2 μ2 _ σ iA (br.set eb ec (λz=>nomatch z) ⟨dx,_,zf,s1,s2⟩) (dr.ext iA)
   next=>exact p2.elim
  next=>exact p2.elim
 |f _=>exact p2.elim
 |tup _=>exact p2.elim
 |exc _=>exact p2.elim
end
end
end SD
end
section
namespace SD
open PySem PySem.Spec PyProof.Rows L2 L3 M3 MP
section
variable {ct:Tx} {Pm:Prog} {n:Nat} {X:Cx} {E:XK} {N:List Str} {sc:az}
abbrev yes:L2.St->Prop:=λ_=>True
section
variable {ea eb ec:aI->MH->R MV} {a b c:Expr} {pos p2:Pos}
theorem Rm{st:Stmt}{rest:List Stmt}{ex ey:aI->MH->RS}(h1:PS X st (lS ct yes E ex))(h2:fj X rest (lS ct yes E ey)):fj X (st::rest) (lS ct yes E λσ h=>(ex σ h).bind λσ1 h1=>ey σ1 h1):=fj.imp (qF h1 h2) λD σ H q=>by
 obtain⟨μ,h,σs,rel,aF,ra,p⟩:=q;refine⟨μ,h,σs,rel,aF,ra,?_⟩;dsimp only at p;cases er:ex σs h with
 |next σ' h' =>
  rw[er] at p;intro μ' H' σv e1 r1 q1;exact⟨μ',h',σ',r1,q1,trivial,fA.start e1 p⟩
 |ret m h'=>rw[er] at p;exact p
 |brk σ' h'=>rw[er] at p;exact p
 |cnt σ' h'=>rw[er] at p;exact p
 |exc c h'=>rw[er] at p;exact p
 |stuck=>rw[er] at p;exact p
theorem AB:fj X [] (lS ct yes E λσ h=>.next σ h):=fj.imp K4 λD σ H q=>by
 obtain⟨μ,h,σs,rel,aF,ra,p⟩:=q;exact p μ H σ (Ext.refl _ _ _) rel aF
theorem zcU:PS X (.Pass pos) (lS ct yes E λσ h=>.next σ h):=PS.imp QcL λD σ H q=>by
 obtain⟨μ,h,σs,rel,aF,ra,p⟩:=q;exact p μ H σ (Ext.refl _ _ _) rel aF
theorem QcA      (c:Cs X Pm ct n E N sc)(hx:Pm.jN cn=true)(hg:gl sc (jk cn)=true)(ha:PA X (v::es) (lA ct yes E ev))(cC:∀ e∈v::es,Ya e=true)(hl:∀ σ h xs h',ev σ h=.ok xs h'->xs.length<=sizeLine) :
  PS X (.Raise (some (.Call (.Name (jk cn) np) (v::es) [] cp)) none pos) (lS ct yes E λσ h=>(ev σ h).st λ_ h1=>.exc cn h1):=by
 obtain⟨g1,g2,g3⟩:=yD c.cc.sc hg;obtain⟨x1,x2⟩:=c.cc.txt.jN cn hx;refine PS.imp (ych c.cc.calm c.ex c.tk x1 g1 x2 ha g2 (Yg (cC v (by simp))) (Yv λe he=>cC e (by simp[he]))) λD σ H q=>?_;obtain⟨μ,h,σs,rel,aF,ra,p⟩:=q;refine⟨μ,h,σs,rel,aF,ra,?_⟩;dsimp only at p;cases er:ev σs h with
 |stuck=>rw[er] at p;exact p
 |exc c h'=>rw[er] at p;exact p
 |ok xs h' =>
  rw[er] at p;intro μ1 H1 ex ar vs eV;exact⟨by rw[eV.length];exact hl _ _ _ _ er,p μ1 H1 ex ar⟩
theorem AF       (c:Cs X Pm ct n E N sc)(hi:PI X t iter (lI ct yes E ev it))(ht:QE nL N sc tg t=true)(hb:fj X body (lS ct yes E ex))(cC:Ya iter=true) :
  PS X (.For t iter body [] pos) (lS ct yes E λσ h=>(ev σ h).st λxs h1=>zD (i5 it xs h1) λp=>qy p.2 (Qh tg ex) p.1 σ h1):=by
 refine PS.imp (zc9 c.own c.cc.calm hi (sG (ct:=ct) c.cc.nm c.cc.sc c.cc.nd c.cc.calm (λx _=>c.fn x) tg t ht) hb (yR cC)) λD σ H q=>?_;obtain⟨μ,h,σs,rel,aF,ra,p⟩:=q;refine⟨μ,h,σs,rel,aF,ra,(fA.st p).imp λxs μ1 h1 H1 ⟨iB,ar,p1⟩=>?_⟩;obtain⟨⟨items,g⟩,e1,p2⟩:=fA.opt p1;refine⟨items,g,e1,ar,λJ wk=>?_⟩;dsimp only at p2;refine⟨λi m σ' H'=>∃ μ' h' σs',m=items.length-i/\i<=items.length/\Ext μ1 h1 H1 μ' h' H'/\Rel ct μ' h' H'/\ba ct μ' h' H' σ' σs'/\fA ct E (qy g (Qh tg ex) (items.drop i) σs' h') μ' h' H' D,?_,?_⟩
 ·exact⟨items.length,μ1,h1,σs,by simp,xl _,Ext.refl _ _ _,ar,aF.ext iB,by simpa using p2⟩
 ·rintro i m σ' H' ⟨μ',h',σs',rfl,nY,e8,bL,iS,p3⟩;by_cases lt:i<items.length
  ·right
   have ed:items.drop i=items[i]::items.drop (i+1):=wq lt;rw[ed] at p3;simp only[qy] at p3;split at p3
   next gd =>
    obtain⟨w1,_⟩:=wk i μ' h' H' e8 bL gd;obtain⟨go,yl⟩:=w1 lt;refine⟨go,λσ2 H2=>∃ μ2 h2 σ2s,Ext μ1 h1 H1 μ2 h2 H2/\Rel ct μ2 h2 H2/\ba ct μ2 h2 H2 σ2 σ2s/\fA ct E (qy g (Qh tg ex) (items.drop (i+1)) σ2s h2) μ2 h2 H2 D,λσ2 H2 ⟨μ2,h2,σ2s,e2,r2,q2,p4⟩=>⟨items.length-(i+1),by lia,μ2,h2,σ2s,rfl,lt,e2,r2,q2,p4⟩,λx H2 y=>?_⟩;obtain⟨mx,em,iA,br,rx⟩:=yl x H2 y;have JS:mx=items[i]:=by simpa[lt] using em.symm
    subst JS;have p4:=fA.start iA p3;unfold Qh at p4;cases eb:QI tg items[i] σs' with
    |none=>rw[eb] at p4;exact p4.elim
    |some σ2s =>
     rw[eb] at p4;simp only[RQ] at p4;refine⟨μ',h',σs',items[i],σ2s,br,iS.ext iA,rx,eb,λσ2 dr=>?_⟩;refine⟨μ',h',σ2s,br,dr,trivial,?_⟩;cases er:ex σ2s h' with
     |next σ3 h3 =>
      rw[er] at p4;intro μ3 H3 σv e3 r3 q3;exact⟨μ3,h3,σ3,(e8.trans iA).trans e3,r3,q3,fA.start e3 p4⟩
     |cnt σ3 h3 =>
      rw[er] at p4;intro μ3 H3 σv e3 r3 q3;exact⟨μ3,h3,σ3,(e8.trans iA).trans e3,r3,q3,fA.start e3 p4⟩
     |brk σ3 h3=>rw[er] at p4;exact p4
     |ret m h3=>rw[er] at p4;exact p4
     |exc c h3=>rw[er] at p4;exact p4
     |stuck=>rw[er] at p4;exact p4
   next=>exact p3.elim
  ·left
   have IP:i=items.length:=by lia
   subst IP;rw[Ux] at p3;simp only[qy] at p3;split at p3
   next gd =>
    obtain⟨_,w2⟩:=wk items.length μ' h' H' e8 bL gd;exact⟨w2 rfl,p3 μ' H' σ' (Ext.refl _ _ _) bL iS⟩
   next=>exact p3.elim
theorem ycG   (c':Cs X Pm ct n E N sc)(tc:PT X c (lT ct yes E (fM ec)))(hb:fj X body (lS ct yes E ex))(k) :
  PS X (.While c body [] pos) (lS ct yes E λσ h=>yI ec ex k σ h):=by
 refine PS.imp (Ycf c'.own tc hb) λD σ H q=>?_;obtain⟨μ,h,σs,rel,aF,ra,p⟩:=q;refine⟨λm σ' H'=>∃ μ' h' σs',Rel ct μ' h' H'/\ba ct μ' h' H' σ' σs'/\fA ct E (yI ec ex m σs' h') μ' h' H' D,⟨k,μ,h,σs,rel,aF,p⟩,?_⟩;rintro m σ' H' ⟨μ',h',σs',bL,iS,p1⟩;cases m with
 |zero=>exact p1.elim
 |succ m =>
  simp only[yI] at p1;have p2:fA ct E ((fM ec σs' h').st λb h1=>if b=true then(ex σs' h1).turn λσ2 h2=>yI ec ex m σ2 h2 else .next σs' h1) μ' h' H' D:=by
   dsimp only[fM];cases er:ec σs' h' with
   |stuck=>rw[er] at p1;exact p1
   |exc c h'=>rw[er] at p1;exact p1
   |ok x h' =>
    rw[er] at p1;simp only[R.aH,R.st_ok] at p1 ⊢;cases eb:ZE x with
    |none=>rw[eb] at p1;exact p1.elim
    |some k=>rw[eb] at p1;exact p1
  refine⟨μ',h',σs',bL,iS,trivial,(fA.st p2).imp λb μ1 h1 H1 ⟨iB,ar,p3⟩=>?_⟩;cases b with
  |false=>exact p3 μ1 H1 σ' (Ext.refl _ _ _) ar (iS.ext iB)
  |true =>
   simp only[if_true] at p3 ⊢;refine⟨λσ2 H2=>∃ μ2 h2 σ2s,Rel ct μ2 h2 H2/\ba ct μ2 h2 H2 σ2 σ2s/\fA ct E (yI ec ex m σ2s h2) μ2 h2 H2 D,λσ2 H2 q2=>⟨m,by lia,q2⟩,μ1,h1,σs',ar,iS.ext iB,trivial,?_⟩;cases er:ex σs' h1 with
   |next σ3 h3 =>
    rw[er] at p3;intro μ3 H3 σv e3 r3 q3;exact⟨μ3,h3,σ3,r3,q3,fA.start e3 p3⟩
   |cnt σ3 h3 =>
    rw[er] at p3;intro μ3 H3 σv e3 r3 q3;exact⟨μ3,h3,σ3,r3,q3,fA.start e3 p3⟩
   |brk σ3 h3=>rw[er] at p3;exact p3
   |ret m h3=>rw[er] at p3;exact p3
   |exc c h3=>rw[er] at p3;exact p3
   |stuck=>rw[er] at p3;exact p3
theorem AE{i:Nat}{rest:List Stmt}{ey:aI->MH->RS}(h2:fj X rest (lS ct yes E ey)):fj X rest (lS ct yes E λσ h=>(zD ((σ[i]?).join) λv=>(qN v h).st λx h1=>.next (σ.set i (some x)) h1).bind λσ1 h1=>ey σ1 h1):=fj.imp h2 λD σ H q=>by
 obtain⟨μ,h,σs,rel,aF,ra,p⟩:=q;dsimp only at p;cases e:(σs[i]?).join with
 |none=>rw[e] at p;exact p.elim
 |some m =>
  rw[e] at p;simp only[RQ] at p;have e':σs[i]?=some (some m):=by
   cases q:σs[i]? with
   |none=>rw[q] at e;cases e
   |some z=>rw[q] at e;exact congrArg some e
  obtain⟨v,ev,rv⟩:=aF.at_ i m e';cases ef:qN m h with
  |stuck=>rw[ef] at p;exact p.elim
  |exc c h' =>
   unfold qN at ef;cases ed:QP h m with
   |none=>rw[ed] at ef;cases ef
   |some x=>rw[ed] at ef;cases ef
  |ok x h' =>
   rw[ef] at p;simp only[R.st_ok,RS.ny] at p;have po:Po ct E (qN m h) μ h H λy μ1 h1 H1=>y=x/\h1=h':=by rw[ef];exactλμ' H' _ _=>⟨rfl,rfl⟩
   obtain⟨y,pR,iB,ar,rN,rfl,rfl⟩:=Nr rel rv po;refine⟨μ,pR,σs.set i (some (.f y)),ar,?_,trivial,fA.start iB p⟩;have r2:=(aF.ext iB).set i rN;have:σ.set i (some v)=σ:=by
    apply xk;intro j;by_cases hj:i=j
    ·subst hj;rw[uf (xa.mp ev).1,ev]
    ·rw[we hj]
   rw[this] at r2;exact r2
end
end
end SD
end
section
namespace SD
open PySem PySem.Spec PyProof.Rows L2 L3 M3 MP
noncomputable def GP(sc cs:az)(t:Str)(tp vp:Pos):Bool:=sc.names.lookup t==some .local&&tp.line==vp.line&&!(cs.names.any λ(n,k)=>n==t&&(k == .local||k == .cell))
theorem PM  (kd:env.scope.kind=.function)(e)(gs:List Comprehension)(cs)(vp)(t)(tp)(l):bq (.ListComp e gs cs vp) (some (.Name t tp)) l env=pure (GP env.scope cs t tp vp):=by
 have hb:(env.blockKind==ScopeKind.function)=true:=by
  unfold Env.blockKind;rw[kd];rfl
 show(pure (env.blockKind == .function&&env.kindOf t==some .local&&tp.line==vp.line&&!(cs.names.any λ(n,k)=>n==t&&(k == .local||k == .cell))):Sem Bool)=_;rw[hb,Vw];rfl
noncomputable def Gx:List Expr->Option (Str×Pos×Str×Pos)
 |[.Name x px,.Name y py]=>some (x,px,y,py)
 |_=>none
noncomputable def OT:Expr->Option (List Expr)
 |.Tuple es _ _=>some es
 |_=>none
noncomputable def Ek:Stmt->Option ((Str×Pos×Str×Pos)×Expr×Expr)
 |.Assign ts v _=>(sr ts).bind λt=>(OT t).bind λes=>(OT v).bind λvs=>(Gx es).bind λp=>(rD vs).map λq=>(p,q)
 |_=>none
theorem nn{α:Type}{x:α}{P:Prop}(h:(none:Option α)=some x):P:=nomatch h
noncomputable def qv:Expr->Option Str
 |.Name x _=>some x
 |_=>none
theorem QO{e:Expr}{x:Str}(h:qv e=some x):∃ p,e=.Name x p:=by
 cases e with
 |Name y p =>
  have h:some y=some x:=h;cases h;exact⟨p,rfl⟩
 |_=>exact nn h
noncomputable def Fv:Expr->Option (Str×Str)
 |.Call f [a] [] _=>(qv f).bind λz=>(qv a).map λn=>(z,n)
 |_=>none
theorem QbF{e:Expr}{z n:Str}(h:Fv e=some (z,n)):∃ p1 p2 p3,e=.Call (.Name z p1) [.Name n p2] [] p3:=by
 cases e with
 |Call f as ks p =>
  rcases as with _|⟨a,_|⟨a2,as⟩⟩
  ·exact nn h
  ·cases ks with
   |cons _ _=>exact nn h
   |nil =>
    have h:((qv f).bind λz=>(qv a).map λn=>(z,n))=some (z,n):=h;obtain⟨z',e1,h⟩:=wb.mp h;obtain⟨n',e2,h⟩:=Uc.mp h;cases h;obtain⟨p1,rfl⟩:=QO e1;obtain⟨p2,rfl⟩:=QO e2;exact⟨_,_,_,rfl⟩
  ·exact nn h
 |_=>exact nn h
noncomputable def C4:Stmt->Option (Str×Str×Str)
 |.Assign [t] v _=>(qv t).bind λy=>(Fv v).map λq=>(y,q.1,q.2)
 |_=>none
noncomputable def yda(bd:List Stmt):ExceptHandler->Option (List Stmt×Str×Str×Str×Str×Str)
 |.ExceptHandler (some t) (some nm) [s] _=>(qv t).bind λx=>(C4 s).map λq=>(bd,x,nm,q)
 |_=>none
noncomputable def DU:Stmt->Option (List Stmt×Str×Str×Str×Str×Str)
 |.Try bd [h] [] [] _=>yda bd h
 |_=>none
noncomputable def Lb:Expr->Option Str
 |.Constant (.str g) _ _=>some g
 |_=>none
theorem Ycs   (h:Lb e=some g):∃ k p,e=.Constant (.str g) k p:=by
 cases e with
 |Constant cc k p =>
  cases cc with
  |str g'=>cases h;exact⟨_,_,rfl⟩
  |_=>exact nn h
 |_=>exact nn h
noncomputable def FI:Stmt->Option (Str×Str×Str×Str)
 |.Assign [t] (.Tuple es _ _) _=>(qv t).bind λy=>(rD es).bind λq=>(Lb q.1).bind λg=>(Fv q.2).map λr=>(y,g,r)
 |_=>none
theorem QbQ   (h:FI s=some (y,g,z,n)):∃ p1 k p2 p3 p4 p5 k2 p6 p7,s=.Assign [.Name y p1] (.Tuple [.Constant (.str g) k p2,.Call (.Name z p3) [.Name n p4] [] p5] k2 p6) p7:=by
 cases s with
 |Assign ts v p =>
  rcases ts with _|⟨t,_|⟨t2,ts⟩⟩
  ·exact nn h
  ·cases v with
   |Tuple es k2 p6 =>
    have h:((qv t).bind λy=>(rD es).bind λq=>(Lb q.1).bind λg=>(Fv q.2).map λr=>(y,g,r))=some (y,g,z,n):=h;obtain⟨y',e1,h⟩:=wb.mp h;obtain⟨⟨u,w⟩,e2,h⟩:=wb.mp h;obtain⟨g',e3,h⟩:=wb.mp h;obtain⟨⟨z',n'⟩,e4,h⟩:=Uc.mp h;cases h;obtain⟨p1,rfl⟩:=QO e1;have e2:es=[u,w]:=LM e2;subst e2;obtain⟨k,p2,rfl⟩:∃ k p,u=.Constant (.str g) k p:=Ycs e3;obtain⟨p3,p4,p5,rfl⟩:∃ p1 p2 p3,w=.Call (.Name z p1) [.Name n p2] [] p3:=QbF e4;exact⟨_,_,_,_,_,_,_,_,_,rfl⟩
   |_=>exact nn h
  ·exact nn h
 |_=>exact nn h
noncomputable def HD(bd:List Stmt):ExceptHandler->Option (List Stmt×Str×Str×Str×Str×Str×Str)
 |.ExceptHandler (some t) (some nm) [s] _=>(qv t).bind λx=>(FI s).map λq=>(bd,x,nm,q)
 |_=>none
theorem qbY    (h:HD bd hd=some (E6,x,nm,y,g,z,nS)):bd=E6/\∃ p0 p1 k p2 p3 p4 p5 k2 p6 p7 p8,hd=.ExceptHandler (some (.Name x p0)) (some nm) [.Assign [.Name y p1] (.Tuple [.Constant (.str g) k p2,.Call (.Name z p3) [.Name nS p4] [] p5] k2 p6) p7] p8:=by
 obtain⟨ty,nmo,body,hp⟩:=hd;cases ty with
 |none=>exact nn h
 |some t =>
  cases nmo with
  |none=>exact nn h
  |some n0 =>
   rcases body with _|⟨s,_|⟨s2,ss⟩⟩
   ·exact nn h
   ·have h:((qv t).bind λx=>(FI s).map λq=>(bd,x,n0,q))=some (E6,x,nm,y,g,z,nS):=h;obtain⟨x',e1,h⟩:=wb.mp h;obtain⟨⟨y',g',z',n'⟩,e2,h⟩:=Uc.mp h;cases h;obtain⟨p1,rfl⟩:=QO e1;obtain⟨q1,k,p2,p3,p4,p5,k2,p6,p7,rfl⟩:=QbQ e2;exact⟨rfl,_,_,_,_,_,_,_,_,_,_,_,rfl⟩
   ·exact nn h
noncomputable def Ed:Stmt->Option (List Stmt×Str×Str×Str×Str×Str×Str)
 |.Try bd [h] [] [] _=>HD bd h
 |_=>none
theorem YbF{st:Stmt}{bd:List Stmt}{x nm y g z nS:Str}(h:Ed st=some (bd,x,nm,y,g,z,nS)):∃ p0 p1 k p2 p3 p4 p5 k2 p6 p7 p8 pos,st=.Try bd [.ExceptHandler (some (.Name x p0)) (some nm) [.Assign [.Name y p1] (.Tuple [.Constant (.str g) k p2,.Call (.Name z p3) [.Name nS p4] [] p5] k2 p6) p7] p8] [] [] pos:=by
 cases st with
 |Try E6 hs oe fin pos =>
  rcases hs with _|⟨hd,_|⟨h2,hs⟩⟩
  ·exact nn h
  ·cases oe with
   |cons _ _=>exact nn h
   |nil =>
    cases fin with
    |cons _ _=>exact nn h
    |nil =>
     obtain⟨rfl,p0,p1,k,p2,p3,p4,p5,k2,p6,p7,p8,rfl⟩:=qbY (show HD E6 hd=_ from h);exact⟨_,_,_,_,_,_,_,_,_,_,_,_,rfl⟩
  ·exact nn h
 |_=>exact nn h
noncomputable def Le:ME->Bool
 |.comp ..=>true
 |_=>false
noncomputable def Fn:Expr->Expr->Bool
 |.Tuple ..,.Tuple ..=>true
 |_,_=>false
noncomputable def K8(tg:Tg)(t:Expr)(N:List Str)(sc:az):Bool:=match tg with
 |.nm i=>match qv t with
  |some x=>N[i]? == some x&&sc.names.lookup x==some .local
  |none=>false
 |_=>false
section
variable (Pm:Prog)
mutual
noncomputable def FN(ms:MS)(N:List Str)(sc:az)(st:Stmt):Bool:=match ms,st with
 |.expr e,.Expr v _=>!(l6 v)&&Qf Pm e N sc v
 |.ite c a b,.If t x y _=>iY c&&Qf Pm c N sc t&&u7 a N sc x&&u7 b N sc y
 |.set tg e,.Assign [t] v _=>K8 tg t N sc&&!(l6 v)&&Qf Pm e N sc v
 |_,_=>false
noncomputable def u7(pH:List MS)(N:List Str)(sc:az)(gX:List Stmt):Bool:=match pH with
 |[]=>gX.isEmpty
 |m::ms=>match gX with
  |[st]=>ms.isEmpty&&FN m N sc st
  |_=>false
end
mutual
noncomputable def HA(ms:MS)(N:List Str)(sc:az)(st:Stmt):Bool:=match ms,st with
 |.set tg e,.Assign [t] v _=>QE nL N sc tg t&&Qf Pm e N sc v&&!(Fn t v)&&(if l6 v then Le e else true)
 |.eT o i e,.Assign [.Subscript x y _] v _=>Qf Pm e N sc v&&Qf Pm o N sc x&&Qf Pm i N sc y
 |.fY o n e,.Assign [.Attribute x m _] v _=>m==jk n&&Qf Pm e N sc v&&Qf Pm o N sc x
 |.expr e,.Expr v _=>!(l6 v)&&Qf Pm e N sc v
 |.ret e,.Return (some v) _=>Qf Pm e N sc v
 |.ite c a b,.If t x y _=>iY c&&Qf Pm c N sc t&&qI a N sc x&&qI b N sc y
 |.for_ tg it src body,.For t iter bd [] _=>Ya iter&&QE nL N sc tg t&&qI body N sc bd &&
   (if it == "seq" then wY Pm src N sc iter else if it == "keys" then false else if it == "items" then false else if it == "enum1" then false else vI t it iter&&gl sc (jk it)&&Ym Pm src N sc (yE iter))
 |.while_ c body,.While t bd [] _=>iY c&&Qf Pm c N sc t&&qI body N sc bd
 |.raise c es,.Raise (some (.Call (.Name x _) (v::vs) [] _)) none _=>x==jk c&&gl sc x&&Pm.jN c&&decide ((v::vs).length<1000)&&Ym Pm es N sc (v::vs)
 |.nO body ei dst wd tag,st=>match Ed st with
  |some (bd,x,nm,y,g,z,nS)=>x==("DotError":Str)&&gl sc x&&N[ei]? == some nm&&sc.names.lookup nm==some .local&&nS==nm&&oX sc nm&&N[dst]? == some y&&rg nL sc y&&z==jk wd&&gl sc z&&decide (ei≠dst)&&Pm.words wd&&g==tag&&u7 Pm body N sc bd
  |none=>false
 |.nv,_=>true
 |.pass,.Pass _=>true
 |_,_=>false
noncomputable def qI(pH:List MS)(N:List Str)(sc:az)(gX:List Stmt):Bool:=match pH with
 |[]=>gX.isEmpty
 |.og _::ms=>qI ms N sc gX
 |m::ms=>match gX with
  |st::gX=>HA m N sc st&&qI ms N sc gX
  |[]=>false
end
end
section
variable {ct:Tx} {Pm:Prog} {n:Nat}
section
variable {X:Cx} {E:XK} {N:List Str} {sc:az}
theorem Ql{st:Stmt}{ex pS:aI->MH->RS}{Ra:L2.St->Prop}(p:PS X st (lS ct Ra E ex))(h:∀ σ hh,pS σ hh=ex σ hh):PS X st (lS ct Ra E pS):=by
 have:pS=ex:=funext λσ=>funext λhh=>h σ hh;rw[this];exact p
theorem ZF{st:List Stmt}{ex pS:aI->MH->RS}{Ra:L2.St->Prop}(p:fj X st (lS ct Ra E ex))(h:∀ σ hh,pS σ hh=ex σ hh):fj X st (lS ct Ra E pS):=by
 have:pS=ex:=funext λσ=>funext λhh=>h σ hh;rw[this];exact p
theorem qc4(fz)               (c:Cs X Pm ct n E N sc)(pP:X.N[i]?=some x)(hx:Loc X.env.scope x)
  (aS:QA X.env.scope X.N cs N' bW js=true) (hi:PI X tg iter (lI ct yes E es it)) (hg:∀ C s3 H ex,PG (ia X cs N' C s3 H ex) tg (lG ct t)) (nX:∀ C s3 H ex,nB (ia X cs N' C s3 H ex) ifs (lT ct (λ_=>True) E0 tc)) (jG:∀ C s3 H ex,PE (ia X cs N' C s3 H ex) elt (lE ct (λ_=>True) E0 te)) (cC:Ya iter=true)
  (tP:bq (.ListComp elt [⟨tg,iter,ifs,0⟩] cs vp) (some (.Name x tp)) pos.line X.env=pure true) :
  PS X (.Assign [.Name x tp] (.ListComp elt [⟨tg,iter,ifs,0⟩] cs vp) pos) (lS ct yes E λσ h=>((es σ h).bind λxs h1=>opt (i5 it xs h1) λp=>(Qj p.2 (zk t tc te) p.1 [] (MP.stM bW js σ) h1).bind λacc h3=>Yq fz acc h3).st λv h1=>zD (QI (.nm i) v σ) λσ1=>.next σ1 h1):=by
 refine PS.imp (ZcE c.cc.nd pP hx N' bW js aS c.cc.calm hi hg nX jG tP (yR cC) (.inl (c.fn x))) λD σ H q=>?_;obtain⟨μ,h,σs,rel,aF,ra,p⟩:=q;refine Pj fz σ H _ (lE.st (ev:=λσ h=>(es σ h).bind λxs h1=>opt (i5 it xs h1) λp=>(Qj p.2 (zk t tc te) p.1 [] (MP.stM bW js σ) h1).bind λacc h3=>Yq fz acc h3) rel aF ra p λm v μ1 h1 H1 ex ar aW rv p1=>?_);obtain⟨σ1,e,p2⟩:=fA.opt p1;simp only[QI,Kc.injEq] at e;subst e;exact p2 μ1 H1 _ (Ext.refl _ _ _) ar (aW.set i rv)
theorem Rel.same    (s:iW H H')(rel:Rel ct μ h H):Rel ct μ h H'/\Ext μ h H μ h H':=by
 have ex:Ext μ h H μ h H':=⟨⟨[],by simp⟩,λb o e _=>s b o e,λb l=>.inl l⟩;refine⟨⟨rel.len,rel.nd,λb hb=>let ⟨o,e⟩:=rel.has b hb;⟨o,s b o e⟩,λi b c e1 e2=>?_⟩,ex⟩;have:=bM.to (ν:=[]) ex.let (b:=b) (λ_=>by
  obtain⟨o,e⟩:=rel.has b (We e1);rw[e];exact s b o e) (rel.cells i b c e1 e2)
 simpa using this
theorem Nb       (c:Cs X Pm ct n E N sc)(hw:Pm.words wd=true)(hi:N[ei]?=some nm)(hk:sc.names.lookup nm=some .local)(hv:oX sc nm=true)(hd:N[dst]?=some y)(hy:rg nL sc y=true)(hg:gl sc "DotError"=true)(hz:gl sc (jk wd)=true)(ne:ei≠dst)
  (hb:∀ pins σ0 E',fj (pU X pins σ0 E') bd (lS ct (λσ=>σ=σ0) E' ex)) :
  PS X (.Try bd [.ExceptHandler (some (.Name "DotError" p1)) (some nm) [.Assign [.Name y p2] (.Call (.Name (jk wd) p3) [.Name nm p4] [] p5) p6] p7] [] [] pos)
   (lS ct yes E λσ h=>RS.iN (λc h1=>zD (Pm.word wd c) λs=>if ei<σ.length then .next ((σ.set dst (some (.f (.str s)))).set ei none) h1 else .stuck) (ex σ h)):=by
 obtain⟨qB,mB,⟨ps,Dw⟩,wf⟩:=c.cc.txt.words wd hw;obtain⟨g1,g2,g3⟩:=yD c.cc.sc hg;obtain⟨z1,z2,z3⟩:=yD c.cc.sc hz;have Cb:X.N[ei]?=some nm:=by rw[c.cc.nm];exact hi
 have IY:X.N[dst]?=some y:=by rw[c.cc.nm];exact hd
 have Ca:X.env.scope.names.lookup nm=some .local:=by rw[c.cc.sc];exact hk
 have Ii:Loc X.env.scope y:=by
  unfold rg at hy;simp only[Vw,Ui,beq_iff_eq] at hy;rw[c.cc.sc];exact hy
 have pN:=hv;unfold oX at pN;simp only[Wa,Ui,beq_iff_eq,Wi] at pN;refine PS.imp (NM (i:=ei) (B:=ct "DotError") (tb:=λσ E=>lS ct (λσ'=>σ'=σ) E ex) (th:=λx C t T=>vO (DK (D5 ct Pm wd x C) [] E0 (Dm (ph ei) Df)) (rQ dst)) c.pq c.fr c.cc.nd Cb Ca qB g1 mB (λpins σ E=>hb pins σ E)
  (λx C t T=>C9 (tw (X:=nu X x (Qn C t (.ref T))) c.cc.nd IY Ii (MJ Dw (c.cc.room.mono (by lia)) z1 (Zb (Fh (X:=nu X x (Qn C t (.ref T))) Cb (.inl Ca) pN.1.2 pN.2) yk (by rfl)) z2 (by rfl) (by rfl)) (by rfl) (.inl (c.fn y)))) g2) λD σ H q=>?_
 obtain⟨μ,h,σs,rel,aF,ra,p⟩:=q;dsimp only at p;cases er:ex σs h with
 |exc cn h1 =>
  rw[er] at p;refine⟨λcv _ H'=>cv=.ref (ct cn)/\∃ μ',Ext μ h H μ' h1 H'/\Rel ct μ' h1 H',⟨μ,h,σs,rel,aF,rfl,by rw[er];exactλμ' H' e1 r1=>⟨rfl,μ',e1,r1⟩⟩,λC H' ⟨eC,μ',e1,r1⟩=>?_⟩;cases eC;simp only[MR] at p;obtain⟨s,es,p2⟩:=fA.opt p;obtain⟨w1,w2⟩:=wf cn s es;refine⟨w1,w2,λx t T hx=>?_⟩;split at p2
  next lP =>
   have tX:ei<σ.length:=by rw[aF.len];exact lP
   refine⟨.ref x,by rw[uf tX],rfl,cn,s,rfl,es,λH2 sm=>?_⟩;obtain⟨r2,e2⟩:=Rel.same sm r1;refine p2 μ' H2 _ (e1.trans e2) r2 ?_;have dr:=(aF.ext e1).ext e2;refine⟨by simp[aF.len],λj m ej=>?_⟩;by_cases hj:ei=j
   ·subst hj;rw[uf (by simpa using lP)] at ej;cases ej
   ·rw[we hj] at ej;rw[we hj];by_cases tZ:dst=j
    ·subst tZ;have hl:dst<σs.length:=by
      have:=(xa.mp ej).1;simpa using this
     rw[uf hl] at ej;cases ej;exact⟨.str s,by rw[uf (by simp[aF.len];exact hl)],Fo s⟩
    ·rw[we tZ] at ej;obtain⟨v,ev,rv⟩:=dr.at_ j m ej;exact⟨v,by rw[we tZ,we hj];exact ev,rv⟩
  next=>exact p2.elim
 |next σ' h'=>rw[er] at p;exact⟨λ_ _ _=>False,⟨μ,h,σs,rel,aF,rfl,by rw[er];exact p⟩,λC H' z=>z.elim⟩
 |ret m h'=>rw[er] at p;exact⟨λ_ _ _=>False,⟨μ,h,σs,rel,aF,rfl,by rw[er];exact p⟩,λC H' z=>z.elim⟩
 |brk σ' h'=>rw[er] at p;exact⟨λ_ _ _=>False,⟨μ,h,σs,rel,aF,rfl,by rw[er];exact p⟩,λC H' z=>z.elim⟩
 |cnt σ' h'=>rw[er] at p;exact⟨λ_ _ _=>False,⟨μ,h,σs,rel,aF,rfl,by rw[er];exact p⟩,λC H' z=>z.elim⟩
 |stuck=>rw[er] at p;exact p.elim
theorem Zdb{ei dst:Nat}{nm y tag:Str}{wd:String}{bd:List Stmt}{ex:aI->MH->RS}{p0 p1 p2 p3 p4 p5 p6 p7 p8 pos:Pos}{k k2}(c:Cs X Pm ct n E N sc)(hw:Pm.words wd=true)(hi:N[ei]?=some nm)(hk:sc.names.lookup nm=some .local)(hv:oX sc nm=true)(hd:N[dst]?=some y)(hy:rg nL sc y=true)(hg:gl sc "DotError"=true)(hz:gl sc (jk wd)=true)(ne:ei≠dst)
  (hb:∀ pins σ0 E',fj (pU X pins σ0 E') bd (lS ct (λσ=>σ=σ0) E' ex)) :
  PS X (.Try bd [.ExceptHandler (some (.Name "DotError" p0)) (some nm) [.Assign [.Name y p1] (.Tuple [.Constant (.str tag) k p2,.Call (.Name (jk wd) p3) [.Name nm p4] [] p5] k2 p6) p7] p8] [] [] pos)
   (lS ct yes E λσ h=>RS.iN (λc h1=>zD (Pm.word wd c) λs=>if ei<σ.length then .next ((σ.set dst (some (.f (.tup [.str tag,.str s])))).set ei none) h1 else .stuck) (ex σ h)):=by
 obtain⟨qB,mB,⟨ps,Dw⟩,wf⟩:=c.cc.txt.words wd hw;obtain⟨g1,g2,g3⟩:=yD c.cc.sc hg;obtain⟨z1,z2,z3⟩:=yD c.cc.sc hz;have Cb:X.N[ei]?=some nm:=by rw[c.cc.nm];exact hi
 have IY:X.N[dst]?=some y:=by rw[c.cc.nm];exact hd
 have Ca:X.env.scope.names.lookup nm=some .local:=by rw[c.cc.sc];exact hk
 have Ii:Loc X.env.scope y:=by
  unfold rg at hy;simp only[Vw,Ui,beq_iff_eq] at hy;rw[c.cc.sc];exact hy
 have pN:=hv;unfold oX at pN;simp only[Wa,Ui,beq_iff_eq,Wi] at pN;refine PS.imp (NM (i:=ei) (B:=ct "DotError") (tb:=λσ E=>lS ct (λσ'=>σ'=σ) E ex) (th:=λx C t T=>vO (Aj (Dm (tC (.str tag)) (Dm (DK (D5 ct Pm wd x C) [] E0 (Dm (ph ei) Df)) Df))) (rQ dst)) c.pq c.fr c.cc.nd Cb Ca qB g1 mB (λpins σ E=>hb pins σ E)
  (λx C t T=>C9 (tw (X:=nu X x (Qn C t (.ref T))) c.cc.nd IY Ii (Nq (Zb Yz (Zb (MJ Dw (c.cc.room.mono (by lia)) z1 (Zb (Fh (X:=nu X x (Qn C t (.ref T))) Cb (.inl Ca) pN.1.2 pN.2) yk (by rfl)) z2 (by rfl) (by rfl)) yk (by rfl)) (by rfl))) (by rfl) (.inl (c.fn y)))) g2) λD σ H q=>?_
 obtain⟨μ,h,σs,rel,aF,ra,p⟩:=q;dsimp only at p;cases er:ex σs h with
 |exc cn h1 =>
  rw[er] at p;refine⟨λcv _ H'=>cv=.ref (ct cn)/\∃ μ',Ext μ h H μ' h1 H'/\Rel ct μ' h1 H',⟨μ,h,σs,rel,aF,rfl,by rw[er];exactλμ' H' e1 r1=>⟨rfl,μ',e1,r1⟩⟩,λC H' ⟨eC,μ',e1,r1⟩=>?_⟩;cases eC;simp only[MR] at p;obtain⟨s,es,p2⟩:=fA.opt p;obtain⟨w1,w2⟩:=wf cn s es;refine⟨w1,w2,λx t T hx=>?_⟩;split at p2
  next lP =>
   have tX:ei<σ.length:=by rw[aF.len];exact lP
   refine⟨.ref x,by rw[uf tX],rfl,cn,s,rfl,es,λH2 sm=>⟨by show 2<=sizeLine;decide,λa ha=>?_⟩⟩;obtain⟨r2,e2⟩:=Rel.same sm r1;have e3:=Ext.new r2 ha (.tup [.str tag,.str s]);refine p2 μ' _ _ ((e1.trans e2).trans e3) (r2.new ha _) ?_;have dr:=((aF.ext e1).ext e2).ext e3;refine⟨by simp[aF.len],λj m ej=>?_⟩;by_cases hj:ei=j
   ·subst hj;rw[uf (by simpa using lP)] at ej;cases ej
   ·rw[we hj] at ej;rw[we hj];by_cases tZ:dst=j
    ·subst tZ;have hl:dst<σs.length:=by
      have:=(xa.mp ej).1;simpa using this
     rw[uf hl] at ej;cases ej;exact⟨.ref a,by rw[uf (by simp[aF.len];exact hl)],zI (xs:=[.f (.str tag),.f (.str s)]) (Y0 r2 ha) zf (by
      simp only[ay];exact⟨_,_,rfl,Fo tag,_,_,rfl,Fo s,rfl⟩)⟩
    ·rw[we tZ] at ej;obtain⟨v,ev,rv⟩:=dr.at_ j m ej;exact⟨v,by rw[we tZ,we hj];exact ev,rv⟩
  next=>exact p2.elim
 |next σ' h'=>rw[er] at p;exact⟨λ_ _ _=>False,⟨μ,h,σs,rel,aF,rfl,by rw[er];exact p⟩,λC H' z=>z.elim⟩
 |ret m h'=>rw[er] at p;exact⟨λ_ _ _=>False,⟨μ,h,σs,rel,aF,rfl,by rw[er];exact p⟩,λC H' z=>z.elim⟩
 |brk σ' h'=>rw[er] at p;exact⟨λ_ _ _=>False,⟨μ,h,σs,rel,aF,rfl,by rw[er];exact p⟩,λC H' z=>z.elim⟩
 |cnt σ' h'=>rw[er] at p;exact⟨λ_ _ _=>False,⟨μ,h,σs,rel,aF,rfl,by rw[er];exact p⟩,λC H' z=>z.elim⟩
 |stuck=>rw[er] at p;exact p.elim
theorem Cc.try(c:Cs X Pm ct n E N sc)(pins:List (ae×Obj))(σ0:L2.St)(E':XK):Cc (pU X pins σ0 E') Pm ct n (λσ=>σ=σ0) E' N sc :=
 ⟨c.cc.txt,c.cc.calm,c.cc.room,λσ hσ=>by subst hσ;exact yby c.ex,c.cc.nm,c.cc.sc,c.cc.nd,c.cc.hK⟩
theorem ZcU{Ra:L2.St->Prop}:fj X [] (lS ct Ra E λσ h=>.next σ h):=fj.imp K4 λD σ H q=>by
 obtain⟨μ,h,σs,rel,aF,ra,p⟩:=q;exact p μ H σ (Ext.refl _ _ _) rel aF
theorem zcX{Ra:L2.St->Prop}{st:Stmt}{ex:aI->MH->RS}(h1:PS X st (lS ct Ra E ex)):fj X [st] (lS ct Ra E λσ h=>(ex σ h).bind λσ1 h1=>.next σ1 h1):=fj.imp (C9 h1) λD σ H q=>by
 obtain⟨μ,h,σs,rel,aF,ra,p⟩:=q;refine⟨μ,h,σs,rel,aF,ra,?_⟩;dsimp only at p;cases er:ex σs h <;> rw[er] at p <;> exact p
theorem Zbp{t v:Expr}{env:Env}{lo:Str->Bool}{tg:Tg}(ht:QE lo N sc tg t=true)(hv:Fn t v=false):gM [t] v env=pure none:=by
 cases tg with
 |nm i =>
  cases t with
  |Name x p=>cases v <;> rfl
  |_=>simp[QE] at ht
 |tp ts =>
  cases t with
  |Tuple es k p=>cases v <;> first|rfl|(exact wj hv)
  |_=>simp[QE] at ht
theorem yc1{tg:Tg}{me:ME}{t v:Expr}{pos:Pos}(c:Cs X Pm ct n E N sc)(h1:QE nL N sc tg t=true)(h2:Qf Pm me N sc v=true)(h3:Fn t v=false)(h4:(if l6 v=true then Le me else true)=true) :
  PS X (.Assign [t] v pos) (lS ct yes E λσ h=>(qa Pm (run Pm n) me σ h).st λv h1=>zD (QI tg v σ) λσ1=>.next σ1 h1):=by
 by_cases hs:bq v (some t) pos.line X.env=pure false
 ·exact Az c h1 (sB me c.cc v h2).1 hs (Zbp h1 h3)
 ·cases hl:l6 v with
  |false=>exact absurd (Fe hl) hs
  |true =>
   rw[hl] at h4;cases me with
   |comp fz elt sN it src cond bW js =>
    have h2':=h2;have h:=Ye h2;cases v with
    |ListComp x gs cs p =>
     rcases gs with _|⟨⟨t',iter,ifs,a⟩,_|⟨g2,gs⟩⟩
     ·exact ff h
     ·have h:((a==0)&&Ya iter&&QA sc N cs (nD sN t'++js.filterMap λj=>N[j]?) bW js&&decide (nD sN t'++js.filterMap λj=>N[j]?).Nodup&&QE (tx cs) (nD sN t'++js.filterMap λj=>N[j]?) (zM cs sc) sN t'&&Qf Pm elt (nD sN t'++js.filterMap λj=>N[j]?) (zM cs sc) x&&pZ Pm cond (nD sN t'++js.filterMap λj=>N[j]?) (zM cs sc) ifs&&(if it == "seq" then wY Pm src N sc iter else if it == "signs" then false else if it == "enum1" then false else vI t' it iter&&gl sc (jk it)&&Ym Pm src N sc (yE iter)))=true:=h;simp only[Wa,beq_iff_eq,decide_eq_true_eq] at h;obtain⟨⟨⟨⟨⟨⟨⟨ha,k1⟩,k2⟩,k3⟩,k4⟩,k5⟩,k6⟩,k7⟩:=h;subst ha;have hi:PI X t' iter (lI ct yes E (Zh Pm (run Pm n) src) it):=by
       split at k7
       next hs=>subst hs;exact GX src c.cc t' iter k7
       next hs =>
        split at k7
        next Im=>exact ff k7
        next =>
        split at k7
        next kR =>
         exact ff k7
        next =>
         simp only[Wa] at k7;exact KN c.cc k7.1.1 k7.1.2 (mK src c.cc (yE iter) k7.2)
      cases t with
      |Name y tp =>
       cases tg with
       |nm i =>
        simp only[QE,rg,Wa,beq_iff_eq,Ui] at h1;rw[PM c.kd] at hs;have tP:GP X.env.scope cs y tp p=true:=by
         cases e:GP X.env.scope cs y tp p with
         |true=>rfl
         |false=>rw[e] at hs;exact absurd rfl hs
        have hx:Loc X.env.scope y:=by
         rw[c.cc.sc]
         rcases h1.2 with z|⟨_,z⟩
         ·exact .inl z
         ·exact .inr z
        refine Ql (qc4 fz (tp:=tp) c (by rw[c.cc.nm];exact h1.1) hx (by rw[c.cc.sc,c.cc.nm];exact k2) hi (λC s3 H ex=>sG rfl (c.cc.comp k3 C s3 H ex).sc k3 c.cc.calm (λ_ z=>z) sN t' k4) (λC s3 H ex=>Nf cond (c.cc.comp k3 C s3 H ex) ifs k6) (λC s3 H ex=>(sB elt (c.cc.comp k3 C s3 H ex) x k5).1) k1 (by rw[PM c.kd,tP])) λσ hh=>?_;simp only[qa]
       |tp ts=>simp[QE] at h1
      |_=>exact absurd (Au (by intro x p z;cases z)) hs
     ·exact ff h
    |_=>first|exact wj hl|exact ff h
   |_=>exact wj h4
end
theorem qc7{Ra:L2.St->Prop}{ev:aI->MH->R MV}{tg:Tg}{t v:Expr}{pos:Pos}(c:Cc X Pm ct n Ra E N sc)(ht:K8 tg t N sc=true)(hl:l6 v=false)(he:PE X v (lE ct Ra E ev)) :
  PS X (.Assign [t] v pos) (lS ct Ra E λσ h=>(ev σ h).st λv h1=>zD (QI tg v σ) λσ1=>.next σ1 h1):=by
 cases tg with
 |tp _=>exact ff ht
 |nm i =>
  cases ea:qv t with
  |none =>
   have ht:(match qv t with|some x=>N[i]? == some x&&sc.names.lookup x==some .local|none=>false)=true:=ht;rw[ea] at ht;exact ff ht
  |some x =>
   have ht:(match qv t with|some x=>N[i]? == some x&&sc.names.lookup x==some .local|none=>false)=true:=ht;rw[ea] at ht;have ht:(N[i]? == some x&&sc.names.lookup x==some .local)=true:=ht;have hq:N[i]?=some x/\sc.names.lookup x=some .local:=by simpa only[Wa,beq_iff_eq] using ht
   obtain⟨p1,rfl⟩:=QO ea;have hx:X.env.scope.names.lookup x=some .local:=by rw[c.sc];exact hq.2
   refine PS.imp (tw c.nd (by rw[c.nm];exact hq.1) (.inl hx) he (Fe hl) (.inr hx)) λD σ H q=>?_;obtain⟨μ,h,σs,rel,aF,ra,p⟩:=q;refine lE.st rel aF ra p λm w μ1 h1 H1 ex ar aW rv p1=>?_;obtain⟨σ1,e,p2⟩:=fA.opt p1;simp only[QI,Kc.injEq] at e;subst e;exact p2 μ1 H1 _ (Ext.refl _ _ _) ar (aW.set i rv)
mutual
theorem sTB:∀(ms:MS){X:Cx}{E:XK}{Ra:L2.St->Prop}{N:List Str} {sc:az} (c:Cc X Pm ct n Ra E N sc) (st:Stmt),FN Pm ms N sc st=true->PS X st (lS ct Ra E (yw Pm (run Pm n) ms))
 |.expr e,X,E,Ra,N,sc,c,st,h=>by
  cases st with
  |Expr v p =>
   have h:(!(l6 v)&&Qf Pm e N sc v)=true:=h;simp only[Wa,Wi] at h;exact Ql (Lz (sB e c v h.2).1 h.1) λσ hh=>by simp only[yw]
  |_=>exact ff h
 |.ite d a b,X,E,Ra,N,sc,c,st,h=>by
  cases st with
  |If t x y p =>
   have h:(iY d&&Qf Pm d N sc t&&u7 Pm a N sc x&&u7 Pm b N sc y)=true:=h;simp only[Wa] at h;obtain⟨⟨⟨h0,h1⟩,h2⟩,h3⟩:=h;exact Ql (AD ((sB d c t h1).2 h0) (sX a c x h2) (sX b c y h3)) λσ hh=>by simp only[yw]
  |_=>exact ff h
 |.set tg e,X,E,Ra,N,sc,c,st,h=>by
  cases st with
  |Assign ts v p =>
   rcases ts with _|⟨t,_|⟨t2,ts⟩⟩
   ·exact ff h
   ·have h:(K8 tg t N sc&&!(l6 v)&&Qf Pm e N sc v)=true:=h;simp only[Wa,Wi] at h;exact Ql (qc7 c h.1.1 h.1.2 (sB e c v h.2).1) λσ hh=>by simp only[yw]
   ·exact ff h
  |_=>exact ff h
 |.eT _ _ _,X,E,Ra,N,sc,c,st,h=>ff h
 |.fY _ _ _,X,E,Ra,N,sc,c,st,h=>ff h
 |.nv,X,E,Ra,N,sc,c,st,h=>ff h
 |.par _ _ _ _,X,E,Ra,N,sc,c,st,h=>ff h
 |.ret _,X,E,Ra,N,sc,c,st,h=>ff h
 |.for_ _ _ _ _,X,E,Ra,N,sc,c,st,h=>ff h
 |.while_ _ _,X,E,Ra,N,sc,c,st,h=>ff h
 |.raise _ _,X,E,Ra,N,sc,c,st,h=>ff h
 |.nO _ _ _ _ _,X,E,Ra,N,sc,c,st,h=>ff h
 |.pass,X,E,Ra,N,sc,c,st,h=>ff h
 |.og _,X,E,Ra,N,sc,c,st,h=>ff h
theorem sX:∀(pH:List MS){X:Cx}{E:XK}{Ra:L2.St->Prop}{N:List Str} {sc:az} (c:Cc X Pm ct n Ra E N sc) (gX:List Stmt),u7 Pm pH N sc gX=true->fj X gX (lS ct Ra E (Qb Pm (run Pm n) pH))
 |[],X,E,Ra,N,sc,c,gX,h=>by
  cases gX with
  |nil=>exact ZF ZcU λσ hh=>by simp only[Qb]
  |cons _ _=>exact ff h
 |m::ms,X,E,Ra,N,sc,c,gX,h=>by
  rcases gX with _|⟨st,_|⟨nE,gX⟩⟩
  ·exact ff h
  ·have h:(ms.isEmpty&&FN Pm m N sc st)=true:=h;simp only[Wa] at h;cases ms with
   |nil=>exact ZF (zcX (sTB m c st h.2)) λσ hh=>by simp only[Qb]
   |cons _ _=>exact ff h.1
  ·exact ff h
end
mutual
theorem sS:∀(ms:MS){X:Cx}{E:XK}{N:List Str}{sc:az} (c:Cs X Pm ct n E N sc) (st:Stmt),HA Pm ms N sc st=true->PS X st (lS ct yes E (yw Pm (run Pm n) ms))
 |.set tg e,X,E,N,sc,c,st,h=>by
  cases st with
  |Assign ts v p =>
   rcases ts with _|⟨t,_|⟨t2,ts⟩⟩
   ·exact ff h
   ·have h:(QE nL N sc tg t&&Qf Pm e N sc v&&!(Fn t v)&&(if l6 v then Le e else true))=true:=h;simp only[Wa,Wi] at h;obtain⟨⟨⟨h1,h2⟩,h3⟩,h4⟩:=h;exact Ql (yc1 c h1 h2 h3 h4) λσ hh=>by simp only[yw]
   ·exact ff h
  |_=>exact ff h
 |.eT o i e,X,E,N,sc,c,st,h=>by
  cases st with
  |Assign ts v p =>
   rcases ts with _|⟨t,_|⟨t2,ts⟩⟩
   ·exact ff h
   ·cases t with
    |Subscript x y p2 =>
     have h:(Qf Pm e N sc v&&Qf Pm o N sc x&&Qf Pm i N sc y)=true:=h;simp only[Wa] at h;obtain⟨⟨h1,h2⟩,h3⟩:=h;exact Ql (Zcl (sB e c.cc v h1).1 (sB o c.cc x h2).1 (sB i c.cc y h3).1 (qo h3)) λσ hh=>by simp only[yw] <;> rfl
    |_=>exact ff h
   ·cases t <;> exact ff h
  |_=>exact ff h
 |.nv,X,E,N,sc,c,st,h=>λpins s σ H D I q=>by
  obtain⟨μ,hh,σs,rel,aF,ra,p⟩:=q;simp only[yw] at p;exact p.elim
 |.par i j a b,X,E,N,sc,c,st,h=>ff h
 |.fY o f e,X,E,N,sc,c,st,h=>by
  cases st with
  |Assign ts v p =>
   rcases ts with _|⟨t,_|⟨t2,ts⟩⟩
   ·exact ff h
   ·cases t with
    |Attribute x m p2 =>
     have h:(m==jk f&&Qf Pm e N sc v&&Qf Pm o N sc x)=true:=h;simp only[Wa,beq_iff_eq] at h;obtain⟨⟨rfl,h2⟩,h3⟩:=h;exact Ql (Ych c.cc.txt (sB e c.cc v h2).1 (sB o c.cc x h3).1) λσ hh=>by simp only[yw] <;> rfl
    |_=>exact ff h
   ·cases t <;> exact ff h
  |_=>exact ff h
 |.expr e,X,E,N,sc,c,st,h=>by
  cases st with
  |Expr v p =>
   have h:(!(l6 v)&&Qf Pm e N sc v)=true:=h;simp only[Wa,Wi] at h;exact Ql (Lz (sB e c.cc v h.2).1 h.1) λσ hh=>by simp only[yw]
  |_=>exact ff h
 |.ret e,X,E,N,sc,c,st,h=>by
  cases st with
  |Return v p =>
   cases v with
   |some v=>exact Ql (AA (sB e c.cc v (show Qf Pm e N sc v=true from h)).1) λσ hh=>by simp only[yw]
   |none=>exact ff h
  |_=>exact ff h
 |.ite d a b,X,E,N,sc,c,st,h=>by
  cases st with
  |If t x y p =>
   have h:(iY d&&Qf Pm d N sc t&&qI Pm a N sc x&&qI Pm b N sc y)=true:=h;simp only[Wa] at h;obtain⟨⟨⟨h0,h1⟩,h2⟩,h3⟩:=h;exact Ql (AD ((sB d c.cc t h1).2 h0) (rM a c x h2) (rM b c y h3)) λσ hh=>by simp only[yw]
  |_=>exact ff h
 |.for_ tg it src body,X,E,N,sc,c,st,h=>by
  cases st with
  |For t iter bd oe p =>
   cases oe with
   |cons _ _=>exact ff h
   |nil =>
    have h:(Ya iter&&QE nL N sc tg t&&qI Pm body N sc bd&&(if it == "seq" then wY Pm src N sc iter else if it == "keys" then false else if it == "items" then false else if it == "enum1" then false else vI t it iter&&gl sc (jk it)&&Ym Pm src N sc (yE iter)))=true:=h;simp only[Wa] at h;obtain⟨⟨⟨h1,h2⟩,h3⟩,h4⟩:=h;have hi:PI X t iter (lI ct yes E (Zh Pm (run Pm n) src) it):=by
     split at h4
     next hs =>
      have tQ:it="seq":=by simpa using hs
      subst tQ;exact GX src c.cc t iter h4
     next hs =>
      split at h4
      next kR =>
       have tQ:it="keys":=by simpa using kR
       subst tQ;exact ff h4
      next =>
       split at h4
       next Im =>
        exact ff h4
       next =>
       split at h4
       next hs3 =>
        exact ff h4
       next =>
        simp only[Wa] at h4;exact KN c.cc h4.1.1 h4.1.2 (mK src c.cc (yE iter) h4.2)
    exact Ql (AF c hi h2 (rM body c bd h3) h1) λσ hh=>by simp only[yw]
  |_=>exact ff h
 |.while_ d body,X,E,N,sc,c,st,h=>by
  cases st with
  |While t bd oe p =>
   cases oe with
   |cons _ _=>exact ff h
   |nil =>
    have h:(iY d&&Qf Pm d N sc t&&qI Pm body N sc bd)=true:=h;simp only[Wa] at h;obtain⟨⟨h0,h1⟩,h2⟩:=h;exact Ql (ycG c ((sB d c.cc t h1).2 h0) (rM body c bd h2) Pm.turns) λσ hh=>by simp only[yw]
  |_=>exact ff h
 |.raise cn es,X,E,N,sc,c,st,h=>by
  cases st with
  |Raise x y p =>
   cases x with
   |none=>exact ff h
   |some x =>
    cases x with
    |Call g as ks cp =>
     cases g with
     |Name x np =>
      cases as with
      |nil=>exact ff h
      |cons v vs =>
       cases ks with
       |cons _ _=>exact ff h
       |nil =>
        cases y with
        |some _=>exact ff h
        |none =>
         have h:(x==jk cn&&gl sc x&&Pm.jN cn&&decide ((v::vs).length<1000)&&Ym Pm es N sc (v::vs))=true:=h;simp only[Wa,beq_iff_eq,decide_eq_true_eq] at h;obtain⟨⟨⟨⟨rfl,h1⟩,h2⟩,h3⟩,h4⟩:=h;have b:=mK es c.cc (v::vs) h4;exact Ql (QcA c h2 h1 b.pa b.plain (K9 b h3)) λσ hh=>by simp only[yw]
     |_=>exact ff h
    |_=>exact ff h
  |_=>exact ff h
 |.nO body ei dst wd tag,X,E,N,sc,c,st,h=>by
  have h':(match Ed st with
   |some (bd,x,nm,y,g,z,nS)=>x==("DotError":Str)&&gl sc x&&N[ei]? == some nm&&sc.names.lookup nm==some .local&&nS==nm&&oX sc nm&&N[dst]? == some y&&rg nL sc y&&z==jk wd&&gl sc z&&decide (ei≠dst)&&Pm.words wd&&g==tag&&u7 Pm body N sc bd
   |none=>false)=true:=h
  cases et:Ed st with
  |none=>rw[et] at h';exact wj h'
  |some t =>
   obtain⟨bd,x,nm,y,g,z,nS⟩:=t;rw[et] at h';obtain⟨p0,p1,k,p2,p3,p4,p5,kk,p6,p7,p8,pos,rfl⟩:=YbF et;simp only[Wa,beq_iff_eq,decide_eq_true_eq] at h';obtain⟨⟨⟨⟨⟨⟨⟨⟨⟨⟨⟨⟨⟨rfl,k1⟩,k2⟩,k3⟩,rfl⟩,k4⟩,k5⟩,k6⟩,rfl⟩,k7⟩,k8⟩,k9⟩,rfl⟩,Ia⟩:=h';exact Ql (Zdb c k9 k2 k3 k4 k5 k6 k1 k7 k8 (λpins σ0 E'=>sX body (Cc.try c pins σ0 E') bd Ia)) λσ hh=>by simp only[yw]
 |.pass,X,E,N,sc,c,st,h=>by
  cases st with
  |Pass p=>exact Ql zcU λσ hh=>by simp only[yw]
  |_=>exact ff h
 |.og i,X,E,N,sc,c,st,h=>by
  exact ff h
theorem rM:∀(pH:List MS){X:Cx}{E:XK}{N:List Str}{sc:az} (c:Cs X Pm ct n E N sc) (gX:List Stmt),qI Pm pH N sc gX=true->fj X gX (lS ct yes E (Qb Pm (run Pm n) pH))
 |[],X,E,N,sc,c,gX,h=>by
  cases gX with
  |nil=>exact ZF AB λσ hh=>by simp only[Qb]
  |cons _ _=>exact ff h
 |m::ms,X,E,N,sc,c,gX,h=>by
  cases m with
  |og i=>exact ZF (AE (i:=i) (rM ms c gX h)) λσ hh=>by simp only[Qb,yw]
  |nv =>
   cases gX with
   |nil=>exact ff h
   |cons st gX =>
    have h2:qI Pm ms N sc gX=true:=h;exact ZF (Rm (sS .nv c st rfl) (rM ms c gX h2)) λσ hh=>by simp only[Qb]
  |_ =>
   cases gX with
   |nil=>exact ff h
   |cons st gX =>
    first
    |(have h:(HA Pm _ N sc st&&qI Pm ms N sc gX)=true:=h;simp only[Wa] at h;exact ZF (Rm (sS _ c st h.1) (rM ms c gX h.2)) λσ hh=>by simp only[Qb])
    |exact ff h
end
end
end SD
end
section
namespace SD
open PySem PySem.Spec PyProof.Rows L2 L3 M3 MP
noncomputable def zh(Pm:Prog)(d:bo)(N ps:List Str)(st:Stmt):Bool :=
 (yb st).kind == .function&&!(yb st).isCoroutine&&!(yb st).isGenerator&&decide N.Nodup&&decide (N.take ps.length=ps)&&ps.all (λx=>(yb st).names.lookup x==some .local||(yb st).names.lookup x==some .cell) &&
  (yb st).names.all (λy=>y.2 != .free)&&d.np==ps.length&&d.ns==N.length&&qI Pm d.body N (yb st) (qj st)
section
variable {P:ak} {w:World} {K:Gc} {mg:Str->Option Value} {base:Heap} {Pm:Prog} {ct:Tx} {n:Nat} {d:bo} {N ps:List Str} {st:Stmt} {f:String}
theorem qP(h:zh Pm d N ps st=true):fE N ps (yb st)/\d.np=ps.length/\d.ns=N.length/\qI Pm d.body N (yb st) (qj st)=true:=by
 unfold zh at h;simp only[Wa,beq_iff_eq,Wi,decide_eq_true_eq,Vl,Ui,bne_iff_ne,ne_eq] at h;obtain⟨⟨⟨⟨⟨⟨⟨⟨⟨h1,h2⟩,h3⟩,h4⟩,h5⟩,h6⟩,h7⟩,h8⟩,h9⟩,h10⟩:=h;exact⟨⟨h1,h2,h3,h4,h5,h6,h7⟩,h8,h9,h10⟩
theorem My    (hd:Pm.defs f=some d)(e:MP.run Pm (n+1) f ms h=r)(hr:r≠.stuck):ms.length=d.np/\r=yc h (Qb Pm (MP.run Pm n) d.body (ms.map some++va (d.ns-d.np) none) h):=by
 simp only[MP.run,hd,qc] at e;split at e
 next c=>exact⟨c,e.symm⟩
 next=>exact absurd e.symm hr
theorem DO(hd:Pm.defs f=some d)(hn:d.np=ps.length):∀ vs H Q E,mJ ct (MP.run Pm (n+1) f) vs H Q E->vs.length=ps.length:=by
 intro vs H Q E ⟨μ,h,ms,rel,eV,p⟩;cases er:MP.run Pm (n+1) f ms h with
 |stuck=>rw[er] at p;exact p.elim
 |ok x h'=>rw[eV.length,(My hd er (λz=>nomatch z)).1,hn]
 |exc c h'=>rw[eV.length,(My hd er (λz=>nomatch z)).1,hn]
theorem Gu(T:Txt P w K mg base Pm ct n)(hK:K=ct.K)(hd:Pm.defs f=some d)(hb:zh Pm d N ps st=true)(qual)(fa)(cU)(A)(outer)(s)(H)(vs)(Q)(E)
  (hr:df (2*n+1) (A.deeper (dt qual (yb st) s.heap.objs.size fa cU))) (jD:mJ ct (MP.run Pm (n+1) f) vs H Q E) :
  ∃ t,fj (mM (kL P w) P w K mg base N qual (yb st) fa cU A outer s H E) (qj st) t/\t {nx:=λ_ H'=>Q .bh H',rt:=Q} (L2.start N vs) H:=by
 obtain⟨S,hn,hs,hc⟩:=qP hb;have cs:Cs (mM (kL P w) P w K mg base N qual (yb st) fa cU A outer s H E) Pm ct n E N (yb st) :=
  ⟨⟨T,rfl,hr,λσ _ pins H s e s' I h=>Yb3 rfl P6 pins σ H s e s' I h,rfl,rfl,S.nd,hK⟩,rfl,YcI,P6,λ_=>rfl,S.kind,rfl,rfl⟩
 refine⟨_,rM d.body cs (qj st) hc,?_⟩;obtain⟨μ,h,ms,rel,eV,p⟩:=jD;have hlen:=DO hd hn vs H Q E ⟨μ,h,ms,rel,eV,p⟩;have wL:ms.length=d.np:=by rw[<- eV.length,hlen,hn]
 refine⟨μ,h,ms.map some++va (d.ns-d.np) none,rel,?_,trivial,?_⟩
 ·refine⟨by unfold L2.start;simp[eV.length,wL,hs],λi m e=>?_⟩;by_cases hi:i<ms.length
  ·rw[ub (by simpa using hi),Xc] at e;cases em:ms[i]? with
   |none=>rw[em] at e;cases e
   |some m' =>
    rw[em] at e;simp only[uh,Kc.injEq] at e;subst e;obtain⟨v,ev,rv⟩:=eV.get em;refine⟨v,?_,rv⟩;unfold L2.start;rw[ub (by rw[wc,eV.length];exact hi),Xc,ev];rfl
  ·rw[Ve (by simpa using hi),xr] at e;split at e <;> cases e
 ·have er:MP.run Pm (n+1) f ms h=yc h (Qb Pm (MP.run Pm n) d.body (ms.map some++va (d.ns-d.np) none) h):=by
   simp only[MP.run,hd,qc,if_pos wL]
  rw[er] at p;cases ex:Qb Pm (MP.run Pm n) d.body (ms.map some++va (d.ns-d.np) none) h with
  |next σ' h' =>
   rw[ex] at p;intro μ' H' σ e1 r1 q1;obtain⟨ν,rfl⟩:=e1.pre;exact Rp rel e1 r1 wZ p
  |ret m h' =>
   rw[ex] at p;intro μ' H' v e1 r1 rv;obtain⟨ν,rfl⟩:=e1.pre;exact Rp rel e1 r1 rv p
  |exc c h' =>
   rw[ex] at p;intro μ' H' e1 r1;obtain⟨ν,rfl⟩:=e1.pre;exact QbW rel e1 r1 p
  |brk σ' h'=>rw[ex] at p;exact p.elim
  |cnt σ' h'=>rw[ex] at p;exact p.elim
  |stuck=>rw[ex] at p;exact p.elim
theorem QbY(T:Txt P w K mg base Pm ct n)(hK:K=ct.K)(S:Src K mg (jk f) st ps)(hd:Pm.defs f=some d)(hb:zh Pm d N ps st=true):AV P w K mg base (jk f) (2*(n+1)) ps (mJ ct (MP.run Pm (n+1) f)) :=
 Yc6 (k:=2*n+1) S (qP hb).1 (DO hd (qP hb).2.1) λfa cU A outer s H vs Q E hr jD=>Gu T hK hd hb _ fa cU A outer s H vs Q E hr jD
theorem F5    (T:Txt P w K mg base Pm ct n)(hK:K=ct.K)(F:oZ K x qual st fa fd)(hd:Pm.defs f=some d)(hb:zh Pm d N ps st=true):fF P w K mg base (kL P w) (2*(n+1)) fa fd ps (mJ ct (MP.run Pm (n+1) f)):=by
 obtain⟨oc,od,kV,doc,pm,an,cU,ctv,lj,rfl,lk,lR⟩:=F.ex;exact FF (k:=2*n+1) lk lR (qP hb).1 (DO hd (qP hb).2.1) λA outer s H vs Q E hr jD=>Gu T hK hd hb _ fa cU A outer s H vs Q E hr jD
theorem qbR    (T:Txt P w K mg base Pm ct n)(hK:K=ct.K)(F:oA K x qual st fa fd)(hd:Pm.defs f=some d)(hb:zh Pm d N ps st=true):fF P w K mg base (kL P w) (2*(n+1)) fa fd ps (mJ ct (MP.run Pm (n+1) f)):=by
 obtain⟨oc,od,dV,kV,doc,pm,an,cU,ctv,lj,rfl,lk,lR⟩:=F.ex;exact FF (k:=2*n+1) lk lR (qP hb).1 (DO hd (qP hb).2.1) λA outer s H vs Q E hr jD=>Gu T hK hd hb _ fa cU A outer s H vs Q E hr jD
end
theorem ln0{α:Type}{us:List α}(h:us.length=0):us=[]:=vn h
theorem v9{α:Type}{n:Nat}{us:List α}(h:us.length=n+1):∃ a vs,us=a::vs/\vs.length=n:=by
 cases us with
 |nil=>cases h
 |cons a vs=>exact⟨a,vs,rfl,Nat.succ.inj h⟩
theorem tJ{α:Type}{us:List α}(h:us.length=1):∃ a,us=[a]:=by obtain⟨a,vs,rfl,h2⟩:=v9 h;rw[ln0 h2];exact⟨a,rfl⟩
theorem ln2{α:Type}{us:List α}(h:us.length=2):∃ a b,us=[a,b]:=by obtain⟨a,vs,rfl,h2⟩:=v9 h;obtain⟨b,rfl⟩:=tJ h2;exact⟨a,b,rfl⟩
theorem pL{α:Type}{us:List α}(h:us.length=3):∃ a b c,us=[a,b,c]:=by obtain⟨a,vs,rfl,h2⟩:=v9 h;obtain⟨b,c,rfl⟩:=ln2 h2;exact⟨a,b,c,rfl⟩
theorem Od{α:Type}{us:List α}(h:us.length=4):∃ a b c d,us=[a,b,c,d]:=by obtain⟨a,vs,rfl,h2⟩:=v9 h;obtain⟨b,c,d,rfl⟩:=pL h2;exact⟨a,b,c,d,rfl⟩
theorem Oc{α:Type}{us:List α}(h:us.length=5):∃ a b c d e,us=[a,b,c,d,e]:=by obtain⟨a,vs,rfl,h2⟩:=v9 h;obtain⟨b,c,d,e,rfl⟩:=Od h2;exact⟨a,b,c,d,e,rfl⟩
theorem ln6{α:Type}{us:List α}(h:us.length=6):∃ a b c d e f,us=[a,b,c,d,e,f]:=by obtain⟨a,vs,rfl,h2⟩:=v9 h;obtain⟨b,c,d,e,f,rfl⟩:=Oc h2;exact⟨a,b,c,d,e,f,rfl⟩
def Dy(P:String->bo->Prop):List (String×bo)->Prop
 |[]=>True
 |p::r=>P p.1 p.2/\Dy P r
theorem L8   :∀{L:List (String×bo)},Dy P L->L.lookup f=some d->P f d
 |[],_,h=>by cases h
 |(g,e)::r,⟨a,b⟩,h=>by
  rw[Xb] at h;cases hb:f==g with
  |true =>
   rw[hb] at h;cases h;rw[show f=g by simpa using hb];exact a
  |false =>
   rw[hb] at h;exact L8 b h
def Pp(K:Gc)(mg:Str->Option Value)(Pm:Prog)(ct:Tx)(f:String)(ps:List Str):Prop :=
 ∀(P:ak)(w:World)(base:Heap)(n:Nat),K.In base->(ct.cd≠0->vL mg base ct.cd ct.tb)->AV P w K mg base (jk f) (2*(n+1)) ps (mJ ct (MP.run Pm (n+1) f))
structure Text (K:Gc) (mg:Str->Option Value) (Pm:Prog) (ct:Tx):Prop where
 hK:K=ct.K
 defs:∀ f d,Pm.defs f=some d->f.toList.contains '.'=false->∃ st N ps,Src K mg (jk f) st ps/\(zh Pm d N ps st=true\/Pp K mg Pm ct f ps)
 mO:∀ c f,Pm.meths c "__init__"=some f->∃ d st N ps fa fd x qual,Pm.defs f=some d/\Mk K (ct c) fa/\oZ K x qual st fa fd/\Binds K fd ps []/\mg (jk c)=some (.ref (ct c))/\zh Pm d N ps st=true
 iV:∀ x∈eP++dO++aY++["range","zip","enumerate","isinstance","sorted","reversed","set"],mg (jk x)=none
 jM:∀ c f,Pm.jM c f=true->lZ K (ct c)/\gA K (ct c) (jk f)
 cls:∀ c t b,Pm.subs c t=some b->oF K (ct c)
 nP:∀ c t b,Pm.subs c t=some b->aY.contains t=false->mg (jk t)=some (.ref (ct t))/\Xe K (.ref (ct c)) (.ref (ct t))=some b
 pk:∀ c t b,Pm.subs c t=some b->aY.contains t=true->Xe K (.ref (ct c)) (.type t)=some b
 DT:∀ t c b,Pm.subs c t=some b->aY.contains t=false->∀ T∈["NoneType","bool","int","str","list","tuple"],Xe K (.type T) (.ref (ct t))=some false
 jN:∀ c,Pm.jN c=true->YO K (ct c)/\mg (jk c)=some (.ref (ct c))
 words:∀ wd,Pm.words wd=true->YO K (ct "DotError")/\mg "DotError"=some (.ref (ct "DotError"))/\(∀(P:ak)(w:World)(base:Heap),∃ ps,fG P w K mg base (jk wd) 1 ps (D5 ct Pm wd)) /\
  ∀ c s,Pm.word wd c=some s->YO K (ct c)/\(ZB K (ct c)).contains (.ref (ct "DotError"))=true
 mV:∀ t,Pm.mV t=true->(if t="ValueError" then mg "ValueError"=none else mg (jk t)=some (.ref (ct t)))
 xs:∀ c t b,Pm.mI c t=some b->mF K (ct c)/\Xe K (.ref (ct c)) (if t="ValueError" then .type "ValueError" else .ref (ct t))=some b
 wU:∀ f ds,Pm.wU f ds=true->∃ d st N ps fa fd iq,Pm.defs f=some d/\oA K (jk f) (jk f) st fa fd/\Binds K fd ps iq/\Vals (ds.map V.int) iq/\mg (jk f)=some (.ref fa)/\zh Pm d N ps st=true
 meths:∀ c m f,Pm.meths c m=some f->m≠"__init__"->lZ K (ct c)/\∃ d st N ps fa fd x qual,Pm.defs f=some d/\Meth K (ct c) (jk m) fa/\oZ K x qual st fa fd/\Binds K fd ps []/\zh Pm d N ps st=true
 nT:∀ c,Pm.nT c=true->rp K (ct c)/\mg (jk c)=some (.ref (ct c))
 jI:∀ x v,Pm.jI x=some v->Nl mg x v
 sI:Pm.xt=true->YO K (ct "DotError")/\mg "DotError"=some (.ref (ct "DotError"))/\∀ c b,Pm.mI c c=some b->YO K (ct c)/\(ZB K (ct c)).contains (.ref (ct "DotError"))=true
theorem rK        (h:mJ ct (MP.run Pm 0 f) vs H Q E):False:=by
 obtain⟨μ,h,ms,rel,eV,p⟩:=h;exact p
theorem Dd{P:ak}{w:World}{K:Gc}{mg:Str->Option Value}{base:Heap}{Pm:Prog}{ct:Tx}(T:Text K mg Pm ct)(kb:K.In base)(lb:ct.cd≠0->vL mg base ct.cd ct.tb):∀ n,Txt P w K mg base Pm ct n
 |0=>⟨λf d hd cT=>by
   obtain⟨st,N,ps,⟨fa,fd,F,b,m⟩,hb⟩:=T.defs f d hd cT;exact⟨ps,fa,fd,⟨λvs H Q E h=>(rK h).elim,λA outer s H args us vs Q E _ _ _ _ h=>(rK h).elim⟩,b,F.kp,m⟩,
  λc f hi=>by
   obtain⟨d,st,N,ps,fa,fd,x,qual,hd,M,F,b,m,hb⟩:=T.mO c f hi;exact⟨ps,fa,fd,M,⟨λvs H Q E h=>(rK h).elim,λA outer s H args us vs Q E _ _ _ _ h=>(rK h).elim⟩,b,m⟩,
  T.iV,T.jM,T.cls,T.nP,T.pk,T.DT,T.jN,λwd hw=>let ⟨a,b,c,d⟩:=T.words wd hw;⟨a,b,c P w base,d⟩,T.mV,T.xs,λf ds hf=>let ⟨d,st,N,ps,fa,fd,iq,hd,F,b,vd,m,hb⟩:=T.wU f ds hf;⟨ps,fa,fd,iq,⟨λvs H Q E h=>(rK h).elim,λA outer s H args us vs Q E _ _ _ _ h=>(rK h).elim⟩,b,vd,F.kp,m⟩,T.sI,λc m f hm hi=>by
   obtain⟨cl,d,st,N,ps,fa,fd,x,qual,hd,M,F,b,hb⟩:=T.meths c m f hm hi;exact⟨cl,fa,fd,ps,M,⟨λvs H Q E h=>(rK h).elim,λA outer s H args us vs Q E _ _ _ _ h=>(rK h).elim⟩,b⟩,T.nT,T.jI⟩
 |n+1=>⟨λf d hd cT=>by
   obtain⟨st,N,ps,S,hb⟩:=T.defs f d hd cT;exact⟨ps,hb.elim (λhb=>QbY (Dd T kb lb n) T.hK S hd hb) λhp=>hp P w base n kb lb⟩,
  λc f hi=>by
   obtain⟨d,st,N,ps,fa,fd,x,qual,hd,M,F,b,m,hb⟩:=T.mO c f hi;exact⟨ps,fa,fd,M,F5 (Dd T kb lb n) T.hK F hd hb,b,m⟩,
  T.iV,T.jM,T.cls,T.nP,T.pk,T.DT,T.jN,λwd hw=>let ⟨a,b,c,d⟩:=T.words wd hw;⟨a,b,c P w base,d⟩,T.mV,T.xs,λf ds hf=>let ⟨d,st,N,ps,fa,fd,iq,hd,F,b,vd,m,hb⟩:=T.wU f ds hf;⟨ps,fa,fd,iq,qbR (Dd T kb lb n) T.hK F hd hb,b,vd,F.kp,m⟩,T.sI,λc m f hm hi=>by
   obtain⟨cl,d,st,N,ps,fa,fd,x,qual,hd,M,F,b,hb⟩:=T.meths c m f hm hi;exact⟨cl,fa,fd,ps,M,F5 (Dd T kb lb n) T.hK F hd hb,b⟩,T.nT,T.jI⟩
theorem ZcX{K:Gc}{ct:Tx}{Pm:Prog}{n:Nat}{H:Hp}{a:ae}{ns:List Int}(hK:K=ct.K)(hO:Dg H)(hS:fR K H a (ns.map V.int))(main:∃ h,MP.run Pm n "law" [.f (.eZ ns)] []=.ok (.f (.bl true)) h) :
  mJ ct (MP.run Pm n "law") [.ref a] H (λv _=>v=.bl true) λ_ _ _=>False:=by
 subst hK;refine⟨[],[],[.f (.eZ ns)],⟨rfl,Kn,λb hb=>by simp at hb,λi b c e=>by simp at e⟩,ay.cons ?_ ay.nil,?_⟩
 ·simp only[RV,RF];refine⟨a,rfl,?_⟩
  rcases hS with (e|⟨o,e⟩)|e
  ·rcases hO a with z|⟨o,xs,z⟩
   ·rw[z] at e;cases e
   ·rw[z] at e;cases e
  ·exact .inl ⟨λ⟨i,c,e,_⟩=>by simp at e,o,e⟩
  ·exact .inr e
 ·obtain⟨h,e⟩:=main;rw[e];intro μ' H' _ _ v rv;exact uY rv
end SD
end
section
namespace SD
open PySem PySem.Spec PyProof.Rows L2 L3 M3 MP
section
variable {K:Gc} {t C:ae} {cd:aN}
theorem Qx  (s0:ua K (.ref t) (.ref t)=some true)(ci:xj K C=some cd)(ty:xq K (.ref C)=some (.type "type"))(s:ua K (.ref t) (.ref C)=some b):Xe K (.ref t) (.ref C)=some b:=by
 unfold Xe XE;by_cases ne:(Ka t==Ka C)=true
 ·have e':Ka t=Ka C:=eq_of_beq ne;rw[if_pos ne];rw[e'] at s0 s;rw[s0] at s;exact s
 rw[if_neg ne];show(if((xj K C).isSome&&xq K (.ref C)==some (.type "type"))=true then ua K (.ref t) (.ref C) else none)=some b;rw[ci,ty,if_pos (by rfl),s]
theorem Rz   (m:Xz T=true)(s:ua K (.ref t) (.type T)=some b):Xe K (.ref t) (.type T)=some b:=by
 unfold Xe XE;rw[if_neg (λe=>by have e':Ka t=Kb T:=eq_of_beq e;cases e')];show(if Xz T=true then ua K (.ref t) (.type T) else none)=some b;rw[if_pos m,s]
theorem qcU  (m:ua K (.type T) (.ref C)=some false)(ci:xj K C=some cd)(ty:xq K (.ref C)=some (.type "type")):Xe K (.type T) (.ref C)=some false:=by
 unfold Xe XE;rw[if_neg (λe=>by have e':Kb T=Ka C:=eq_of_beq e;cases e')];show(if((xj K C).isSome&&xq K (.ref C)==some (.type "type"))=true then ua K (.type T) (.ref C) else none)=some false;rw[ci,ty,if_pos (by rfl),m]
theorem qcO(C):∀ T∈["NoneType","bool","int","str","list","tuple"],ua K (.type T) (.ref C)=some false:=by
 intro T hT;simp only[Wb,Ud,or_false] at hT
 rcases hT with rfl|rfl|rfl|rfl|rfl|rfl <;> rfl
theorem qcF  (hT:T∈aY):Xz T=true:=by
 simp only[aY,Wb,Ud,or_false] at hT
 rcases hT with rfl|rfl|rfl|rfl|rfl|rfl <;> decide +kernel
theorem ybF:Xz "ValueError"=true:=by decide +kernel
theorem zcW(ci:xj K C=some cd):ZB K C=cd.mro.tail:=by
 unfold xj at ci;unfold ZB;split at ci
 ·next h=>rw[h];cases ci;rfl
 ·cases ci
end
theorem fG.imp{P:ak}{w:World}{K:Gc}{mg:Str->Option Value}{base:Heap}{x:Str}{ps:List Str}{sp Av:ae->ae->Sp}{k:Nat}(d:fG P w K mg base x k ps sp)(h:∀ x C vs H Q E,Av x C vs H Q E->sp x C vs H Q E):fG P w K mg base x k ps Av:=by
 obtain⟨f,fd,F,b,kp,m⟩:=d;exact⟨f,fd,⟨λx C vs H Q E z=>F.len x C vs H Q E (h x C vs H Q E z),λx C t T A outer s H args us vs Q hr e g hx hb hv hs=>F.run x C t T A outer s H args us vs Q hr e g hx hb hv (h x C vs H Q _ hs)⟩,b,kp,m⟩
theorem iG{K:Gc}{h:Heap}{mg:Str->Option Value}{x:Str}{st:Stmt}{ps:List Str}{f:ae}{oc:Value}{od an:Option ae}{lj:Array (Option Value)}{kV doc pm cU ct:Value}(X:K.In h)(G:h.Ns aC mg)
  (hb:∀(kV doc pm:Value)(an:Option ae)(cU ct:Value)(us:List Value),us.length=ps.length->bindArgs (Xi x x (Yr st) (qj st) (yb st) .none kV doc pm an cU ct) ⟨us,[]⟩=pure (ps.zip us))
  (a:ut K aC x=some (some (.ref f))) (l:K.lookup f=some ⟨oc,od,.func (Xi x x (Yr st) (qj st) (yb st) .none kV doc pm an cU ct),lj⟩)
  (c:Uo K cU x=true) (k:vg K (.ref f)=true):Src K mg x st ps :=
 ⟨f,_,ZcH (st:=st) l c k,(Dz (st:=st) l c k).binds hb,Wg X G a⟩
noncomputable def DB(K:Gc):Sp:=λvs H Q E=>∃(a:ae)(ns:List Int),vs=[.ref a]/\ns.length<=63/\Dg H/\fR K H a (ns.map V.int)/\Q=(λv _=>v=.bl true)/\E=λ_ _ _=>False
theorem zc5{P:ak}{w:World}{K:Gc}{mg:Str->Option Value}{base:Heap}{Pm:Prog}{ct:Tx}{n:Nat}{d:bo}{N ps:List Str}{st:Stmt}{fa:ae}{fd:bu}(T:Text K mg Pm ct)(kb:K.In base)(lb:ct.cd≠0->vL mg base ct.cd ct.tb)(F:oZ K "law" "law" st fa fd)(hd:Pm.defs "law"=some d)(hb:zh Pm d N ps st=true)
  (main:∀ ns:List Int,ns.length<=63->∃ h,MP.run Pm (n+1) "law" [.f (.eZ ns)] []=.ok (.f (.bl true)) h):fF P w K mg base (kL P w) (2*(n+1)) fa fd ps (DB K) :=
 (F5 (Dd T kb lb n) T.hK F hd hb).imp λvs H Q E ⟨a,ns,e1,hl,hO,hS,e2,e3⟩=>by
  subst e1;subst e2;subst e3;exact ZcX T.hK hO hS (main ns hl)
theorem walk{l:jd}{q:ak}{loose:List Str}{XP:(Str->Option Value)->Heap->Prop}{YP:World->Heap->Prop}{d:DefRec}{K:mD->Gc}{k:Nat}(hn:l.most=some 63)(Ci:d.params.defaults=[])(hr:df k fy)
  (hY:∀(w:World)(h:Heap),YP w h->(K w.params).In h)
  (F:∀(w:World)(mg:Str->Option Value)(fa:ae)(h:Heap),(K w.params).In h->h.Ns aC mg->mg d.name=some (.ref fa) ->
   ∃ fd:bu,(∀(s:ag)(u:Value),gH s fd ⟨[u],[]⟩ [("_law_script",u)])/\∀ base:Heap,(K w.params).In base->base.Ns aC mg->fF l.prog w (K w.params) mg base (kL l.prog w) k fa fd ["_law_script"] (DB (K w.params))) :
  ke q loose XP YP l.row.toRowW d [] (λf vs=>gc f vs) :=
 L2.o9 (n:=63) (k:=k) (x:="_law_script") (CX:=λw=>kL l.prog w) (sp:=λw=>DB (K w.params)) hn (by decide) Ci hr hY F (λ_ _ a ns hl hO hS=>⟨a,ns,rfl,hl,hO,hS,rfl,rfl⟩) λ_ _ _ _ _ ⟨_,_,_,_,_,_,_,_,_,_,_,_,_,_,_,z⟩=>z
structure CK (K:Gc) (x:Str) (C:ae) (cd:aN):Prop where
 a:ut K aC x=some (some (.ref C))
 ci:xj K C=some cd
 ty:xq K (.ref C)=some (.type "type")
 pg:Ut K C Str.empty=true
 hd:xw K C=true
 po:UB K C=true
 sa:Wc K (.ref C) "__setattr__"=some (some (.builtin "object.__setattr__"))
 cl:Wc K (.ref C) "__class__"=some (some (.builtin "object.__class__"))
 mo:vw K C (.type "object")=some true
 s0:ua K (.ref C) (.ref C)=some true
 k0:ua K (.ref C) (.type "dict")=some false
 k1:ua K (.ref C) (.type "list")=some false
 k2:ua K (.ref C) (.type "tuple")=some false
 k3:ua K (.ref C) (.type "str")=some false
 k4:ua K (.ref C) (.type "int")=some false
 k5:ua K (.ref C) (.type "bool")=some false
structure FK (K:Gc) (x q:Str) (st:Stmt) (f:ae) (oc:Value) (od:Option ae) (kV dc pm:Value) (an:Option ae) (cv ct:Value) (sl:Array (Option Value)):Prop where
 im:WC K (.ref f)=true
 lm:K.lookup f=some ⟨oc,od,.func (Xi x q (Yr st) (qj st) (yb st) .none kV dc pm an cv ct),sl⟩
 km:Uo K cv q=true
 Ey:vg K (.ref f)=true
def FE(K:Gc)(x q:Str)(st:Stmt)(f:ae):Prop:=∃ oc od kV dc pm an cv ct sl,FK K x q st f oc od kV dc pm an cv ct sl
structure IK (K:Gc) (C f:ae):Prop where
 ai:Wc K (.ref C) "__init__"=some (some (.ref f))
 mi:Xv K C=true
 kc:vg K (.ref C)=true
def u0{β:Type}(P:String->String->β->Prop):List ((String×String)×β)->Prop
 |[]=>True
 |((c,t),b)::r=>P c t b/\u0 P r
theorem qz{β:Type}{P:String->String->β->Prop}{c t:String}{b:β}:∀{L:List ((String×String)×β)},u0 P L->L.lookup (c,t)=some b->P c t b
 |[],_,h=>by cases h
 |((x,y),e)::r,a,h=>by
  rw[Xb] at h;cases hb:(c,t)==(x,y) with
  |true =>
   rw[hb] at h;cases h;have z:(c,t)=(x,y):=eq_of_beq hb;cases z;exact a.1
  |false =>
   rw[hb] at h;exact qz a.2 h
section
variable {K:Gc} {h:Heap} {mg:Str->Option Value} {Pm:Prog} {ct:Tx} {c t m g:String} {cd cd':aN} {b:Bool} {f:ae} {st:Stmt} {N ps:List Str} {d:bo} {q:Str}
theorem CK.cls{x:Str}{C:ae}(k:CK K x C cd):lZ K C:=⟨k.pg,k.hd,k.po,k.sa⟩
theorem CK.kt   (k:CK K x C cd)  (ht:aY.contains t=true):Xe K (.ref C) (.type t)=some false:=by
 have ht:t∈aY:=by simpa using ht
 refine Rz (qcF ht) ?_;simp only[aY,Wb,Ud,or_false] at ht
 rcases ht with rfl|rfl|rfl|rfl|rfl|rfl
 ·exact k.k0
 ·exact k.k1
 ·exact k.k2
 ·exact k.k3
 ·exact k.k4
 ·exact k.k5
def rj(K:Gc)(mg:Str->Option Value)(ct:Tx)(c t:String)(b:Bool):Prop:=lZ K (ct c)/\(∃ x cd,CK K x (ct c) cd) /\
 (aY.contains t=false->(∃ x cd,CK K x (ct t) cd)/\mg (jk t)=some (.ref (ct t))/\Xe K (.ref (ct c)) (.ref (ct t))=some b)/\(aY.contains t=true->Xe K (.ref (ct c)) (.type t)=some b)
theorem qi(X:K.In h)(G:h.Ns aC mg)(kC:CK K (jk c) (ct c) cd)(kD:CK K (jk t) (ct t) cd')(s:ua K (.ref (ct c)) (.ref (ct t))=some b)(nt:aY.contains t=false):rj K mg ct c t b :=
 ⟨kC.cls,⟨_,_,kC⟩,λ_=>⟨⟨_,_,kD⟩,Wg X G kD.a,Qx kC.s0 kD.ci kD.ty s⟩,λe=>absurd (nt.symm.trans e) Xd⟩
theorem Yi(kC:CK K (jk c) (ct c) cd)(tt:aY.contains t=true):rj K mg ct c t false :=
 ⟨kC.cls,⟨_,_,kC⟩,λe=>absurd (e.symm.trans tt) Xd,λ_=>kC.kt tt⟩
def Dl(K:Gc)(mg:Str->Option Value)(Pm:Prog)(ct:Tx)(c m g:String):Prop:=lZ K (ct c)/\∃ d st N ps fa fd x qual,Pm.defs g=some d/\Meth K (ct c) (jk m) fa/\oZ K x qual st fa fd/\Binds K fd ps []/\zh Pm d N ps st=true /\
 (m="__init__"->Mk K (ct c) fa/\mg (jk c)=some (.ref (ct c)))
abbrev Ny(x q:Str)(st:Stmt)(ps:List Str):Prop:=∀(kV doc pm:Value)(an:Option ae)(cU ct:Value)(us:List Value),us.length=ps.length->bindArgs (Xi x q (Yr st) (qj st) (yb st) .none kV doc pm an cU ct) ⟨us,[]⟩=pure (ps.zip us)
theorem zL(kC:CK K (jk c) (ct c) cd)(fe:FE K (jk m) q st f)(a:Wc K (.ref (ct c)) (jk m)=some (some (.ref f)))(hb:Ny (jk m) q st ps)(db:zh Pm d N ps st=true)(hd:Pm.defs g=some d)(ni:decide (m="__init__")=false):Dl K mg Pm ct c m g:=by
 obtain⟨oc,od,kV,dc,pm,an,cv,ct',sl,k⟩:=fe;have F:=Dz (st:=st) k.lm k.km k.Ey;exact⟨kC.cls,d,st,N,ps,f,_,_,q,hd,⟨a,k.im,k.Ey⟩,F,F.binds hb,db,λe=>by rw[e] at ni;cases ni⟩
theorem O4(X:K.In h)(G:h.Ns aC mg)(kC:CK K (jk c) (ct c) cd)(fe:FE K "__init__" q st f)(i:IK K (ct c) f)(hb:Ny "__init__" q st ps)(db:zh Pm d N ps st=true)(hd:Pm.defs g=some d):Dl K mg Pm ct c "__init__" g:=by
 obtain⟨oc,od,kV,dc,pm,an,cv,ct',sl,k⟩:=fe;have F:=Dz (st:=st) k.lm k.km k.Ey;exact⟨kC.cls,d,st,N,ps,f,_,_,q,hd,⟨i.ai,k.im,k.Ey⟩,F,F.binds hb,db,λ_=>⟨⟨i.mi,i.ai,k.im,i.kc⟩,Wg X G kC.a⟩⟩
end
section
variable {K:Gc} {mg:Str->Option Value} {Pm:Prog} {ct:Tx} {c t m g:String} {b:Bool}
theorem qc8{L:List ((String×String)×String)}(T:u0 (Dl K mg Pm ct) L)(h:L.lookup (c,"__init__")=some g):∃ d st N ps fa fd x qual,Pm.defs g=some d/\Mk K (ct c) fa/\oZ K x qual st fa fd/\Binds K fd ps []/\mg (jk c)=some (.ref (ct c))/\zh Pm d N ps st=true:=by
 obtain⟨_,d,st,N,ps,fa,fd,x,q,a,_,F,b,e,z⟩:=qz T h;exact⟨d,st,N,ps,fa,fd,x,q,a,(z rfl).1,F,b,(z rfl).2,e⟩
theorem Zc4{L:List ((String×String)×String)}(T:u0 (Dl K mg Pm ct) L)(h:L.lookup (c,m)=some g):lZ K (ct c)/\∃ d st N ps fa fd x qual,Pm.defs g=some d/\Meth K (ct c) (jk m) fa/\oZ K x qual st fa fd/\Binds K fd ps []/\zh Pm d N ps st=true:=by
 obtain⟨k,d,st,N,ps,fa,fd,x,q,a,M,F,b,e,z⟩:=qz T h;exact⟨k,d,st,N,ps,fa,fd,x,q,a,M,F,b,e⟩
variable {L:List ((String×String)×Bool)} (T:u0 (rj K mg ct) L) (h:L.lookup (c,t)=some b)
include T h
theorem J3(gn:Vm K (.builtin "object.__class__") "__get__"=some (some (.builtin "getset_descriptor.__get__")))(tk:Vo K (.builtin "object.__class__")=some true):oF K (ct c):=by
 obtain⟨_,⟨x,cd,k⟩,_⟩:=qz T h;exact⟨k.cls,k.cl,gn,tk,k.mo⟩
theorem tyT(ht:aY.contains t=false){TT:String}(z:TT∈["NoneType","bool","int","str","list","tuple"]):Xe K (.type TT) (.ref (ct t))=some false:=by
 obtain⟨x,cd,k⟩:=((qz T h).2.2.1 ht).1;exact qcU (qcO _ TT z) k.ci k.ty
end
structure XA (K:Gc) (x:Str) (C:ae) (cd:aN):Prop where
 a:ut K aC x=some (some (.ref C))
 ci:xj K C=some cd
 ty:xq K (.ref C)=some (.type "type")
structure XC (K:Gc) (C B c0 c1 c2 c3 c4 c5 c6 c7 c8 c9:ae) (cd:aN) (b0 b1 b2 b3 b4 b5 b6 b7 b8 b9:Bool):Prop where
 q:xB K C wV "ValueError.__new__"=true
 un:cd.mro.tail.contains (.ref B)=true
 ga:Wc K (.ref C) "__getattribute__"=some (some (.builtin "BaseException.__getattribute__"))
 gt:Wc K (.ref C) "__getattr__"=some none
 cl:Wc K (.ref C) "__class__"=some (some (.builtin "object.__class__"))
 mo:vw K C (.type "object")=some true
 sv:ua K (.ref C) (.type "ValueError")=some true
 ss:ua K (.ref C) (.ref C)=some true
 s0:ua K (.ref C) (.ref c0)=some b0
 s1:ua K (.ref C) (.ref c1)=some b1
 s2:ua K (.ref C) (.ref c2)=some b2
 s3:ua K (.ref C) (.ref c3)=some b3
 s4:ua K (.ref C) (.ref c4)=some b4
 s5:ua K (.ref C) (.ref c5)=some b5
 s6:ua K (.ref C) (.ref c6)=some b6
 s7:ua K (.ref C) (.ref c7)=some b7
 s8:ua K (.ref C) (.ref c8)=some b8
 s9:ua K (.ref C) (.ref c9)=some b9
section
variable {K:Gc} {C B c0 c1 c2 c3 c4 c5 c6 c7 c8 c9:ae} {cd d0 d1 d2 d3 d4 d5 d6 d7 d8 d9:aN} {b0 b1 b2 b3 b4 b5 b6 b7 b8 b9:Bool}
theorem XC.word (z:XC K C B c0 c1 c2 c3 c4 c5 c6 c7 c8 c9 cd b0 b1 b2 b3 b4 b5 b6 b7 b8 b9) (gn:Vm K (.builtin "object.__class__") "__get__"=some (some (.builtin "getset_descriptor.__get__"))) (tk:Vo K (.builtin "object.__class__")=some true)
     (zc:XA K x C cd) (x0:XA K y0 c0 d0) (x1:XA K y1 c1 d1) (x2:XA K y2 c2 d2) (x3:XA K y3 c3 d3) (x4:XA K y4 c4 d4) (x5:XA K y5 c5 d5) (x6:XA K y6 c6 d6) (x7:XA K y7 c7 d7) (x8:XA K y8 c8 d8) (x9:XA K y9 c9 d9)
    (i) (hi:i < 10) (hb:[b0,b1,b2,b3,b4,b5,b6,b7,b8,b9]=(Vb 10).map fun j=>decide (j=i)):sy K [c0,c1,c2,c3,c4,c5,c6,c7,c8,c9] C i:=by
  have key:∀ (j:Nat) D b,[c0,c1,c2,c3,c4,c5,c6,c7,c8,c9][j]?=some D→[b0,b1,b2,b3,b4,b5,b6,b7,b8,b9][j]?=some b→Xe K (.ref C) (.ref D)=some b:=by
    intro j D b h1 h2
    rcases j with _ | _ | _ | _ | _ | _ | _ | _ | _ | _ | j <;> cases h1 <;> cases h2
    · exact Qx z.ss x0.ci x0.ty z.s0
    · exact Qx z.ss x1.ci x1.ty z.s1
    · exact Qx z.ss x2.ci x2.ty z.s2
    · exact Qx z.ss x3.ci x3.ty z.s3
    · exact Qx z.ss x4.ci x4.ty z.s4
    · exact Qx z.ss x5.ci x5.ty z.s5
    · exact Qx z.ss x6.ci x6.ty z.s6
    · exact Qx z.ss x7.ci x7.ty z.s7
    · exact Qx z.ss x8.ci x8.ty z.s8
    · exact Qx z.ss x9.ci x9.ty z.s9
  refine ⟨⟨z.q,z.ga,z.gt,z.cl,gn,tk,z.mo,by rw [zc.ci]; rfl⟩,fun j D h=>key j D _ h ?_,Rz ybF z.sv,hi⟩
  have hj:j < 10:=(xa.mp h).1
  rw [hb,Xc,xo hj]; rfl
theorem XC.un_of(z:XC K C B c0 c1 c2 c3 c4 c5 c6 c7 c8 c9 cd b0 b1 b2 b3 b4 b5 b6 b7 b8 b9)  (zc:XA K x C cd):YO K C/\(ZB K C).contains (.ref B)=true:=⟨z.q,by rw[zcW zc.ci];exact z.un⟩
end
end SD
end
section
namespace MP
open PySem
noncomputable def F9:bo:=⟨1,1,[.while_ (.cB true) [.pass]]⟩
noncomputable def QS:bo:=⟨1,1,[.ret (.blt true "tuple" [.comp true (.blt true "tuple" [.var 0]) (.nm 0) "seq" [.var 0] none 1 []])]⟩
noncomputable def qT:bo:=⟨3,4,[.ite (.cmp .lt (.var 2) (.cI 1)) [.ret (.cS "the greatest number is below 1")] [],.ite (.or [.cmp .eq (.blt true "len" [.var 0]) (.cI 0),.cmp .eq (.blt true "len" [.sub (.var 0) (.cI 0)]) (.cI 0)]) [.ret (.cS "there are no cells")] [],.for_ (.nm 3) "seq" [.var 0] [.ite (.cmp .ne (.blt true "len" [.var 3]) (.blt true "len" [.sub (.var 0) (.cI 0)])) [.ret (.cS "the rows' lengths differ")] [],.ite (.or [.cmp .lt (.blt true "min" [.var 3]) (.var 1),.cmp .gt (.blt true "max" [.var 3]) (.var 2)]) [.ret (.cS "a number is below the least or above the greatest")] []],.ret (.cN)]⟩
noncomputable def bR:bo:=⟨2,4,[.set (.nm 2) (.lst false []),.for_ (.nm 3) "range" [.var 0] [.expr (.lm "extend" (.var 2) [.comp true (.tup [.var 1,.var 0]) (.nm 0) "range" [.var 1] none 1 [3]])],.ret (.var 2)]⟩
noncomputable def Yp:bo:=⟨3,5,[.set (.nm 3) (.call "own_rows" [.var 2]),.set (.nm 4) (.call "fault_of" [.var 3,.cI 0,.var 1]),.ite (.pG (.var 4)) [.raise "NoPicture" [.var 4]] [],.fY (.var 0) "most" (.var 1),.fY (.var 0) "rows" (.var 3)]⟩
noncomputable def DQ:bo:=⟨1,1,[.ret (.blt true "len" [.fld (.var 0) "rows"])]⟩
noncomputable def DJ:bo:=⟨1,1,[.ret (.blt true "len" [.sub (.fld (.var 0) "rows") (.cI 0)])]⟩
noncomputable def e9:bo:=⟨1,1,[.ret (.tup [.call "high" [.var 0],.call "wide" [.var 0]])]⟩
noncomputable def zR:bo:=⟨2,2,[.ret (.and [.chain .le .lt (.cI 0) (.sub (.var 1) (.cI 0)) (.call "high" [.var 0]),.chain .le .lt (.cI 0) (.sub (.var 1) (.cI 1)) (.call "wide" [.var 0])])]⟩
noncomputable def QH:bo:=⟨2,2,[.ite (.not (.call "has_cell" [.var 0,.var 1])) [.raise "OutOfPicture" [.cS "the picture has no such cell"]] []]⟩
noncomputable def eD:bo:=⟨2,2,[.expr (.call "ask_cell" [.var 0,.var 1]),.ret (.sub (.sub (.fld (.var 0) "rows") (.sub (.var 1) (.cI 0))) (.sub (.var 1) (.cI 1)))]⟩
noncomputable def eF:bo:=⟨2,2,[.ite (.or [.cmp .lt (.var 0) (.cI 1),.cmp .lt (.var 1) (.cI 1)]) [.raise "OutOfPicture" [.cS "there would be no cell"]] []]⟩
noncomputable def qA:bo:=⟨2,5,[.set (.nm 2) (.comp false (.blt false "list" [.var 0]) (.nm 0) "seq" [.fld (.var 0) "rows"] none 1 []),.for_ (.tp [.nm 3,.nm 4]) "seq" [.var 1] [.eT (.sub (.var 2) (.sub (.var 3) (.cI 0))) (.sub (.var 3) (.cI 1)) (.var 4)],.ret (.make true "Picture" [.fld (.var 0) "most",.eO (.var 2)])]⟩
noncomputable def eE:bo:=⟨3,3,[.ret (.call "with_shades" [.make true "Picture" [.var 0,.bin true .mul (.lst true [.bin true .mul (.lst true [.cI 0]) (.sub (.var 1) (.cI 1))]) (.sub (.var 1) (.cI 0))],.var 2])]⟩
noncomputable def bA:bo:=⟨2,6,[.set (.nm 2) (.call "size_of" [.var 0]),.set (.nm 3) (.lst false []),.for_ (.nm 4) "seq" [.eO (.lC (.var 1) "order" [.sub (.var 2) (.cI 0),.sub (.var 2) (.cI 1)])] [.set (.nm 5) (.call "shade_at" [.var 0,.var 4]),.ite (.and [.cmp .gt (.blt true "len" [.var 3]) (.cI 0),.cmp .eq (.sub (.sub (.var 3) (.neg (.cI 1))) (.cI 0)) (.var 5)]) [.eT (.var 3) (.neg (.cI 1)) (.tup [.var 5,.bin true .add (.sub (.sub (.var 3) (.neg (.cI 1))) (.cI 1)) (.cI 1)])] [.expr (.lm "append" (.var 3) [.tup [.var 5,.cI 1]])]],.ret (.var 3)]⟩
noncomputable def bB:bo:=⟨5,9,[.expr (.call "ask_size" [.var 1,.var 2]),.ite (.cmp .lt (.var 0) (.cI 1)) [.raise "NoPicture" [.cS "the most is below 1"]] [],.set (.nm 5) (.eO (.lC (.var 3) "order" [.var 1,.var 2])),.expr (.call "ask_stretches" [.var 4,.var 0,.blt true "len" [.var 5]]),.set (.nm 6) (.lst false []),.for_ (.tp [.nm 7,.nm 8]) "seq" [.var 4] [.expr (.lm "extend" (.var 6) [.bin true .mul (.lst true [.var 7]) (.var 8)])],.ret (.call "laid_out" [.var 0,.tup [.var 1,.var 2],.sL (.lB true) (.var 5) (.var 6)])]⟩
noncomputable def bS:bo:=⟨3,5,[.for_ (.tp [.nm 3,.nm 4]) "seq" [.var 0] [.ite (.cmp .lt (.var 4) (.cI 1)) [.raise "NoStretches" [.cS "a stretch has no cell"]] [],.ite (.or [.cmp .lt (.var 3) (.cI 0),.cmp .gt (.var 3) (.var 1)]) [.raise "NoStretches" [.cS "a stretch's shade is below 0 or above the most"]] []],.ite (.cmp .ne (.blt true "sum" [.comp true (.var 1) (.tp [.nm 0,.nm 1]) "seq" [.var 0] none 2 []]) (.var 2)) [.raise "NoStretches" [.cS "the stretches have more cells than the way, or fewer"]] []]⟩
noncomputable def dF:bo:=⟨3,3,[.expr (.call "ask_size" [.var 1,.var 2]),.ret (.call "cells_by_rows" [.var 1,.var 2])]⟩
noncomputable def KH:bo:=⟨1,1,[.expr (.call "_wall" [.cI 0])]⟩
noncomputable def ck:bo:=⟨3,6,[.expr (.call "ask_size" [.var 1,.var 2]),.set (.nm 3) (.lst false []),.for_ (.nm 4) "range" [.var 1] [.set (.nm 5) (.comp true (.tup [.var 1,.var 0]) (.nm 0) "range" [.var 2] none 1 [4]),.expr (.lm "extend" (.var 3) [.ite (.cmp .eq (.bin true .mod (.var 4) (.cI 2)) (.cI 1)) (.pC true (.var 5)) (.var 5)])],.ret (.var 3)]⟩
noncomputable def yL:bo:=⟨1,1,[.expr (.call "_wall" [.cI 1])]⟩
noncomputable def bF:bo:=⟨3,3,[.expr (.call "ask_size" [.var 1,.var 2]),.ret (.comp false (.tup [.var 1,.var 0]) (.tp [.nm 0,.nm 1]) "seq" [.eO (.call "cells_by_rows" [.var 2,.var 1])] none 2 [])]⟩
noncomputable def zA:bo:=⟨1,1,[.expr (.call "_wall" [.cI 2])]⟩
noncomputable def bE:bo:=⟨3,4,[.expr (.call "ask_size" [.var 1,.var 2]),.set (.nm 3) (.cI 1),.while_ (.or [.cmp .lt (.var 3) (.var 1),.cmp .lt (.var 3) (.var 2)]) [.set (.nm 3) (.bin true .mul (.cI 2) (.var 3))],.ret (.comp false (.tup [.var 0,.var 1]) (.tp [.nm 0,.nm 1]) "seq" [.call "folded_cells" [.var 3]] (some (.and [.cmp .lt (.var 0) (.var 2),.cmp .lt (.var 1) (.var 3)])) 2 [1,2])]⟩
noncomputable def Qz:bo:=⟨1,1,[.expr (.call "_wall" [.cI 3])]⟩
noncomputable def bj:bo:=⟨3,3,[.fY (.var 0) "way" (.var 1),.fY (.var 0) "mask" (.Es (.comp false (.tup [.var 0,.cB true]) (.nm 0) "seq" [.var 2] none 1 []))]⟩
noncomputable def bD:bo:=⟨3,6,[.set (.nm 3) (.call "ways_within" [.var 0]),.set (.nm 4) (.pK),.for_ (.nm 5) "seq" [.slice true (.var 3) none (some (.neg (.cI 1)))] [.expr (.sL .upd (.var 4) (.fld (.var 5) "mask"))],.ret (.comp false (.var 0) (.nm 0) "seq" [.eO (.lC (.sub (.var 3) (.neg (.cI 1))) "order" [.var 1,.var 2])] (some (.pJ (.var 0) (.var 1))) 1 [4])]⟩
noncomputable def Zz:bo:=⟨1,1,[.expr (.call "_wall" [.cI 4])]⟩
noncomputable def cG:bo:=⟨1,2,[.set (.nm 1) (.lst false [.var 0]),.while_ (.lJ (.sub (.var 1) (.neg (.cI 1))) "MaskedWay") [.expr (.lm "append" (.var 1) [.fld (.sub (.var 1) (.neg (.cI 1))) "way"])],.ret (.eO (.var 1))]⟩
noncomputable def cf:bo:=⟨1,3,[.set (.nm 1) (.lst true [.tup [.cI 0,.cI 0]]),.set (.nm 2) (.cI 1),.while_ (.cmp .lt (.var 2) (.var 0)) [.set (.nm 1) (.call "folded_once" [.var 1,.var 2]),.set (.nm 2) (.bin true .mul (.cI 2) (.var 2))],.ret (.var 1)]⟩
noncomputable def cH:bo:=⟨2,6,[.set (.nm 2) (.comp true (.tup [.var 1,.var 0]) (.tp [.nm 0,.nm 1]) "seq" [.var 0] none 2 []),.set (.nm 3) (.comp true (.tup [.bin true .add (.var 2) (.var 0),.var 1]) (.tp [.nm 0,.nm 1]) "seq" [.var 0] none 2 [1]),.set (.nm 4) (.comp true (.tup [.bin true .add (.var 2) (.var 0),.bin true .add (.var 2) (.var 1)]) (.tp [.nm 0,.nm 1]) "seq" [.var 0] none 2 [1]),.set (.nm 5) (.comp true (.tup [.bin true .sub (.bin true .sub (.var 2) (.cI 1)) (.var 1),.bin true .sub (.bin true .sub (.bin true .mul (.cI 2) (.var 2)) (.cI 1)) (.var 0)]) (.tp [.nm 0,.nm 1]) "seq" [.var 0] none 2 [1]),.ret (.bin true .add (.bin true .add (.bin true .add (.var 2) (.var 3)) (.var 4)) (.var 5))]⟩
noncomputable def YK:bo:=⟨2,4,[.eT (.var 1) (.cI 0) (.bin true .add (.sub (.var 1) (.cI 0)) (.cI 1)),.set (.nm 2) (.cI 0),.ite (.cmp .gt (.blt true "len" [.var 0]) (.cI 0)) [.set (.nm 2) (.sub (.var 0) (.bin true .mod (.sub (.var 1) (.cI 0)) (.blt true "len" [.var 0])))] [],.set (.nm 3) (.bin true .mod (.bin true .mul (.bin true .add (.bin true .add (.bin true .mod (.var 2) (.cI 2147483647)) (.bin true .mul (.bin true .mul (.sub (.var 1) (.cI 0)) (.sub (.var 1) (.cI 0))) (.cI 7919))) (.cI 11)) (.cI 48271)) (.cI 2147483647)),.ret (.bin true .mod (.bin true .mul (.var 3) (.var 3)) (.cI 1999999973))]⟩
noncomputable def cX:bo:=⟨2,2,[.ite (.BL (.var 1)) [.ret (.BL (.var 0))] [],.ite (.lJ (.var 1) "dict") [.ite (.or [.not (.lJ (.var 0) "dict"),.cmp .ne (.blt true "len" [.var 0]) (.blt true "len" [.var 1])]) [.ret (.cB false)] [],.ret (.blt true "all" [.comp true (.and [.cmp .i6 (.var 0) (.var 1),.call "_law_same" [.sub (.var 1) (.var 0),.sub (.var 2) (.var 0)]]) (.nm 0) "seq" [.var 1] none 1 [0,1]])] [],.ite (.or [.lJ (.var 1) "list",.lJ (.var 1) "tuple"]) [.ite (.and [.lJ (.var 1) "list",.not (.lJ (.var 0) "list")]) [.ret (.cB false)] [],.ite (.or [.and [.lJ (.var 1) "tuple",.not (.lJ (.var 0) "tuple")],.cmp .ne (.blt true "len" [.var 0]) (.blt true "len" [.var 1])]) [.ret (.cB false)] [],.ret (.blt true "all" [.comp true (.call "_law_same" [.var 0,.var 1]) (.tp [.nm 0,.nm 1]) "zip" [.var 0,.var 1] none 2 []])] [],.ite (.lJ (.var 1) "str") [.ret (.and [.lJ (.var 0) "str",.cmp .eq (.var 0) (.var 1)])] [],.ret (.and [.lJ (.var 0) "int",.not (.lJ (.var 0) "bool"),.cmp .eq (.var 0) (.var 1)])]⟩
noncomputable def yJ:bo:=⟨2,4,[.set (.nm 2) (.call "_law_next" [.var 0,.var 1]),.set (.nm 3) (.cI 0),.ite (.cmp .gt (.blt true "len" [.var 0]) (.cI 0)) [.set (.nm 3) (.sub (.var 0) (.bin true .mod (.sub (.var 1) (.cI 0)) (.blt true "len" [.var 0])))] [],.ret (.sub (.lst true [.cI 1,.cI 2,.cI 3,.cI 9,.cI 255,.bin true .add (.bin true .mod (.var 3) (.bin true .pow (.cI 10) (.cI 29))) (.cI 1)]) (.bin true .mod (.var 2) (.cI 6)))]⟩
noncomputable def dD:bo:=⟨5,11,[.set (.nm 5) (.lst false []),.for_ (.nm 6) "range" [.var 3] [.set (.nm 7) (.lst false []),.for_ (.nm 8) "range" [.var 4] [.set (.nm 9) (.call "_law_next" [.var 0,.var 1]),.set (.nm 10) (.bin true .mod (.bin true .add (.bin true .mul (.bin true .fdiv (.var 9) (.cI 6)) (.bin true .pow (.cI 10) (.cI 21))) (.var 9)) (.bin true .add (.var 2) (.cI 1))),.expr (.lm "append" (.var 7) [.sub (.lst true [.cI 0,.var 2,.var 10,.var 10,.var 10,.bin true .fdiv (.var 2) (.cI 2)]) (.bin true .mod (.var 9) (.cI 6))])],.expr (.lm "append" (.var 5) [.eO (.var 7)])],.ret (.eO (.var 5))]⟩
noncomputable def eG:bo:=⟨4,10,[.set (.nm 4) (.call "_law_next" [.var 0,.var 1]),.set (.nm 5) (.sub (.lst true [.make true "Way" [],.make true "FroWay" [],.make true "ColumnWay" [],.make true "FoldedWay" []]) (.bin true .mod (.var 4) (.cI 4))),.ite (.cmp .eq (.bin true .mod (.bin true .fdiv (.var 4) (.cI 4)) (.cI 3)) (.cI 0)) [.ret (.var 5)] [],.set (.nm 6) (.lst false []),.for_ (.nm 7) "range" [.var 2] [.for_ (.nm 8) "range" [.var 3] [.set (.nm 9) (.call "_law_next" [.var 0,.var 1]),.ite (.or [.cmp .eq (.bin true .mod (.var 9) (.cI 4)) (.cI 0),.cmp .eq (.bin true .mod (.bin true .fdiv (.var 4) (.cI 12)) (.cI 9)) (.cI 0)]) [.expr (.lm "append" (.var 6) [.tup [.var 7,.var 8]])] [],.ite (.cmp .eq (.bin true .mod (.var 9) (.cI 40)) (.cI 0)) [.expr (.lm "append" (.var 6) [.tup [.var 7,.var 8]])] []]],.ite (.cmp .eq (.bin true .mod (.bin true .fdiv (.var 4) (.cI 108)) (.cI 3)) (.cI 0)) [.ret (.make true "MaskedWay" [.make true "MaskedWay" [.var 5,.slice true (.var 6) none (some (.cI 2))],.eO (.var 6)])] [],.ret (.make true "MaskedWay" [.var 5,.bin true .add (.var 6) (.lst true [.tup [.var 2,.cI 0]])])]⟩
noncomputable def cj:bo:=⟨2,6,[.set (.nm 2) (.lst false []),.for_ (.tp [.nm 3,.nm 4]) "seq" [.var 1] [.set (.nm 5) (.sub (.sub (.var 0) (.var 3)) (.var 4)),.ite (.or [.cmp .eq (.blt true "len" [.var 2]) (.cI 0),.cmp .ne (.sub (.sub (.var 2) (.bin true .sub (.blt true "len" [.var 2]) (.cI 1))) (.cI 0)) (.var 5)]) [.expr (.lm "append" (.var 2) [.tup [.var 5,.cI 0]])] [],.eT (.var 2) (.bin true .sub (.blt true "len" [.var 2]) (.cI 1)) (.tup [.var 5,.bin true .add (.sub (.sub (.var 2) (.bin true .sub (.blt true "len" [.var 2]) (.cI 1))) (.cI 1)) (.cI 1)])],.ret (.eO (.var 2))]⟩
noncomputable def cW:bo:=⟨5,7,[.nO [.set (.nm 5) (.tup [.cS "laid",.call "laid_along" [.var 0,.var 1,.var 2,.var 3,.var 4]])] 6 5 "_law_word" "no",.ret (.var 5)]⟩
noncomputable def dE:bo:=⟨6,7,[.set (.nm 6) (.call "_law_told" [.var 0,.var 1,.var 2,.var 3,.var 4]),.ite (.or [.cmp .ne (.sub (.var 6) (.cI 0)) (.cS "laid"),.not (.lJ (.sub (.var 6) (.cI 1)) "Picture"),.not (.call "_law_same" [.fld (.sub (.var 6) (.cI 1)) "most",.var 0])]) [.ret (.cB false)] [],.ret (.call "_law_same" [.fld (.sub (.var 6) (.cI 1)) "rows",.var 5])]⟩
noncomputable def bC:bo:=⟨4,11,[.set (.nm 4) (.call "_law_next" [.var 0,.var 1]),.set (.nm 5) (.blt false "list" [.var 3]),.ite (.cmp .eq (.blt true "len" [.var 5]) (.cI 0)) [.ret (.lst true [.tup [.cI 0,.cI 1]])] [],.set (.nm 6) (.bin true .mod (.bin true .fdiv (.var 4) (.cI 9)) (.blt true "len" [.var 5])),.set (.tp [.nm 7,.nm 8]) (.sub (.var 5) (.var 6)),.set (.nm 9) (.bin true .sub (.bin true .pow (.cI 10) (.cI 29)) (.var 4)),.set (.nm 10) (.lst true [.tup [.var 7,.cI 0],.tup [.var 7,.bin true .sub (.neg (.cI 1)) (.bin true .mod (.bin true .fdiv (.var 4) (.cI 100)) (.cI 50))],.tup [.var 7,.bin true .add (.var 8) (.cI 1)],.tup [.var 7,.var 9],.tup [.bin true .sub (.neg (.cI 1)) (.bin true .mod (.bin true .fdiv (.var 4) (.cI 100)) (.cI 9)),.var 8]]),.set (.nm 10) (.bin true .add (.var 10) (.lst true [.tup [.bin true .add (.var 2) (.cI 1),.var 8],.tup [.bin true .add (.var 2) (.var 9),.var 8]])),.ite (.cmp .lt (.bin true .mod (.var 4) (.cI 9)) (.cI 7)) [.eT (.var 5) (.var 6) (.sub (.var 10) (.bin true .mod (.var 4) (.cI 9)))] [.ite (.cmp .eq (.bin true .mod (.var 4) (.cI 9)) (.cI 7)) [.expr (.lm "insert" (.var 5) [.var 6,.tup [.var 7,.var 8]])] [.expr (.lm "pop" (.var 5) [.var 6])]],.ret (.eO (.var 5))]⟩
noncomputable def cg:bo:=⟨6,15,[.set (.nm 6) (.call "_law_next" [.var 0,.var 1]),.set (.nm 7) (.blt true "len" [.var 3]),.set (.nm 8) (.blt true "len" [.sub (.var 3) (.cI 0)]),.set (.nm 9) (.call "_law_wrong" [.var 0,.var 1,.var 2,.var 5]),.ite (.cmp .ne (.call "_law_told" [.var 2,.var 7,.var 8,.var 4,.var 9]) (.tup [.cS "no",.cS "stretches"])) [.ret (.cB false)] [],.set (.nm 10) (.sub (.lst true [.tup [.cI 0,.var 8],.tup [.var 7,.neg (.bin true .mod (.var 6) (.cI 5))],.tup [.neg (.cI 1),.cI 0]]) (.bin true .mod (.bin true .fdiv (.var 6) (.cI 147)) (.cI 3))),.ite (.cmp .ne (.call "_law_told" [.cI 0,.sub (.var 10) (.cI 0),.sub (.var 10) (.cI 1),.var 4,.var 9]) (.tup [.cS "no",.cS "out"])) [.ret (.cB false)] [],.set (.nm 11) (.blt true "len" [.eO (.lC (.var 4) "order" [.var 7,.var 8])]),.set (.nm 12) (.slice true (.lst true [.tup [.cI 0,.var 11]]) none (some (.var 11))),.for_ (.tp [.nm 13,.nm 14]) "seq" [.lst true [.tup [.cI 0,.var 12],.tup [.neg (.cI 1),.var 12],.tup [.cI 0,.var 9],.tup [.neg (.bin true .mod (.bin true .fdiv (.var 6) (.cI 9)) (.cI 5)),.var 9]]] [.ite (.cmp .ne (.call "_law_told" [.var 13,.var 7,.var 8,.var 4,.var 14]) (.tup [.cS "no",.cS "picture"])) [.ret (.cB false)] []],.ret (.cB true)]⟩
noncomputable def cJ:bo:=⟨2,6,[.set (.nm 2) (.lst false []),.for_ (.tp [.nm 3,.nm 4]) "seq" [.var 0] [.set (.nm 5) (.bin true .add (.cI 1) (.bin true .mod (.var 1) (.var 4))),.expr (.lm "append" (.var 2) [.tup [.var 3,.var 5]]),.ite (.cmp .lt (.var 5) (.var 4)) [.expr (.lm "append" (.var 2) [.tup [.var 3,.bin true .sub (.var 4) (.var 5)]])] []],.ret (.blt true "tuple" [.var 2])]⟩
noncomputable def bx:bo:=⟨2,15,[.set (.nm 2) (.call "_law_next" [.var 0,.var 1]),.set (.nm 3) (.bin true .add (.cI 1) (.bin true .mod (.var 2) (.cI 7))),.set (.nm 4) (.bin true .add (.cI 1) (.bin true .mod (.bin true .fdiv (.var 2) (.cI 7)) (.cI 7))),.set (.nm 5) (.call "_law_most" [.var 0,.var 1]),.set (.nm 6) (.call "_law_rows" [.var 0,.var 1,.var 5,.var 3,.var 4]),.ite (.cmp .gt (.bin true .mod (.bin true .fdiv (.var 2) (.cI 49)) (.cI 3)) (.cI 0)) [.set (.nm 6) (.comp true (.comp true (.bin true .mul (.bin true .fdiv (.bin true .mul (.var 0) (.cI 2)) (.bin true .add (.var 1) (.cI 1))) (.var 1)) (.nm 0) "seq" [.var 0] none 1 [1]) (.nm 0) "seq" [.var 6] none 1 [5])] [],.set (.nm 7) (.make true "Picture" [.var 5,.var 6]),.set (.nm 8) (.call "_law_way" [.var 0,.var 1,.var 3,.var 4]),.set (.nm 9) (.eO (.lC (.var 8) "order" [.var 3,.var 4])),.set (.nm 10) (.call "_law_counted" [.var 6,.var 9]),.set (.nm 11) (.call "stretches_along" [.var 7,.var 8]),.ite (.not (.call "_law_same" [.var 11,.var 10])) [.ret (.cB false)] [],.expr (.lm "append" (.var 11) [.tup [.var 5,.cI 1]]),.expr (.lm "reverse" (.var 11) []),.ite (.not (.call "_law_same" [.eO (.call "stretches_along" [.var 7,.var 8]),.var 10])) [.ret (.cB false)] [],.set (.nm 12) (.lst false []),.for_ (.nm 13) "range" [.var 3] [.expr (.lm "append" (.var 12) [.blt true "tuple" [.comp true (.bin true .mul (.sub (.sub (.var 1) (.var 2)) (.var 0)) (.blt true "int" [.cmp .i6 (.tup [.var 2,.var 0]) (.var 3)])) (.nm 0) "range" [.var 4] none 1 [6,13,9]]])],.set (.nm 14) (.blt true "list" [.var 10]),.ite (.or [.not (.call "_law_laid" [.var 5,.var 3,.var 4,.var 8,.var 14,.blt true "tuple" [.var 12]]),.cmp .ne (.var 14) (.var 10)]) [.ret (.cB false)] [],.ite (.not (.call "_law_laid" [.var 5,.var 3,.var 4,.var 8,.call "_law_parted" [.var 10,.bin true .fdiv (.var 2) (.cI 9)],.blt true "tuple" [.var 12]])) [.ret (.cB false)] [],.ite (.not (.call "_law_refused" [.var 0,.var 1,.var 5,.var 6,.var 8,.var 10])) [.ret (.cB false)] [],.ret (.and [.call "_law_laid" [.var 5,.var 3,.var 4,.var 8,.var 10,.blt true "tuple" [.var 12]],.call "_law_same" [.eO (.call "stretches_along" [.var 7,.var 8]),.var 10]])]⟩
noncomputable def lV:bo:=⟨1,3,[.set (.nm 1) (.lst false [.cI 0]),.for_ (.nm 2) "range" [.bin true .add (.cI 1) (.blt true "min" [.cI 3,.bin true .fdiv (.blt true "len" [.var 0]) (.cI 16)])] [.ite (.not (.call "_law_one" [.var 0,.var 1])) [.ret (.cB false)] []],.ret (.cB true)]⟩
noncomputable def sk:List (String×bo):=[("_wall",F9),("own_rows",QS),("fault_of",qT),("cells_by_rows",bR),("Picture.__init__",Yp),("high",DQ),("wide",DJ),("size_of",e9),("has_cell",zR),("ask_cell",QH),("shade_at",eD),("ask_size",eF),("with_shades",qA),("laid_out",eE),("stretches_along",bA),("laid_along",bB),("ask_stretches",bS),("Way.order",dF),("Way.word",KH),("FroWay.order",ck),("FroWay.word",yL),("ColumnWay.order",bF),("ColumnWay.word",zA),("FoldedWay.order",bE),("FoldedWay.word",Qz),("MaskedWay.__init__",bj),("MaskedWay.order",bD),("MaskedWay.word",Zz),("ways_within",cG),("folded_cells",cf),("folded_once",cH),("_law_next",YK),("_law_same",cX),("_law_most",yJ),("_law_rows",dD),("_law_way",eG),("_law_counted",cj),("_law_told",cW),("_law_laid",dE),("_law_wrong",bC),("_law_refused",cg),("_law_parted",cJ),("_law_one",bx),("law",lV)]
noncomputable def nU:List ((String×String)×String):=[(("Picture","__init__"),"Picture.__init__"),(("Way","order"),"Way.order"),(("Way","word"),"Way.word"),(("FroWay","order"),"FroWay.order"),(("FroWay","word"),"FroWay.word"),(("ColumnWay","order"),"ColumnWay.order"),(("ColumnWay","word"),"ColumnWay.word"),(("FoldedWay","order"),"FoldedWay.order"),(("FoldedWay","word"),"FoldedWay.word"),(("MaskedWay","__init__"),"MaskedWay.__init__"),(("MaskedWay","order"),"MaskedWay.order"),(("MaskedWay","word"),"MaskedWay.word")]
noncomputable def rJ:List ((String×String)×Bool):=[(("Picture","Picture"),true),(("Picture","Way"),false),(("Picture","FroWay"),false),(("Picture","ColumnWay"),false),(("Picture","FoldedWay"),false),(("Picture","MaskedWay"),false),(("Picture","dict"),false),(("Picture","list"),false),(("Picture","tuple"),false),(("Picture","str"),false),(("Picture","int"),false),(("Picture","bool"),false),(("Way","Picture"),false),(("Way","Way"),true),(("Way","FroWay"),false),(("Way","ColumnWay"),false),(("Way","FoldedWay"),false),(("Way","MaskedWay"),false),(("Way","dict"),false),(("Way","list"),false),(("Way","tuple"),false),(("Way","str"),false),(("Way","int"),false),(("Way","bool"),false),(("FroWay","Picture"),false),(("FroWay","Way"),true),(("FroWay","FroWay"),true),(("FroWay","ColumnWay"),false),(("FroWay","FoldedWay"),false),(("FroWay","MaskedWay"),false),(("FroWay","dict"),false),(("FroWay","list"),false),(("FroWay","tuple"),false),(("FroWay","str"),false),(("FroWay","int"),false),(("FroWay","bool"),false),(("ColumnWay","Picture"),false),(("ColumnWay","Way"),true),(("ColumnWay","FroWay"),false),(("ColumnWay","ColumnWay"),true),(("ColumnWay","FoldedWay"),false),(("ColumnWay","MaskedWay"),false),(("ColumnWay","dict"),false),(("ColumnWay","list"),false),(("ColumnWay","tuple"),false),(("ColumnWay","str"),false),(("ColumnWay","int"),false),(("ColumnWay","bool"),false),(("FoldedWay","Picture"),false),(("FoldedWay","Way"),true),(("FoldedWay","FroWay"),false),(("FoldedWay","ColumnWay"),false),(("FoldedWay","FoldedWay"),true),(("FoldedWay","MaskedWay"),false),(("FoldedWay","dict"),false),(("FoldedWay","list"),false),(("FoldedWay","tuple"),false),(("FoldedWay","str"),false),(("FoldedWay","int"),false),(("FoldedWay","bool"),false),(("MaskedWay","Picture"),false),(("MaskedWay","Way"),true),(("MaskedWay","FroWay"),false),(("MaskedWay","ColumnWay"),false),(("MaskedWay","FoldedWay"),false),(("MaskedWay","MaskedWay"),true),(("MaskedWay","dict"),false),(("MaskedWay","list"),false),(("MaskedWay","tuple"),false),(("MaskedWay","str"),false),(("MaskedWay","int"),false),(("MaskedWay","bool"),false)]
noncomputable def prog:Prog where
 defs:=λf=>sk.lookup f
 jI:=λx=>match x with
  |_=>none
 meths:=λc m=>nU.lookup (c,m)
 subs:=λc t=>rJ.lookup (c,t)
 jM:=λc n=>match c,n with
  |"Picture","most"=>true
  |"Picture","rows"=>true
  |"MaskedWay","way"=>true
  |"MaskedWay","mask"=>true
  |_,_=>false
 nT:=λc=>match c with
  |"Way"=>true
  |"FroWay"=>true
  |"ColumnWay"=>true
  |"FoldedWay"=>true
  |_=>false
 word:=λw c=>match w,c with
  |"_law_word","NoPicture"=>some "picture"
  |"_law_word","OutOfPicture"=>some "out"
  |"_law_word","NoStretches"=>some "stretches"
  |_,_=>none
 words:=λw=>match w with
  |"_law_word"=>true
  |_=>false
 jN:=λc=>match c with
  |"NoPicture"=>true
  |"OutOfPicture"=>true
  |"NoStretches"=>true
  |_=>false
 turns:=1000000
@[simp] theorem Qde:prog.defs "_wall"=some F9:=rfl
@[simp] theorem YcK:prog.defs "own_rows"=some QS:=rfl
@[simp] theorem QcK:prog.defs "fault_of"=some qT:=rfl
@[simp] theorem yad:prog.defs "cells_by_rows"=some bR:=rfl
@[simp] theorem Zbg:prog.defs "Picture.__init__"=some Yp:=rfl
@[simp] theorem A6:prog.defs "high"=some DQ:=rfl
@[simp] theorem A5:prog.defs "wide"=some DJ:=rfl
@[simp] theorem ybo:prog.defs "size_of"=some e9:=rfl
@[simp] theorem qcE:prog.defs "has_cell"=some zR:=rfl
@[simp] theorem zcK:prog.defs "ask_cell"=some QH:=rfl
@[simp] theorem Zbb:prog.defs "shade_at"=some eD:=rfl
@[simp] theorem qba:prog.defs "ask_size"=some eF:=rfl
@[simp] theorem Qav:prog.defs "with_shades"=some qA:=rfl
@[simp] theorem Ya1:prog.defs "laid_out"=some eE:=rfl
@[simp] theorem Q3:prog.defs "stretches_along"=some bA:=rfl
@[simp] theorem QaL:prog.defs "laid_along"=some bB:=rfl
@[simp] theorem Qah:prog.defs "ask_stretches"=some bS:=rfl
@[simp] theorem YaT:prog.defs "Way.order"=some dF:=rfl
@[simp] theorem YcA:prog.defs "Way.word"=some KH:=rfl
@[simp] theorem zar:prog.defs "FroWay.order"=some ck:=rfl
@[simp] theorem yb5:prog.defs "FroWay.word"=some yL:=rfl
@[simp] theorem Q4:prog.defs "ColumnWay.order"=some bF:=rfl
@[simp] theorem zbz:prog.defs "ColumnWay.word"=some zA:=rfl
@[simp] theorem Z5:prog.defs "FoldedWay.order"=some bE:=rfl
@[simp] theorem ybv:prog.defs "FoldedWay.word"=some Qz:=rfl
@[simp] theorem ZR:prog.defs "MaskedWay.__init__"=some bj:=rfl
@[simp] theorem Y3:prog.defs "MaskedWay.order"=some bD:=rfl
@[simp] theorem ybw:prog.defs "MaskedWay.word"=some Zz:=rfl
@[simp] theorem qay:prog.defs "ways_within"=some cG:=rfl
@[simp] theorem qaq:prog.defs "folded_cells"=some cf:=rfl
@[simp] theorem yax:prog.defs "folded_once"=some cH:=rfl
@[simp] theorem qaQ:prog.defs "_law_next"=some YK:=rfl
@[simp] theorem QaR:prog.defs "_law_same"=some cX:=rfl
@[simp] theorem qaR:prog.defs "_law_most"=some yJ:=rfl
@[simp] theorem YaS:prog.defs "_law_rows"=some dD:=rfl
@[simp] theorem Ya4:prog.defs "_law_way"=some eG:=rfl
@[simp] theorem Zar:prog.defs "_law_counted"=some cj:=rfl
@[simp] theorem zaP:prog.defs "_law_told"=some cW:=rfl
@[simp] theorem ZaQ:prog.defs "_law_laid"=some dE:=rfl
@[simp] theorem YaL:prog.defs "_law_wrong"=some bC:=rfl
@[simp] theorem Qan:prog.defs "_law_refused"=some cg:=rfl
@[simp] theorem Zay:prog.defs "_law_parted"=some cJ:=rfl
@[simp] theorem Za8:prog.defs "_law_one"=some bx:=rfl
@[simp] theorem qcI:prog.defs "law"=some lV:=rfl
@[simp] theorem Ycc:prog.jM "Picture" "most"=true:=rfl
@[simp] theorem Qb8:prog.jM "Picture" "rows"=true:=rfl
@[simp] theorem YbK:prog.subs "Picture" "Picture"=some true:=rfl
@[simp] theorem Ycw:prog.subs "Picture" "Way"=some false:=rfl
@[simp] theorem YbX:prog.subs "Picture" "FroWay"=some false:=rfl
@[simp] theorem qbs:prog.subs "Picture" "ColumnWay"=some false:=rfl
@[simp] theorem Qbr:prog.subs "Picture" "FoldedWay"=some false:=rfl
@[simp] theorem Ybs:prog.subs "Picture" "MaskedWay"=some false:=rfl
@[simp] theorem Qcv:prog.subs "Way" "Picture"=some false:=rfl
@[simp] theorem qdh:prog.subs "Way" "Way"=some true:=rfl
@[simp] theorem YcB:prog.subs "Way" "FroWay"=some false:=rfl
@[simp] theorem qb4:prog.subs "Way" "ColumnWay"=some false:=rfl
@[simp] theorem Yb5:prog.subs "Way" "FoldedWay"=some false:=rfl
@[simp] theorem Yb4:prog.subs "Way" "MaskedWay"=some false:=rfl
@[simp] theorem ybU:prog.subs "FroWay" "Picture"=some false:=rfl
@[simp] theorem zcM:prog.subs "FroWay" "Way"=some true:=rfl
@[simp] theorem Qb4:prog.subs "FroWay" "FroWay"=some true:=rfl
@[simp] theorem QbG:prog.subs "FroWay" "ColumnWay"=some false:=rfl
@[simp] theorem QbE:prog.subs "FroWay" "FoldedWay"=some false:=rfl
@[simp] theorem ybD:prog.subs "FroWay" "MaskedWay"=some false:=rfl
@[simp] theorem Zbs:prog.subs "ColumnWay" "Picture"=some false:=rfl
@[simp] theorem zb5:prog.subs "ColumnWay" "Way"=some true:=rfl
@[simp] theorem Ybt:prog.subs "ColumnWay" "FroWay"=some false:=rfl
@[simp] theorem Zbe:prog.subs "ColumnWay" "ColumnWay"=some true:=rfl
@[simp] theorem Qbe:prog.subs "ColumnWay" "FoldedWay"=some false:=rfl
@[simp] theorem qbe:prog.subs "ColumnWay" "MaskedWay"=some false:=rfl
@[simp] theorem zbs:prog.subs "FoldedWay" "Picture"=some false:=rfl
@[simp] theorem Qb5:prog.subs "FoldedWay" "Way"=some true:=rfl
@[simp] theorem Qbx:prog.subs "FoldedWay" "FroWay"=some false:=rfl
@[simp] theorem qbd:prog.subs "FoldedWay" "ColumnWay"=some false:=rfl
@[simp] theorem zbf:prog.subs "FoldedWay" "FoldedWay"=some true:=rfl
@[simp] theorem Qbd:prog.subs "FoldedWay" "MaskedWay"=some false:=rfl
@[simp] theorem qb5:prog.jM "MaskedWay" "way"=true:=rfl
@[simp] theorem yb0:prog.jM "MaskedWay" "mask"=true:=rfl
@[simp] theorem ybs:prog.subs "MaskedWay" "Picture"=some false:=rfl
@[simp] theorem Zb5:prog.subs "MaskedWay" "Way"=some true:=rfl
@[simp] theorem zbG:prog.subs "MaskedWay" "FroWay"=some false:=rfl
@[simp] theorem Ybe:prog.subs "MaskedWay" "ColumnWay"=some false:=rfl
@[simp] theorem ybe:prog.subs "MaskedWay" "FoldedWay"=some false:=rfl
@[simp] theorem zbe:prog.subs "MaskedWay" "MaskedWay"=some true:=rfl
@[simp] theorem zbA:prog.meths "Picture" "__init__"=some "Picture.__init__":=rfl
@[simp] theorem zcR:prog.meths "Way" "order"=some "Way.order":=rfl
@[simp] theorem zdd:prog.meths "Way" "word"=some "Way.word":=rfl
@[simp] theorem Zct:prog.meths "FroWay" "order"=some "FroWay.order":=rfl
@[simp] theorem zcw:prog.meths "FroWay" "word"=some "FroWay.word":=rfl
@[simp] theorem ZbJ:prog.meths "ColumnWay" "order"=some "ColumnWay.order":=rfl
@[simp] theorem ybX:prog.meths "ColumnWay" "word"=some "ColumnWay.word":=rfl
@[simp] theorem ZbK:prog.meths "FoldedWay" "order"=some "FoldedWay.order":=rfl
@[simp] theorem qb1:prog.meths "FoldedWay" "word"=some "FoldedWay.word":=rfl
@[simp] theorem Zbm:prog.meths "MaskedWay" "__init__"=some "MaskedWay.__init__":=rfl
@[simp] theorem zbL:prog.meths "MaskedWay" "order"=some "MaskedWay.order":=rfl
@[simp] theorem zbW:prog.meths "MaskedWay" "word"=some "MaskedWay.word":=rfl
@[simp] theorem Qbo:prog.word "_law_word" "NoPicture"=some "picture":=rfl
@[simp] theorem QaF:prog.word "_law_word" "OutOfPicture"=some "out":=rfl
@[simp] theorem ZaP:prog.word "_law_word" "NoStretches"=some "stretches":=rfl
theorem qb(n)(f)(as)(h):run prog (n+1) f as h=opt (prog.defs f) λd=>if as.length=d.np then yc h (Qb prog (run prog n) d.body (as.map some++va (d.ns-d.np) none) h) else .stuck:=rfl
theorem Yak(n)(a0 a1)(h):run prog (n+1) "cells_by_rows" [a0,a1] h=yc h (Qb prog (run prog n) bR.body [some a0,some a1,none,none] h):=by rw[qb,yad];rfl
theorem Ybl(n)(a0)(h):run prog (n+1) "size_of" [a0] h=yc h (Qb prog (run prog n) e9.body [some a0] h):=by rw[qb,ybo];rfl
theorem Za4(n)(a0 a1)(h):run prog (n+1) "shade_at" [a0,a1] h=yc h (Qb prog (run prog n) eD.body [some a0,some a1] h):=by rw[qb,Zbb];rfl
theorem Za3(n)(a0 a1)(h):run prog (n+1) "ask_size" [a0,a1] h=yc h (Qb prog (run prog n) eF.body [some a0,some a1] h):=by rw[qb,qba];rfl
theorem Qbc(n)(a0 a1 a2)(h):run prog (n+1) "laid_out" [a0,a1,a2] h=yc h (Qb prog (run prog n) eE.body [some a0,some a1,some a2] h):=by rw[qb,Ya1];rfl
theorem Q5(n)(a0 a1)(h):run prog (n+1) "stretches_along" [a0,a1] h=yc h (Qb prog (run prog n) bA.body [some a0,some a1,none,none,none,none] h):=by rw[qb,Q3];rfl
theorem zy(n)(a0 a1 a2 a3 a4)(h):run prog (n+1) "laid_along" [a0,a1,a2,a3,a4] h=yc h (Qb prog (run prog n) bB.body [some a0,some a1,some a2,some a3,some a4,none,none,none,none] h):=by rw[qb,QaL];rfl
theorem qag(n)(a0 a1 a2)(h):run prog (n+1) "ask_stretches" [a0,a1,a2] h=yc h (Qb prog (run prog n) bS.body [some a0,some a1,some a2,none,none] h):=by rw[qb,Qah];rfl
theorem yaQ(n)(a0 a1 a2)(h):run prog (n+1) "Way.order" [a0,a1,a2] h=yc h (Qb prog (run prog n) dF.body [some a0,some a1,some a2] h):=by rw[qb,YaT];rfl
theorem Yal(n)(a0 a1 a2)(h):run prog (n+1) "FroWay.order" [a0,a1,a2] h=yc h (Qb prog (run prog n) ck.body [some a0,some a1,some a2,none,none,none] h):=by rw[qb,zar];rfl
theorem Z6(n)(a0 a1 a2)(h):run prog (n+1) "ColumnWay.order" [a0,a1,a2] h=yc h (Qb prog (run prog n) bF.body [some a0,some a1,some a2] h):=by rw[qb,Q4];rfl
theorem Z2(n)(a0 a1 a2)(h):run prog (n+1) "FoldedWay.order" [a0,a1,a2] h=yc h (Qb prog (run prog n) bE.body [some a0,some a1,some a2,none] h):=by rw[qb,Z5];rfl
theorem zQ(n)(a0 a1 a2)(h):run prog (n+1) "MaskedWay.__init__" [a0,a1,a2] h=yc h (Qb prog (run prog n) bj.body [some a0,some a1,some a2] h):=by rw[qb,ZR];rfl
theorem Y6(n)(a0 a1 a2)(h):run prog (n+1) "MaskedWay.order" [a0,a1,a2] h=yc h (Qb prog (run prog n) bD.body [some a0,some a1,some a2,none,none,none] h):=by rw[qb,Y3];rfl
theorem Qax(n)(a0)(h):run prog (n+1) "ways_within" [a0] h=yc h (Qb prog (run prog n) cG.body [some a0,none] h):=by rw[qb,qay];rfl
theorem Qal(n)(a0)(h):run prog (n+1) "folded_cells" [a0] h=yc h (Qb prog (run prog n) cf.body [some a0,none,none] h):=by rw[qb,qaq];rfl
theorem qaw(n)(a0 a1)(h):run prog (n+1) "folded_once" [a0,a1] h=yc h (Qb prog (run prog n) cH.body [some a0,some a1,none,none,none,none] h):=by rw[qb,yax];rfl
theorem Z9(n)(a0 a1)(h):run prog (n+1) "_law_same" [a0,a1] h=yc h (Qb prog (run prog n) cX.body [some a0,some a1] h):=by rw[qb,QaR];rfl
theorem ZaT(n)(a0 a1 a2 a3 a4)(h):run prog (n+1) "_law_rows" [a0,a1,a2,a3,a4] h=yc h (Qb prog (run prog n) dD.body [some a0,some a1,some a2,some a3,some a4,none,none,none,none,none,none] h):=by rw[qb,YaS];rfl
theorem za9(n)(a0 a1 a2 a3)(h):run prog (n+1) "_law_way" [a0,a1,a2,a3] h=yc h (Qb prog (run prog n) eG.body [some a0,some a1,some a2,some a3,none,none,none,none,none,none] h):=by rw[qb,Ya4];rfl
theorem yap(n)(a0 a1)(h):run prog (n+1) "_law_counted" [a0,a1] h=yc h (Qb prog (run prog n) cj.body [some a0,some a1,none,none,none,none] h):=by rw[qb,Zar];rfl
theorem Q6(n)(a0 a1 a2 a3 a4)(h):run prog (n+1) "_law_told" [a0,a1,a2,a3,a4] h=yc h (Qb prog (run prog n) cW.body [some a0,some a1,some a2,some a3,some a4,none,none] h):=by rw[qb,zaP];rfl
theorem QaS(n)(a0 a1 a2 a3 a4 a5)(h):run prog (n+1) "_law_laid" [a0,a1,a2,a3,a4,a5] h=yc h (Qb prog (run prog n) dE.body [some a0,some a1,some a2,some a3,some a4,some a5,none] h):=by rw[qb,ZaQ];rfl
theorem Zy(n)(a0 a1 a2 a3)(h):run prog (n+1) "_law_wrong" [a0,a1,a2,a3] h=yc h (Qb prog (run prog n) bC.body [some a0,some a1,some a2,some a3,none,none,none,none,none,none,none] h):=by rw[qb,YaL];rfl
theorem zao(n)(a0 a1 a2 a3 a4 a5)(h):run prog (n+1) "_law_refused" [a0,a1,a2,a3,a4,a5] h=yc h (Qb prog (run prog n) cg.body [some a0,some a1,some a2,some a3,some a4,some a5,none,none,none,none,none,none,none,none,none] h):=by rw[qb,Qan];rfl
theorem Yaw(n)(a0 a1)(h):run prog (n+1) "_law_parted" [a0,a1] h=yc h (Qb prog (run prog n) cJ.body [some a0,some a1,none,none,none,none] h):=by rw[qb,Zay];rfl
theorem Qa6(n)(a0 a1)(h):run prog (n+1) "_law_one" [a0,a1] h=yc h (Qb prog (run prog n) bx.body [some a0,some a1,none,none,none,none,none,none,none,none,none,none,none,none,none] h):=by rw[qb,Za8];rfl
theorem qcD(n)(a0)(h):run prog (n+1) "law" [a0] h=yc h (Qb prog (run prog n) lV.body [some a0,none,none] h):=by rw[qb,qcI];rfl
noncomputable def ze(b:Bool)(r:List Int):FV:=sq b (r.map .int)
noncomputable def ye(b1 b2:Bool)(rows:List (List Int)):FV:=sq b1 (rows.map (ze b2))
noncomputable def yq(most:Int)(rows:List (List Int)):FV:=.obj "Picture" ["most","rows"] [.int most,ye true true rows]
structure Good (most:Int) (rows:List (List Int)):Prop where
 m1:1<=most
 ne:rows≠[]
 len:∃ n:Nat,0<n/\∀ r∈rows,r.length=n
 sh:∀ r∈rows,∀ v∈r,0<=v/\v<=most
 sz:rows.length<=1000
theorem Yb:aD=4194304:=rfl
section
variable (h:MH)
theorem bZ.obj(c:String)(fs:List (String×FV))(ds:MH):bZ (h++[.obj c []]) (h++.obj c (fs.map λp=>(p.1,MV.f p.2))::ds):=by
 refine⟨by simp,λi d hi e=>?_⟩;by_cases hl:i<h.length
 ·rw[ub hl] at e ⊢;exact .inl e
 ·have:i=h.length:=by simp at hi;lia
  subst this;simp at e;subst e;exact .inr ⟨fs,rfl⟩
end
noncomputable def Zx(rows:List (List Int))(i j:Nat)(v:Int):List (List Int):=rows.modify i (·.set j v)
noncomputable def oM(r:List Int):Cell:=.lst (r.map λi=>.f (.int i))
section
variable (h:MH)
theorem Mh(bd:MV->aI->MH->R (Option MV×aI))(e:List Int->MV)(hb:∀ r z h,∃ z',bd (e r) [z] h=.ok (some (.ref h.length),[z']) (h++[oM r])):∀(rows:List (List Int)) (acc:List MV) (z:Option MV) (h:MH),acc.length+rows.length<=aD ->
  Qj [] bd (rows.map e) acc [z] h=.ok (acc++(Vb rows.length).map λi=>MV.ref (h.length+i)) (h++rows.map oM)
 |[],acc,z,h,_=>by simp[Qj]
 |r::rows,acc,z,h,hl=>by
  obtain⟨z',e1⟩:=hb r z h;simp only[Vc] at hl;have ih:=Mh bd e hb rows (acc++[.ref h.length]) z' (h++[oM r]) (by simp;lia);simp only[Va,Qj,zK,true_and,e1,R.aH,ih,ue,Vc,ui];rw[if_pos (by lia)]
  congr 1
  ·simp[List.range_succ_eq_map,Xf];intro a _
   lia
  ·simp
noncomputable def own(h:MH)(rows:List (List Int)):MH:=h++(rows.map oM++[.lst ((Vb rows.length).map λi=>MV.ref (h.length+i))])
theorem Ll(rows):Ze (own h rows) (h.length+rows.length)=some ((Vb rows.length).map λi=>MV.ref (h.length+i)):=by
 unfold own Ze;rw[Ve (by lia),Ve (by simp)];simp
theorem HN(rows)(i)(r)(e:rows[i]?=some r):Ze (own h rows) (h.length+i)=some (r.map λi=>.f (.int i)):=by
 have hi:=(xa.mp e).1;unfold own Ze;rw[Ve (by lia),ub (by simp;lia)];simp[e,oM]
theorem ZcN(rows)(i j)(r)(v)(e:rows[i]?=some r):Zd (own h rows) (h.length+i) ((r.map λi=>MV.f (.int i)).set j (I v))=own h (Zx rows i j v):=by
 have hi:=(xa.mp e).1;unfold own Zd Zx;rw[Vx _ _ (by lia),List.set_append_left _ _ (by simp;lia)]
 congr 2
 ·rw[show h.length+i-h.length=i by lia];apply xk;intro k;rw[List.getElem?_set,Xc,Xc,uz];by_cases hk:i=k
  ·subst hk;simp[hi,e,oM,List.map_set];rw[xc hi] at e;simp at e;rw[e]
  ·simp[hk]
 ·simp
theorem Zb6(rows):QP (own h rows) (.ref (h.length+rows.length))=some (ye false false rows):=by
 have hr:∀ m (xs:List Nat),(∀ i∈xs,i<rows.length)->(xs.map λi=>MV.ref (h.length+i)).mapM (Qq (own h rows) (m+2))=some (xs.map λi=>ze false (rows.getD i [])):=by
  intro m xs
  induction xs with
  |nil=>intro _;rfl
  |cons x xs ih =>
   intro hx;have hx0:=hx x (by simp);have e:rows[x]?=some (rows.getD x []):=by simp[Wq,hx0]
   have e1:Qq (own h rows) (m+2) (.ref (h.length+x))=some (ze false (rows.getD x [])):=by
    simp only[Qq,HN h rows x _ e,wm];have:(wF (λi=>MV.f (FV.int i)) (rows.getD x []))=((rows.getD x []).map FV.int).map MV.f:=by simp
    rw[this,E9];rfl
   simp only[Va,uq,e1,ih λi hi=>hx i (by simp[hi])];rfl
 unfold QP;simp only[Qq,Ll,wm];rw[hr 2 _ (by simp)];simp only[uh,ye,sq,Kc.injEq]
 congr 1
 apply xk;intro k;by_cases hk:k<rows.length
 ·simp[hk,Wq]
 ·simp[hk]
theorem YbU(rows):∀ a∈zt (own h rows) 5 (.ref (h.length+rows.length)),h.length<=a:=by
 intro a ha;simp only[zt,Ll,ux,Wb,Wm,Wd,Xo] at ha
 rcases ha with rfl|⟨m,⟨i,hi,rfl⟩,ha⟩
 ·lia
 ·have e:rows[i]?=some (rows[i]):=by simp[hi]
  simp only[zt,HN h rows i _ e,ux,Wb,Wm,Wd] at ha
  rcases ha with rfl|⟨m,⟨i,_,rfl⟩,ha⟩
  ·lia
  ·simp[zt] at ha
theorem ZcB(rows):∃ t',qN (.ref (h.length+rows.length)) (own h rows)=.ok (.f (ye false false rows)) (h++t'):=by
 obtain⟨t',e⟩:=NG h (rows.map oM++[.lst ((Vb rows.length).map λi=>MV.ref (h.length+i))]) (zt (own h rows) 5 (.ref (h.length+rows.length))) (YbU h rows);refine⟨t',?_⟩;unfold qN;rw[Zb6,qc];unfold own at e ⊢;rw[e]
noncomputable abbrev ya(p:Int×Int):FV:=.tup [.int p.1,.int p.2]
noncomputable abbrev sD(p:(Int×Int)×Int):FV:=.tup [ya p.1,.int p.2]
noncomputable def zr(rows:List (List Int))(ps:List ((Int×Int)×Int)):List (List Int):=ps.foldl (λrows p=>Zx rows p.1.1.toNat p.1.2.toNat p.2) rows
def Du(rows:List (List Int))(p:Int×Int):Prop:=0<=p.1/\p.1<rows.length/\0<=p.2/\∀ r∈rows,p.2<r.length
theorem YF(rows)(i j)(v):(Zx rows i j v).length=rows.length:=by simp[Zx]
theorem QM     (hr:r∈Zx rows i j v):r∈rows\/∃ r0∈rows,r=r0.set j v:=by
 unfold Zx at hr;obtain⟨k,hk⟩:=List.mem_iff_getElem?.mp hr;rw[uz] at hk;cases e:rows[k]? with
 |none=>rw[e] at hk;simp at hk
 |some r0 =>
  rw[e] at hk;have wM:(if i=k then r0.set j v else r0)=r:=by simpa using hk
  have hm:=We e;split at wM
  ·exact .inr ⟨r0,hm,wM.symm⟩
  ·exact .inl (wM ▸ hm)
theorem YbA     (g:Good most rows)(h0:0<=v)(h1:v<=most):Good most (Zx rows i j v):=by
 obtain⟨m1,ne,⟨w,w0,hw⟩,sh,sz⟩:=g;refine⟨m1,λe=>ne (vn (by rw[<- YF rows i j v,e];rfl)),⟨w,w0,λr hr=>?_⟩,λr hr x hx=>?_,by rw[YF];exact sz⟩
 ·rcases QM hr with hr|⟨r0,mj,rfl⟩
  ·exact hw r hr
  ·simp[hw r0 mj]
 ·rcases QM hr with hr|⟨r0,mj,rfl⟩
  ·exact sh r hr x hx
  ·rcases List.mem_or_eq_of_mem_set hx with hx|hx
   ·exact sh r0 mj x hx
   ·subst hx;exact⟨h0,h1⟩
theorem Yb0     (h:Du rows p):Du (Zx rows i j v) p:=by
 refine⟨h.1,by rw[YF];exact h.2.1,h.2.2.1,λr hr=>?_⟩
 rcases QM hr with hr|⟨r0,mj,rfl⟩
 ·exact h.2.2.2 r hr
 ·simp;exact h.2.2.2 r0 mj
theorem P0{α β γ:Type}(F:β×γ->α->β×γ)(G:β->α->β)(OB:∀ b a,(F b a).1=G b.1 a):∀(xs:List α)(z:β×γ),(xs.foldl F z).1=xs.foldl G z.1
 |[],z=>rfl
 |x::xs,z=>by rw[Uk,Uk,P0 F G OB xs,OB]
end
@[simp] theorem CU(xs:List MV)(t:MH):Ze (.lst xs::t) 0=some xs:=rfl
@[simp] theorem Qc2(xs ys:List MV)(t:MH):Zd (.lst xs::t) 0 ys=.lst ys::t:=rfl
noncomputable def qR(ns:List Int)(k:Int):Int:=if ns=[] then 0 else ns.getD (k%ns.length).toNat 0
noncomputable def mH(ns:List Int)(k:Int):Int:=((qR ns k%2147483647+k*k*7919+11)*48271%2147483647)*((qR ns k%2147483647+k*k*7919+11)*48271%2147483647)%1999999973
theorem Dc(ns)(k):0<=mH ns k/\mH ns k<1999999973:=⟨Ur _ (by decide),vo _ (by decide)⟩
noncomputable abbrev atC(k:Int):Cell:=.lst [I k]
theorem Zs  (h:j.natAbs<2^64):pE i j:=.inr (.inl h)
section
variable {h:MH}
@[simp] theorem zcY(a:Nat)(y:MV):l0 "append" (.ref a) [y] h=opt (Ze h a) λxs=>if xs.length<aD then .ok (.f .bh) (Zd h a (xs++[y])) else .stuck:=rfl
@[simp] theorem qc0(a:Nat)(i:Int)(y:MV):l0 "insert" (.ref a) [.f (.int i),y] h=opt (Ze h a) λxs=>if xs.length<aD/\-(2^63)<=i/\i<2^63 then .ok (.f .bh) (Zd h a (YI xs i y)) else .stuck:=rfl
end
theorem qbC  (N)(Pv:Nat->aI->MH->Prop)(σ)(h)(h0:Pv 0 σ h)
  (step:∀ i σ h,i<N->Pv i σ h->∃ σ' h',bd (I i) σ h=.next σ' h'/\Pv (i+1) σ' h'):∃ σ' h',qy [] bd ((Vb N).map λ(k:Nat)=>I k) σ h=.next σ' h'/\Pv N σ' h':=by
 have:=HM (bd:=bd) (e:=λk:Nat=>I k) Pv (Vb N) 0 σ h h0 (λj y σ h hj pj=>by
  have hl:j<N:=by have:=(xa.mp hj).1;simpa using this
  have hy:y=j:=by rw[xo hl] at hj;exact(Kc.inj hj).symm
  subst hy;simp only[Xt] at pj ⊢;exact step y σ h hl pj)
 simpa using this
def Own(h g:MH)(xs:List MV):Prop:=∃ t,g=h++.lst xs::t
namespace Own
variable {h g:MH} {xs:List MV}
theorem new(h):Own h (h++[.lst xs]) xs:=⟨[],rfl⟩
theorem cell(o:Own h g xs)(c):Ze (c::g) (h.length+1)=some xs:=by
 obtain⟨t,rfl⟩:=o;have:=yf (c::h) t xs;simpa using this
theorem more(o:Own h g xs)(ds):Own h (g++ds) xs:=by
 obtain⟨t,rfl⟩:=o;exact⟨t++ds,by simp⟩
theorem set(o:Own h g xs)(c)(ys):∃ g',Zd (c::g) (h.length+1) ys=c::g'/\Own h g' ys:=by
 obtain⟨t,rfl⟩:=o;exact⟨h++.lst ys::t,by have:=qg (c::h) t xs ys;simpa using this,t,rfl⟩
theorem eO  (o:Own h g (ys.map .f))(c):∃ t',qN (.ref (h.length+1)) (c::g)=.ok (.f (.lst ys)) (c::(h++t')):=by
 obtain⟨t,rfl⟩:=o;obtain⟨t',e⟩:=Eh (c::h) t ys;exact⟨t',by simpa using e⟩
end Own
theorem mod_lt(i j:Int)(hj:0<j):0<=i%j/\i%j<j:=⟨Ur _ (by lia),vo _ hj⟩
theorem OZ(a b c d e f)(i)(hi:0<=i)(hj:i<6):∃ v∈[a,b,c,d,e,f],dR [a,b,c,d,e,f] i=some v:=by
 have:i=0\/i=1\/i=2\/i=3\/i=4\/i=5:=by lia
 rcases this with rfl|rfl|rfl|rfl|rfl|rfl
 ·exact⟨a,by simp,rfl⟩
 ·exact⟨b,by simp,rfl⟩
 ·exact⟨c,by simp,rfl⟩
 ·exact⟨d,by simp,rfl⟩
 ·exact⟨e,by simp,rfl⟩
 ·exact⟨f,by simp,rfl⟩
theorem YbY(ns)(hn:ns≠[])(k):dR (ns.map λi=>MV.f (.int i)) (k%ns.length)=some (I (qR ns k)):=by
 have hl:0<ns.length:=Wo.mpr hn;have h0:0<=k%(ns.length:Int):=Ur _ (by lia);have h1:k%(ns.length:Int)<ns.length:=vo _ (by lia);rw[FT _ _ h0,Xc,xc (by lia)];simp[qR,hn,Wq,xc (show(k%(ns.length:Int)).toNat<ns.length by lia)]
def Nx(r:RS)(P:aI->MH->Prop):Prop:=∃ σ h,r=.next σ h/\P σ h
def fi(r:R MV)(P:MV->MH->Prop):Prop:=∃ v h,r=.ok v h/\P v h
@[simp] theorem Fx(σ:aI)(h:MH)(P:aI->MH->Prop):Nx (.next σ h) P↔P σ h:=⟨λ⟨_,_,e,p⟩=>by cases e;exact p,λp=>⟨_,_,rfl,p⟩⟩
@[simp] theorem K7(v:MV)(h:MH)(P:MV->MH->Prop):fi (.ok v h) P↔P v h:=⟨λ⟨_,_,e,p⟩=>by cases e;exact p,λp=>⟨_,_,rfl,p⟩⟩
section
variable {bd:MV->aI->MH->RS} {σ:aI} {h:MH} {k:aI->MH->RS}
theorem yx{Q:RS->Prop}(N:Nat)(Pv:Nat->aI->MH->Prop)(h0:Pv 0 σ h)(step:∀ i σ h,i<N->Pv i σ h->∀ Q:aI->MH->Prop,(∀ σ h,Pv (i+1) σ h->Q σ h)->Nx (bd (I i) σ h) Q)
  (fin:∀ σ' h',Pv N σ' h'->Q (k σ' h')):Q ((qy [] bd ((Vb N).map λ(k:Nat)=>I k) σ h).bind k):=by
 obtain⟨σ',h',e,p⟩:=qbC N Pv σ h h0 λi σ h hi p=>step i σ h hi p _ λ_ _ x=>x;rw[e];exact fin σ' h' p
theorem QN{α:Type}{e:α->MV}{Q:RS->Prop}(ys:List α)(Pv:Nat->aI->MH->Prop)(h0:Pv 0 σ h)(step:∀ i y σ h,ys[i]?=some y->Pv i σ h->∀ Q:aI->MH->Prop,(∀ σ h,Pv (i+1) σ h->Q σ h)->Nx (bd (e y) σ h) Q)
  (fin:∀ σ' h',Pv ys.length σ' h'->Q (k σ' h')):Q ((qy [] bd (ys.map e) σ h).bind k):=by
 obtain⟨σ',h',e,p⟩:=HM (bd:=bd) (e:=e) Pv ys 0 σ h h0 (λj y σ h hj pj=>by simp only[Xt] at pj ⊢;exact step j y σ h hj pj _ λ_ _ x=>x);rw[e];exact fin σ' h' (by simpa using p)
end
theorem fi.of   (k:∀ Q:MV->MH->Prop,(∀ v h,P v h->Q v h)->fi r Q):fi r P:=k P λ_ _ x=>x
theorem fi.eq    (k:∀ Q:MV->MH->Prop,(∀ v h,v=a/\h=b->Q v h)->fi r Q):r=.ok a b:=by
 obtain⟨v,h,e,rfl,rfl⟩:=k (λv h=>v=a/\h=b) λ_ _ x=>x;exact e
theorem zb1(c)(g)(d):kill [g.length+1] (c::(g++[d]))=c::(g++[.dead]):=by
 unfold kill;refine xk λi=>?_;rw[Up];cases i with
 |zero=>simp
 |succ i =>
  simp only[vC,vc]
  rcases Nat.lt_trichotomy i g.length with hi|hi|hi
  ·rw[ub hi,ub hi];have:¬ i+1=g.length+1:=by lia
   simp only[this,if_false];cases g[i]? <;> rfl
  ·subst hi;simp
  ·rw[wy (by simp;lia),wy (by simp;lia)];rfl
theorem Zb7(c)(g)(ys):qN (.ref (g.length+1)) (c::(g++[.lst (ys.map .f)]))=.ok (.f (.lst ys)) (c::(g++[.dead])):=by
 rw[HJ _ _ ys ((Own.new (xs:=ys.map .f) g).cell c),zb1]
theorem Zci(c)(g)(xs ys):Zd (c::(g++[.lst xs])) (g.length+1) ys=c::(g++[.lst ys]):=by
 have:=qg (c::g) [] xs ys;simpa using this
theorem Za1{α:Type}(f:α->MV)(xs:List α)(i)(y:α):YI (xs.map f) i (f y)=((xs.take (oW xs.length 0 (some i)))++y::xs.drop (oW xs.length 0 (some i))).map f:=by
 simp[YI]
section
variable {h:MH} (sub:String->String->Option Bool) (t:String)
@[simp] theorem BR:YN sub h (.f .bh) t=some false:=rfl
@[simp] theorem EC(b:Bool):YN sub h (.f (.bl b)) t=some (decide (t="bool")||decide (t="int")):=rfl
@[simp] theorem BU(i:Int):YN sub h (.f (.int i)) t=some (decide (t="int")):=rfl
@[simp] theorem BP(s:Str):YN sub h (.f (.str s)) t=some (decide (t="str")):=rfl
@[simp] theorem BN(xs:List FV):YN sub h (.f (.tup xs)) t=some (decide (t="tuple")):=rfl
@[simp] theorem BS(xs:List FV):YN sub h (.f (.lst xs)) t=some (decide (t="list")):=rfl
@[simp] theorem BQ(c:String)(ns:List String)(xs:List FV):YN sub h (.f (.obj c ns xs)) t=sub c t:=rfl
end
noncomputable def jY:Nat->FV->Bool
 |_+1,.bh=>true
 |_+1,.int _=>true
 |_+1,.str s=>AG s
 |n+1,.tup xs=>decide (xs.length<=aD)&&xs.all (jY n)
 |n+1,.lst xs=>decide (xs.length<=aD)&&xs.all (jY n)
 |_,_=>false
@[simp] theorem JO(a b:Bool):ly (.bl a) (.bl b)=some (a==b):=by simp[ly,fO]
theorem Fu{α:Type}:∀ xs:List α,xs.zip xs=xs.map λx=>(x,x)
 |[]=>rfl
 |x::r=>by simp[Fu r]
structure Drawn (most:Int) (rows:List (List Int)) (i j:Nat):Prop where
 len:rows.length=i
 sJ:∀ r∈rows,r.length=j
 sh:∀ r∈rows,∀ v∈r,0<=v/\v<=most
theorem Qck(b1 b2)(rows)(h1:rows.length<=1000)(h2:∀ r∈rows,r.length<=1000):jY 3 (ye b1 b2 rows)=true:=by
 have hz:(1000:Nat)<=aD:=by decide
 have hr:∀ r∈rows,jY 2 (ze b2 r)=true:=λr hr=>by
  have:=xf (h2 r hr) hz;cases b2 <;> simp[ze,sq,jY,this]
 have:=xf h1 hz;cases b1 <;> simp[ye,sq,jY,this] <;> exact hr
theorem qcN(xs ys)(h)(c:xs.length+ys.length<=aD):qh true .add (.f (.lst xs)) (.f (.lst ys)) h=.ok (.f (.lst (xs++ys))) h:=by
 have:Yq true (xs.map MV.f++ys.map MV.f) h=.ok (.f (.lst (xs++ys))) h:=by rw[<- ud,Zc]
 simp[qh,c,this]
theorem qcn(xs ys)(h)(c:xs.length+ys.length<=1000):qh true .add (.f (.lst xs)) (.f (.lst ys)) h=.ok (.f (.lst (xs++ys))) h:=qcN xs ys h (xf c (by decide))
end MP
end
section
namespace MP
open PySem
section
variable {h:MH}
@[simp] theorem QcV(a:Nat)(z:MV):l0 "extend" (.ref a) [z] h=opt (Ze h a) λxs=>opt (listOf h z) λys=>if xs.length+ys.length<=aD then .ok (.f .bh) (Zd h a (xs++ys)) else .stuck:=rfl
@[simp] theorem Ew(a:Nat):l0 "pop" (.ref a) [] h=opt (Ze h a) λxs=>opt (xs[xs.length-1]?) λy=>.ok y (Zd h a (xs.take (xs.length-1))):=rfl
@[simp] theorem Mb(a:Nat)(i:Int):l0 "pop" (.ref a) [.f (.int i)] h=opt (Ze h a) λxs=>opt (jX xs.length i) λk=>opt (xs[k]?) λy=>if -(2^63)<=i/\i<2^63 then .ok y (Zd h a (xs.take k++xs.drop (k+1))) else .stuck:=rfl
end
theorem NX   (N)(Pv:Nat->aI->MH->Prop)(step:∀ i σ h,i<N->Pv i σ h->∃ h1 σ' h',c σ h=.ok (B true) h1/\bd σ h1=.next σ' h'/\Pv (i+1) σ' h')
  (fin:∀ σ h,Pv N σ h->c σ h=.ok (B false) h):∀(fuel i:Nat)(σ:aI)(h:MH),i<=N->N<fuel+i->Pv i σ h->∃ σ' h',yI c bd fuel σ h=.next σ' h'/\Pv N σ' h'
 |0,i,σ,h,h1,h2,_=>by lia
 |fuel+1,i,σ,h,h1,h2,p=>by
  by_cases hi:i=N
  ·subst hi;exact⟨σ,h,by simp[yI,fin σ h p],p⟩
  ·obtain⟨h1,σ',h',e1,e2,p'⟩:=step i σ h (by lia) p;obtain⟨σ2,h2,e3,p2⟩:=NX N Pv step fin fuel (i+1) σ' h' (by lia) (by lia) p';exact⟨σ2,h2,by simp[yI,e1,e2,e3],p2⟩
theorem F7{c:aI->MH->R MV}{bd:aI->MH->RS}{σ:aI}{h:MH}{k:aI->MH->RS}{Q:RS->Prop}{fuel:Nat}(N:Nat)(Pv:Nat->aI->MH->Prop)(hf:N<fuel)(h0:Pv 0 σ h)
  (step:∀ i σ h,i<N->Pv i σ h->c σ h=.ok (B true) h/\∀ Q:aI->MH->Prop,(∀ σ h,Pv (i+1) σ h->Q σ h)->Nx (bd σ h) Q)
  (fin:∀ σ h,Pv N σ h->c σ h=.ok (B false) h) (go:∀ σ h,Pv N σ h->Q (k σ h)):Q ((yI c bd fuel σ h).bind k):=by
 obtain⟨σ',h',e,p⟩:=NX (c:=c) (bd:=bd) N Pv (λi σ h hi p=>by
  obtain⟨e1,st⟩:=step i σ h hi p;obtain⟨σ',h',e2,p'⟩:=st _ λ_ _ x=>x;exact⟨h,σ',h',e1,e2,p'⟩) fin fuel 0 σ h (xl _) (by lia) h0
 rw[e];exact go σ' h' p
section
variable {most:Int} {rows r1 r2:List (List Int)} {H W:Nat}
theorem Drawn.cons(d:Drawn most rows H W)(hH:1<=H):∃ r rs,rows=r::rs/\r.length=W/\rs.length+1=H:=by
 cases rows with
 |nil=>have:=d.len;simp at this;lia
 |cons r rs=>exact⟨r,rs,rfl,d.sJ r (by simp),by have:=d.len;simpa using this⟩
end
theorem ybp    (e:Ze h a=some xs):aX [(a,xs)] h:=λp hp=>by simp at hp;subst hp;exact e
theorem Ybv{α:Type}{bd:MV->aI->MH->R (Option MV×aI)}{h:MH}{G:zG}{e g:α->MV}{caps:aI}(hg:aX G h):∀(ys:List α)(acc:List MV)(z:Option MV),acc.length+ys.length<=aD ->
  (∀ y∈ys,∀ z,∃ z',bd (e y) (z::caps) h=.ok (some (g y),z'::caps) h)->Qj G bd (ys.map e) acc (z::caps) h=.ok (acc++ys.map g) h
 |[],acc,z,_,_=>by simp[Qj,hg]
 |y::r,acc,z,hl,hb=>by
  obtain⟨z',e1⟩:=hb y (by simp) z;simp only[Vc] at hl;have ih:=Ybv (bd:=bd) (e:=e) (g:=g) (caps:=caps) hg r (acc++[g y]) z' (by simp;lia) λy hy=>hb y (by simp[hy]);simp only[Va,Qj,hg,true_and,e1,R.aH,ih];rw[if_pos (by lia)];simp
noncomputable abbrev Za(p:Nat×Nat):FV:=.tup [.int p.1,.int p.2]
theorem P8{α:Type}{bd:MV->aI->MH->R (Option MV×aI)}{h:MH}{G:zG}{e g:α->MV}{caps:aI}(hg:aX G h):∀(ys:List α)(acc:List MV)(z w:Option MV),acc.length+ys.length<=aD ->
  (∀ y∈ys,∀ z w,∃ z' w',bd (e y) (z::w::caps) h=.ok (some (g y),z'::w'::caps) h)->Qj G bd (ys.map e) acc (z::w::caps) h=.ok (acc++ys.map g) h
 |[],acc,z,w,_,_=>by simp[Qj,hg]
 |y::r,acc,z,w,hl,hb=>by
  obtain⟨z',w',e1⟩:=hb y (by simp) z w;simp only[Vc] at hl;have ih:=P8 (bd:=bd) (e:=e) (g:=g) (caps:=caps) hg r (acc++[g y]) z' w' (by simp;lia) λy hy=>hb y (by simp[hy]);simp only[Va,Qj,hg,true_and,e1,R.aH,ih];rw[if_pos (by lia)];simp
structure vN (most:Int) (mh:List Int):Prop where
 up:mh.Pairwise (· < ·)
 i6:∀ v∈mh,0<=v/\v<=most
 z:0∈mh
 m:most∈mh
 sz:mh.length<=50
theorem ML{α:Type}{bd:MV->aI->MH->R (Option MV×aI)}{h:MH}{G:zG}{e g:α->MV}{t:α->Bool}{caps:aI}(hg:aX G h):∀(ys:List α)(acc:List MV)(z:Option MV),acc.length+ys.length<=aD ->
  (∀ y∈ys,∀ z,∃ z',bd (e y) (z::caps) h=.ok (if t y=true then some (g y) else none,z'::caps) h)->Qj G bd (ys.map e) acc (z::caps) h=.ok (acc++(ys.filter t).map g) h
 |[],acc,z,_,_=>by simp[Qj,hg]
 |y::r,acc,z,hl,hb=>by
  obtain⟨z',e'⟩:=hb y (by simp) z;simp only[Vc] at hl;have ih:=λfb (tY:fb.length+r.length<=aD)=>ML (bd:=bd) (e:=e) (g:=g) (t:=t) (caps:=caps) hg r fb z' tY (λy hy z=>hb y (by simp[hy]) z);cases ht:t y with
  |true =>
   simp[ht] at e';simp[Qj,hg,e',ih (acc++[g y]) (by simp;lia),ht]
   lia
  |false =>
   simp[ht] at e';simp[Qj,hg,e',ih acc (by lia),ht]
   lia
theorem MD{α:Type}{G:zG}{bd:MV->aI->MH->RS}{e:α->MV}{c:String}(Pv:Nat->aI->MH->Prop)(Xh:MH->Prop)(hG:∀ i σ h,Pv i σ h->aX G h):∀(ys:List α)(i:Nat)(σ:aI)(h:MH),Pv i σ h ->
  (∀ j y σ h,ys[j]?=some y->Pv (i+j) σ h->(∃ σ' h',bd (e y) σ h=.next σ' h'/\Pv (i+j+1) σ' h')\/∃ h',bd (e y) σ h=.exc c h'/\Xh h') ->
  (∃ σ' h',qy G bd (ys.map e) σ h=.next σ' h'/\Pv (i+ys.length) σ' h')\/∃ h',qy G bd (ys.map e) σ h=.exc c h'/\Xh h'
 |[],i,σ,h,p,_=>.inl ⟨σ,h,by simp[qy,hG i σ h p],p⟩
 |y::r,i,σ,h,p,hb=>by
  rcases hb 0 y σ h rfl p with ⟨σ1,h1,e1,p1⟩|⟨h1,e1,x1⟩
  ·rcases MD (G:=G) (bd:=bd) (e:=e) (c:=c) Pv Xh hG r (i+1) σ1 h1 p1 (λj y σ h hj pj=>by
    have:=hb (j+1) y σ h (by simpa using hj) (by rw[show i+(j+1)=i+1+j by lia];exact pj)
    rwa [show i+(j+1)+1=i+1+j+1 by lia] at this) with ⟨σ2,h2,e2,p2⟩|⟨h2,e2,x2⟩
   ·refine .inl ⟨σ2,h2,by simp[qy,hG i σ h p,e1,e2],?_⟩
    rwa [show i+(y::r).length=i+1+r.length by simp;lia]
   ·exact .inr ⟨h2,by simp[qy,hG i σ h p,e1,e2],x2⟩
  ·exact .inr ⟨h1,by simp only[Va,qy,hG i σ h p,if_true,e1];rfl,x1⟩
theorem QbH{α:Type}{G:zG}{bd:MV->aI->MH->RS}{e:α->MV}{c:String}{σ:aI}{h:MH}{k:aI->MH->RS}{Q:RS->Prop}(ys:List α)(Pv:Nat->aI->MH->Prop)(Xh:MH->Prop)(hG:∀ i σ h,Pv i σ h->aX G h)(h0:Pv 0 σ h)
  (step:∀ i y σ h,ys[i]?=some y->Pv i σ h->(∃ σ' h',bd (e y) σ h=.next σ' h'/\Pv (i+1) σ' h')\/∃ h',bd (e y) σ h=.exc c h'/\Xh h')
  (fin:∀ σ' h',Pv ys.length σ' h'->Q (k σ' h')) (bad:∀ h',Xh h'->Q (.exc c h')):Q ((qy G bd (ys.map e) σ h).bind k):=by
 rcases MD (G:=G) (bd:=bd) (e:=e) (c:=c) Pv Xh hG ys 0 σ h h0 (λj y σ h hj pj=>by simp only[Xt] at pj ⊢;exact step j y σ h hj pj) with ⟨σ',h',e1,p⟩|⟨h',e1,x⟩
 ·rw[e1];exact fin σ' h' (by simpa using p)
 ·rw[e1];exact bad h' x
def R4(c:String)(r:RS)(P:aI->MH->Prop)(X:MH->Prop):Prop:=(∃ σ h,r=.next σ h/\P σ h)\/∃ h,r=.exc c h/\X h
def R5(c:String)(r:R MV)(P:MV->MH->Prop)(X:MH->Prop):Prop:=(∃ v h,r=.ok v h/\P v h)\/∃ h,r=.exc c h/\X h
@[simp] theorem Dv(c:String)(σ:aI)(h:MH)(P:aI->MH->Prop)(X:MH->Prop):R4 c (.next σ h) P X↔P σ h:=⟨λz=>by rcases z with ⟨_,_,e,p⟩|⟨_,e,_⟩ <;> cases e;exact p,λp=>.inl ⟨_,_,rfl,p⟩⟩
@[simp] theorem FA(c:String)(h:MH)(P:aI->MH->Prop)(X:MH->Prop):R4 c (.exc c h) P X↔X h:=⟨λz=>by rcases z with ⟨_,_,e,_⟩|⟨_,e,p⟩ <;> cases e;exact p,λp=>.inr ⟨_,rfl,p⟩⟩
@[simp] theorem Lq(c:String)(v:MV)(h:MH)(P:MV->MH->Prop)(X:MH->Prop):R5 c (.ok v h) P X↔P v h:=⟨λz=>by rcases z with ⟨_,_,e,p⟩|⟨_,e,_⟩ <;> cases e;exact p,λp=>.inl ⟨_,_,rfl,p⟩⟩
@[simp] theorem FC(c:String)(h:MH)(P:MV->MH->Prop)(X:MH->Prop):R5 c (.exc c h) P X↔X h:=⟨λz=>by rcases z with ⟨_,_,e,_⟩|⟨_,e,p⟩ <;> cases e;exact p,λp=>.inr ⟨_,rfl,p⟩⟩
noncomputable def Zi(H W:Nat):List (Nat×Nat):=(Vb H).flatMap λr=>(Vb W).map λc=>(r,c)
noncomputable def qU(H W:Nat):List (Nat×Nat):=(Vb H).flatMap λr=>(Vb W).map λc=>(r,if r%2=0 then c else W-1-c)
noncomputable def ZW(H W:Nat):List (Nat×Nat):=(Zi W H).map λp=>(p.2,p.1)
theorem zF(H W):(Zi H W).length=H*W:=by
 unfold Zi;rw[wA];simp only[wc,XH]
 induction H with
 |zero=>simp
 |succ H ih=>rw[Uv,ud,Xm,ih,Ws];simp
theorem PH(H W):(qU H W).length=H*W:=by
 rw[<- zF H W];unfold qU Zi;rw[wA,wA];simp
theorem Yct(H W):(ZW H W).length=H*W:=by unfold ZW;rw[wc,zF,ww]
theorem zbI(H W)(hW:1<=W):(Vb (H*W)).map (λk=>(k/W,k%W))=Zi H W:=by
 unfold Zi
 induction H with
 |zero=>simp
 |succ H ih =>
  rw[Ws,Nat.one_mul,List.range_add,ud,ih,Uv,WA,Ue]
  congr 1
  simp only[Xk,vx,xh];refine List.map_congr_left λj hj=>?_;have hj:=Xo.mp hj;simp only[Vz,Ju.injEq];rw[ww H W,Nat.mul_add_div (by lia),Nat.mul_add_mod,Nat.div_eq_of_lt hj,Vq hj];exact⟨by lia,rfl⟩
theorem Qb1(H W):(Zi H W).map (λp=>(p.1,if p.1%2=0 then p.2 else W-1-p.2))=qU H W:=by
 unfold Zi qU;rw[List.map_flatMap]
 congr 1
 funext r;rw[Ue];rfl
theorem Qcl(r W:Nat):((Vb W).map λc=>(r,c)).reverse=(Vb W).map λc=>(r,W-1-c):=by
 apply uC
 ·simp
 ·intro i h1 h2;simp at h1 h2;rw[List.getElem_reverse];simp
end MP
end
section
namespace MP
open PySem
noncomputable def fX(rows:List (List Int))(p:Int×Int):Int:=(rows.getD p.1.toNat []).getD p.2.toNat 0
theorem Di{most:Int}{rows:List (List Int)}{H W:Nat}(d:Drawn most rows H W){p:Int×Int}(h:0<=p.1/\p.1<H/\0<=p.2/\p.2<W):∃ r,rows[p.1.toNat]?=some r/\r[p.2.toNat]?=some (fX rows p)/\0<=fX rows p/\fX rows p<=most:=by
 have l1:p.1.toNat<rows.length:=by rw[d.len];lia
 have e1:rows[p.1.toNat]?=some rows[p.1.toNat]:=xc l1;have hm:=Uj l1;have l2:p.2.toNat<(rows[p.1.toNat]).length:=by rw[d.sJ _ hm];lia
 have e2:=xc l2;have es:fX rows p=(rows[p.1.toNat])[p.2.toNat]:=by simp[fX,Wq,e1,e2]
 exact⟨_,e1,by rw[es];exact e2,by rw[es];exact d.sh _ hm _ (Uj l2)⟩
end MP
end
section
namespace MP
noncomputable def cZ(c:Nat×Nat):Int×Int:=((c.1:Int),(c.2:Int))
theorem ybB(g t)(x):ym g (.f x) (g++t)=.ok (.f x) g:=by
 have tr:bZ g (g++t):=bZ.app g _;unfold ym;rw[if_pos tr];simp
end MP
end
section
namespace MP
open PySem
noncomputable def so(cs:List (Nat×Nat))(m:Nat):List (Nat×Nat) :=
 cs.map (λc=>(c.2,c.1))++cs.map (λc=>(m+c.1,c.2))++cs.map (λc=>(m+c.1,m+c.2))++cs.map (λc=>(m-1-c.2,2*m-1-c.1))
noncomputable def Zj:Nat->List (Nat×Nat)
 |0=>[(0,0)]
 |k+1=>so (Zj k) (2^k)
theorem FQ:∀(k:Nat),∀ c∈Zj k,c.1<2^k/\c.2<2^k
 |0,c,h=>by
  simp[Zj] at h;subst h;simp
 |k+1,c,h=>by
  have ih:=FQ k;have p:2^(k+1)=2*2^k:=by rw[UC,ww]
  have q:0<2^k:=Hu k;rw[p];simp only[Zj,so,vf,Wd] at h
  rcases h with ((⟨d,hd,rfl⟩|⟨d,hd,rfl⟩)|⟨d,hd,rfl⟩)|⟨d,hd,rfl⟩ <;> (have:=ih d hd;simp only;lia)
theorem KD:∀ k:Nat,(Zj k).length=4^k
 |0=>rfl
 |k+1=>by
  simp only[Zj,so,ue,wc,KD k,UC]
  lia
theorem zV{α:Type}{G:zG}{bd:MV->aI->MH->R (Option MV×aI)}{h:MH}{e g:α->MV}{t:α->Bool}(hg:aX G h)(Iv:aI->Prop):∀(ys:List α)(acc:List MV)(σ:aI),Iv σ->acc.length+ys.length<=aD ->
  (∀ y∈ys,∀ σ,Iv σ->∃ σ',bd (e y) σ h=.ok (if t y=true then some (g y) else none,σ') h/\Iv σ')->Qj G bd (ys.map e) acc σ h=.ok (acc++(ys.filter t).map g) h
 |[],acc,σ,_,_,_=>by simp[Qj,hg]
 |y::r,acc,σ,iv,hl,hb=>by
  obtain⟨σ',e',Of⟩:=hb y (by simp) σ iv;simp only[Vc] at hl;have c:aX G h/\acc.length<aD:=⟨hg,by lia⟩;rw[Va,Qj,if_pos c,e',R.aH];by_cases ht:t y=true
  ·simp only[ht,if_true];rw[zV hg Iv r _ σ' Of (by simp;lia) λz hz=>hb z (by simp[hz])];simp[Xx,ht]
  ·simp only[ht];have:=zV hg Iv r acc σ' Of (by lia) λz hz=>hb z (by simp[hz]);simp only[uj,if_false] at this ⊢;rw[this];simp[Xx,ht]
theorem zby  (h:ks.Nodup)(k):(Yo ks k).Nodup:=by
 unfold Yo;split
 ·exact h
 next n =>
  rw[Wl];refine⟨h,by simp,λa ha b hb=>?_⟩;rw[vc.mp hb]
  exactλe=>n (e ▸ ha)
theorem Qcg  :x∈Yo ks k↔x∈ks\/x=k:=by
 unfold Yo;split
 next m=>exact⟨.inl,λh=>h.elim id λe=>e ▸ m⟩
 next=>simp
theorem LY:∀(ms ks:List (Int×Int)),ks.Nodup->(ms.foldl Yo ks).Nodup
 |[],ks,h=>h
 |m::ms,ks,h=>LY ms _ (zby h m)
theorem NS:∀(ms ks:List (Int×Int)) (x:Int×Int),x∈ms.foldl Yo ks↔x∈ks\/x∈ms
 |[],ks,x=>by simp
 |m::ms,ks,x=>by
  rw[Uk,NS ms,Qcg];simp[or_assoc]
theorem DE   (h:c∈Zi H W):c.1<H/\c.2<W:=by
 unfold Zi at h;simp only[Wm,Wd,Xo] at h;obtain⟨r,hr,c',hc,rfl⟩:=h;exact⟨hr,hc⟩
theorem YcF   (h:c∈qU H W):c.1<H/\c.2<W:=by
 unfold qU at h;simp only[Wm,Wd,Xo] at h;obtain⟨r,hr,c',hc,rfl⟩:=h;refine⟨hr,?_⟩;simp only;split <;> lia
theorem ycH   (h:c∈ZW H W):c.1<H/\c.2<W:=by
 unfold ZW at h;obtain⟨d,hd,rfl⟩:=Wd.mp h;have:=DE hd;exact⟨this.2,this.1⟩
end MP
end
section
namespace MP
open PySem
theorem Zk{α β:Type}{f:α->β}:∀{l:List α},(∀ a∈l,∀ b∈l,f a=f b->a=b)->l.Nodup->(l.map f).Nodup
 |[],_,_=>by simp
 |a::l,h,n=>by
  rw[Vh] at n;rw[Va,Vh];refine⟨λm=>?_,Zk (λx hx y hy=>h x (by simp[hx]) y (by simp[hy])) n.2⟩;obtain⟨b,hb,e⟩:=Wd.mp m;have:=h b (by simp[hb]) a (by simp) e;exact n.1 (this ▸ hb)
theorem zX(H W:Nat)(hW:1<=W):(Zi H W).Nodup:=by
 rw[<- zbI H W hW];refine Zk (λa _ b _ e=>?_) List.nodup_range;simp only[Ju.injEq] at e;have h1:=Uy a W;have h2:=Uy b W;rw[e.1,e.2] at h1
 lia
theorem Qbu(H W:Nat)(hW:1<=W):(qU H W).Nodup:=by
 rw[<- Qb1 H W];refine Zk (λa ha b hb e=>?_) (zX H W hW);have h1:=DE ha;have h2:=DE hb;obtain⟨a1,a2⟩:=a;obtain⟨b1,b2⟩:=b;simp only[Ju.injEq] at e h1 h2 ⊢;obtain⟨rfl,e⟩:=e;refine⟨rfl,?_⟩;split at e <;> lia
theorem qby(H W:Nat)(hH:1<=H):(ZW H W).Nodup:=by
 unfold ZW;refine Zk (λa _ b _ e=>?_) (zX W H hH);simp only[Ju.injEq] at e;exact vv e.2 e.1
theorem PR:∀ k,(Zj k).Nodup
 |0=>by simp[Zj]
 |k+1=>by
  have ih:=PR k;have i6:=FQ k;have q:0<2^k:=Hu k;simp only[Zj,so];generalize 2^k=m at *;generalize Zj k=cs at *;have n1:(cs.map λc=>(c.2,c.1)).Nodup:=Zk (λa _ b _ e=>by simp only[Ju.injEq] at e;exact vv e.2 e.1) ih;have n2:(cs.map λc=>(m+c.1,c.2)).Nodup:=Zk (λa _ b _ e=>by simp only[Ju.injEq] at e;exact vv (by lia) e.2) ih;have n3:(cs.map λc=>(m+c.1,m+c.2)).Nodup:=Zk (λa _ b _ e=>by simp only[Ju.injEq] at e;exact vv (by lia) (by lia)) ih;have n4:(cs.map λc=>(m-1-c.2,2*m-1-c.1)).Nodup:=Zk (λa ha b hb e=>by
   have h1:=i6 a ha;have h2:=i6 b hb;simp only[Ju.injEq] at e;exact vv (by lia) (by lia)) ih
  refine Wl.mpr ⟨Wl.mpr ⟨Wl.mpr ⟨n1,n2,?_⟩,n3,?_⟩,n4,?_⟩
  ·intro x hx y hy e;obtain⟨a,ha,rfl⟩:=Wd.mp hx;obtain⟨b,hb,rfl⟩:=Wd.mp hy;have h1:=i6 a ha;simp only[Ju.injEq] at e
   lia
  ·intro x hx y hy e;obtain⟨b,hb,rfl⟩:=Wd.mp hy;have h2:=i6 b hb
   rcases vf.mp hx with hx|hx
   ·obtain⟨a,ha,rfl⟩:=Wd.mp hx;have h1:=i6 a ha;simp only[Ju.injEq] at e
    lia
   ·obtain⟨a,ha,rfl⟩:=Wd.mp hx;have h1:=i6 a ha;simp only[Ju.injEq] at e
    lia
  ·intro x hx y hy e;obtain⟨b,hb,rfl⟩:=Wd.mp hy;have h2:=i6 b hb
   rcases vf.mp hx with hx|hx
   ·rcases vf.mp hx with hx|hx
    ·obtain⟨a,ha,rfl⟩:=Wd.mp hx;have h1:=i6 a ha;simp only[Ju.injEq] at e
     lia
    ·obtain⟨a,ha,rfl⟩:=Wd.mp hx;have h1:=i6 a ha;simp only[Ju.injEq] at e
     lia
   ·obtain⟨a,ha,rfl⟩:=Wd.mp hx;have h1:=i6 a ha;simp only[Ju.injEq] at e
    lia
noncomputable def Q2(R:List (List Int))(p:Int×Int):Int:=(R.getD p.1.toNat []).getD p.2.toNat 0
theorem Zbu(R)(q p)(v)(hq:0<=q.1/\0<=q.2)(hp:0<=p.1/\0<=p.2)(ne:q≠p):Q2 (Zx R q.1.toNat q.2.toNat v) p=Q2 R p:=by
 unfold Q2 Zx;by_cases h:q.1.toNat=p.1.toNat
 ·have h2:q.2.toNat≠p.2.toNat:=λe=>ne (vv (by lia) (by lia));rw[h];simp only[Wq,VC];cases R[p.1.toNat]? with
  |none=>rfl
  |some r=>simp[we h2]
 ·simp[Wq,uz,h]
theorem ZbT(R)(p)(v)(hl:p.1.toNat<R.length)(hw:∀ r∈R,p.2.toNat<r.length):Q2 (Zx R p.1.toNat p.2.toNat v) p=v:=by
 unfold Q2 Zx;have e:R[p.1.toNat]?=some R[p.1.toNat]:=by simp[hl]
 have h2:=hw _ (Uj hl);simp[Wq,VC,e,h2]
theorem YQ:∀(ps:List ((Int×Int)×Int)) (R:List (List Int)) (p:Int×Int),(∀ q∈ps,0<=q.1.1/\0<=q.1.2)->(0<=p.1/\0<=p.2)->p∉ps.map (·.1)->Q2 (zr R ps) p=Q2 R p
 |[],R,p,_,_,_=>rfl
 |q::ps,R,p,h,hp,n=>by
  simp only[Va,Wb,not_or] at n;show Q2 (zr (Zx R q.1.1.toNat q.1.2.toNat q.2) ps) p=_;rw[YQ ps _ p (λx hx=>h x (by simp[hx])) hp n.2,Zbu R q.1 p q.2 (h q (by simp)) hp (Ke n.1)]
theorem RP(H W):∀(ps:List ((Int×Int)×Int)) (R:List (List Int)),R.length=H->(∀ r∈R,r.length=W)->(∀ q∈ps,0<=q.1.1/\q.1.1<H/\0<=q.1.2/\q.1.2<W)->(ps.map (·.1)).Nodup->∀ q∈ps,Q2 (zr R ps) q.1=q.2
 |[],R,_,_,_,_,q,hq=>by simp at hq
 |x::ps,R,hl,hw,h,nd,q,hq=>by
  rw[Va,Vh] at nd;have tY:(Zx R x.1.1.toNat x.1.2.toNat x.2).length=H:=by rw[YF];exact hl
  have hw':∀ r∈Zx R x.1.1.toNat x.1.2.toNat x.2,r.length=W:=λr hr=>by
   rcases QM hr with hr|⟨r0,mj,rfl⟩
   ·exact hw r hr
   ·simp;exact hw r0 mj
  show Q2 (zr (Zx R x.1.1.toNat x.1.2.toNat x.2) ps) q.1=q.2
  rcases Wb.mp hq with rfl|hq
  ·have hx:=h q (by simp);rw[YQ ps _ q.1 (λy hy=>by have:=h y (by simp[hy]);lia) (by lia) nd.1];exact ZbT R q.1 q.2 (by lia) (λr hr=>by rw[hw r hr];lia)
  ·exact RP H W ps _ tY hw' (λy hy=>h y (by simp[hy])) nd.2 q hq
theorem QU  (h:0<j)(h2:j<1073741824):xK i j:=⟨h,.inl h2⟩
noncomputable def Z7(acc:List (Int×Int))(s:Int):List (Int×Int):=match acc.getLast? with
 |some q=>if q.1=s then acc.dropLast++[(s,q.2+1)] else acc++[(s,1)]
 |none=>[(s,1)]
theorem yF(s):Z7 [] s=[(s,1)]:=rfl
theorem F3(a)(q)(s):Z7 (a++[q]) s=if q.1=s then a++[(s,q.2+1)] else a++[q]++[(s,1)]:=by
 simp[Z7]
noncomputable def dk(ss:List Int):List (Int×Int):=ss.foldl Z7 []
theorem HK(ss)(s):dk (ss++[s])=Z7 (dk ss) s:=by simp[dk]
noncomputable def Zp(st:List (Int×Int)):List Int:=st.flatMap λq=>va q.2.toNat q.1
theorem yM(a b):Zp (a++b)=Zp a++Zp b:=by simp[Zp]
def Yh(most:Int)(N:Nat)(st:List (Int×Int)):Prop:=(∀ q∈st,1<=q.2/\0<=q.1/\q.1<=most)/\(st.map (·.2)).sum=N
theorem zcg    (g:Yh most N st)  (h0:0<=s)(h1:s<=most):Yh most (N+1) (Z7 st s)/\Zp (Z7 st s)=Zp st++[s]/\(Z7 st s).length<=st.length+1:=by
 obtain⟨g1,g2⟩:=g
 rcases Wy st with rfl|⟨a,q,rfl⟩
 ·simp at g2;exact⟨⟨λq hq=>by simp[yF] at hq;subst hq;simp;lia,by simp[yF];lia⟩,by simp[yF,Zp],by simp[yF]⟩
 ·rw[xy] at *;rw[F3];have gq:=g1 q (by simp);simp only[ud,Va,Xl,Xm,xp,List.sum_nil] at g2;by_cases c:q.1=s
  ·rw[if_pos c];refine⟨⟨λp hp=>?_,?_⟩,?_,by simp⟩
   ·rcases vf.mp hp with hp|hp
    ·exact g1 p (by simp[hp])
    ·simp at hp;subst hp;simp;lia
   ·simp;lia
   ·rw[yM,yM,Vg]
    congr 1
    simp only[Zp,Xk,vx,xh];rw[show(q.2+1).toNat=q.2.toNat+1 by lia,List.replicate_succ',c]
  ·rw[if_neg c];refine⟨⟨λp hp=>?_,?_⟩,?_,by simp⟩
   ·rcases vf.mp hp with hp|hp
    ·exact g1 p hp
    ·simp at hp;subst hp;simp;lia
   ·simp;lia
   ·rw[yM];simp[Zp]
theorem Ru :∀(rs:List Int),(∀ s∈rs,0<=s/\s<=most)->Yh most rs.length (dk rs.reverse)/\Zp (dk rs.reverse)=rs.reverse/\(dk rs.reverse).length<=rs.length
 |[],h=>⟨⟨(λq hq=>by simp[dk] at hq),rfl⟩,rfl,by simp[dk]⟩
 |s::rs,h=>by
  obtain⟨i1,i2,i3⟩:=Ru rs λx hx=>h x (by simp[hx]);have hs:=h s (by simp);rw[Xp,HK];obtain⟨j1,j2,j3⟩:=zcg i1 hs.1 hs.2;exact⟨by simpa using j1,by rw[j2,i2],by simp;lia⟩
theorem Kx  (ss)(h:∀ s∈ss,0<=s/\s<=most):Yh most ss.length (dk ss)/\Zp (dk ss)=ss/\(dk ss).length<=ss.length:=by
 have:=Ru ss.reverse λs hs=>h s (by simpa using hs);simpa using this
theorem LL{most:Int}{N:Nat}:∀{st:List (Int×Int)},(∀ q∈st,1<=q.2)->((Zp st).length:Int)=(st.map (·.2)).sum
 |[],_=>rfl
 |q::st,h=>by
  have ih:=LL (most:=most) (N:=N) (st:=st) λp hp=>h p (by simp[hp]);have:=h q (by simp);simp only[Zp,Xk,ue,vk,Va,xp] at ih ⊢;push_cast;rw[ih];lia
theorem Qcn   (h:x∈Zp st):∃ q∈st,x=q.1:=by
 simp only[Zp,Wm] at h;obtain⟨q,hq,h⟩:=h;exact⟨q,hq,wl h⟩
noncomputable def sx(m:Int)(q:Int×Int):List (Int×Int):=if 1+m%q.2<q.2 then[(q.1,1+m%q.2),(q.1,q.2-(1+m%q.2))] else[(q.1,1+m%q.2)]
noncomputable def Qs(m:Int)(st:List (Int×Int)):List (Int×Int):=st.flatMap (sx m)
theorem YW   (h:1<=q.2):(∀ p∈sx m q,1<=p.2/\p.1=q.1)/\((sx m q).map (·.2)).sum=q.2/\Zp (sx m q)=va q.2.toNat q.1/\(sx m q).length<=2:=by
 have b:=Ur m (show q.2≠0 by lia);have b2:=vo m (show 0<q.2 by lia);unfold sx;split
 next c =>
  refine⟨λp hp=>?_,by simp;lia,?_,by simp⟩
  ·simp at hp;rcases hp with rfl|rfl <;> simp <;> lia
  ·simp only[Zp,Xk,vx,xh,List.replicate_append_replicate]
   congr 1;lia
 next c =>
  have e:1+m%q.2=q.2:=by lia
  refine⟨λp hp=>?_,by simp;lia,?_,by simp⟩
  ·simp at hp;subst hp;simp;lia
  ·simp only[Zp,Xk,vx,xh];rw[e]
theorem Zcf     (g:Yh most N st):Yh most N (Qs m st)/\Zp (Qs m st)=Zp st/\(Qs m st).length<=2*st.length:=by
 obtain⟨g1,g2⟩:=g;refine⟨⟨λp hp=>?_,?_⟩,?_,?_⟩
 ·obtain⟨q,hq,hp⟩:=Wm.mp hp;have k:=(YW (m:=m) (g1 q hq).1).1 p hp;have:=g1 q hq;rw[k.2];exact⟨k.1,this.2⟩
 ·rw[<- g2];clear g2
  induction st with
  |nil=>rfl
  |cons q st ih =>
   simp only[Qs,Xk,ud,Xm,Va,xp] at ih ⊢;rw[(YW (m:=m) (g1 q (by simp)).1).2.1,ih λp hp=>g1 p (by simp[hp])]
 ·clear g2
  induction st with
  |nil=>rfl
  |cons q st ih =>
   have:=ih λp hp=>g1 p (by simp[hp]);simp only[Qs,Xk] at this ⊢;rw[yM,(YW (m:=m) (g1 q (by simp)).1).2.2.1,this];simp[Zp]
 ·clear g2
  induction st with
  |nil=>simp[Qs]
  |cons q st ih =>
   have:=ih λp hp=>g1 p (by simp[hp]);have:=(YW (m:=m) (g1 q (by simp)).1).2.2.2;simp only[Qs,Xk,ue,Vc] at *
   lia
noncomputable def Zn(rows:List (List Int))(cs:List (Nat×Nat))(H W:Nat):List (List Int):=(Vb H).map λr=>(Vb W).map λc=>fX rows (cZ (r,c))*(if(r,c)∈cs then 1 else 0)
theorem Rc :∀(ps:List ((Int×Int)×Int)) (R:List (List Int)),R.length=H->(∀ r∈R,r.length=W)->(zr R ps).length=H/\∀ r∈zr R ps,r.length=W
 |[],R,hl,hw=>⟨hl,hw⟩
 |x::ps,R,hl,hw=>Rc ps (Zx R x.1.1.toNat x.1.2.toNat x.2) (by rw[YF];exact hl) λr hr=>by
  rcases QM hr with hr|⟨r0,mj,rfl⟩
  ·exact hw r hr
  ·simp;exact hw r0 mj
theorem QcB{R S:List (List Int)}{H W:Nat}(r1:R.length=H)(r2:∀ r∈R,r.length=W)(s1:S.length=H)(s2:∀ r∈S,r.length=W)(e:∀ r c:Nat,r<H->c<W->Q2 R (cZ (r,c))=Q2 S (cZ (r,c))):R=S:=by
 refine uC (by rw[r1,s1]) λr h1 h2=>?_;refine uC (by rw[r2 _ (Uj h1),s2 _ (Uj h2)]) λc k1 k2=>?_;have:=e r c (by lia) (by rw[<- r2 _ (Uj h1)];exact k1);simpa[Q2,cZ,Wq,h1,h2,k1,k2] using this
theorem ybq(rows:List (List Int))(H W:Nat)(cs:List (Nat×Nat))(hc:∀ c∈cs,c.1<H/\c.2<W)(nd:cs.Nodup) :
  zr (va H (va W 0)) ((cs.map cZ).zip (cs.map λc=>fX rows (cZ c)))=Zn rows cs H W:=by
 have ez:(cs.map cZ).zip (cs.map λc=>fX rows (cZ c))=cs.map λc=>(cZ c,fX rows (cZ c)):=by
  rw[List.zip_map']
 have zl:(va H (va W (0:Int))).length=H:=by simp
 have zw:∀ r∈va H (va W (0:Int)),r.length=W:=λr hr=>by rw[wl hr];simp
 rw[ez];have dm:=Rc (cs.map λc=>(cZ c,fX rows (cZ c))) _ zl zw;refine QcB dm.1 dm.2 (by simp[Zn]) (λr hr=>?_) λr c hr n9=>?_
 ·simp only[Zn,Wd] at hr;obtain⟨k,_,rfl⟩:=hr;simp
 ·have e2:Q2 (Zn rows cs H W) (cZ (r,c))=fX rows (cZ (r,c))*(if(r,c)∈cs then 1 else 0):=by
   simp[Q2,Zn,cZ,Wq,hr,n9]
  have inj:∀ a b:Nat×Nat,cZ a=cZ b->a=b:=λa b e=>by
   simp only[cZ,Ju.injEq] at e;exact vv (by lia) (by lia)
  have e0:((cs.map λc=>(cZ c,fX rows (cZ c))).map (·.1))=cs.map cZ:=by simp[Xf]
  rw[e2];by_cases q:(r,c)∈cs
  ·rw[if_pos q,uH];have:=RP H W (cs.map λc=>(cZ c,fX rows (cZ c))) _ zl zw (λx hx=>by
    obtain⟨y,hy,rfl⟩:=Wd.mp hx;have:=hc y hy;simp only[cZ];lia) (by rw[e0];exact Zk (λa _ b _ e=>inj a b e) nd) (cZ (r,c),fX rows (cZ (r,c))) (Wd.mpr ⟨_,q,rfl⟩)
   exact this
  ·rw[if_neg q,Int.mul_zero,YQ _ _ _ (λx hx=>by
    obtain⟨y,hy,rfl⟩:=Wd.mp hx;simp only[cZ];lia) (by simp only[cZ];lia) (by
    rw[e0];intro z;obtain⟨y,hy,e⟩:=Wd.mp z;rw[inj _ _ e] at hy;exact q hy)]
   simp[Q2,cZ,Wq,hr,n9]
section
variable (n:Nat) (h:MH)
theorem Qa1(b1 b2)(rows)(hl:rows.length<=aD):run prog (n+1) "own_rows" [.f (ye b1 b2 rows)] h=.ok (.f (ye true true rows)) h:=by
 simp[qb,QS,yu,ye,stM];rw[Qv (e:=MV.f∘ze b2) (g:=MV.f∘ze true) rows [] none (by simpa using hl) (λy _ z=>⟨_,by simp[zk,ze];exact⟨rfl,rfl⟩⟩)];simp[ye,ze,sq]
theorem YaC(most)(rows)(g:Good most rows):run prog (n+1) "fault_of" [.f (ye true true rows),I 0,I most] h=.ok (.f .bh) h:=by
 obtain⟨m1,ne,⟨w,w0,hw⟩,sh,sz⟩:=g;cases rows with
 |nil=>exact absurd rfl ne
 |cons r0 rs =>
  have mj:=hw r0 (by simp);have e1:¬ most<1:=by lia
  have e2:r0≠[]:=by intro e;subst e;simp at mj;lia
  have e7:Qa h (.f (ze true r0))=some (r0.map (MV.f∘FV.int)):=by simp[ze]
  simp[qb,qT,e1,ye,e7,e2];rw[<- Vz (f:=MV.f) (g:=ze true),<- Va (f:=MV.f∘ze true),Pe (e:=MV.f∘ze true) (st:=λz=>[some (.f (sq true (ze true r0::rs.map (ze true)))),some (I 0),some (I most),z]) (hp:=λ_=>h) (f:=λ_ r=>some (.f (ze true r))) _ none]
  ·simp
  ·intro r hr z;have e3:=hw r hr;have e4:r≠[]:=by intro e;subst e;simp at e3;lia
   have e5:¬ xQ r<0:=by have:=sh r hr _ (PJ e4);lia
   have e6:¬ most<C7 r:=by have:=sh r hr _ (Py e4);lia
   have q1:=Zcg true h (.f (ze true r)) r (by simp[ze]) e4;have q2:=qcj true h (.f (ze true r)) r (by simp[ze]) e4;have q3:Qa h (.f (ze true r))=some (r.map (MV.f∘FV.int)):=by simp[ze]
   simp[Qh,q1,q2,q3,e5,e6,e7,e3,mj]
theorem Qap(most)(b1 b2)(rows)(g:Good most rows):run prog (n+2) "Picture.__init__" [.ref h.length,I most,.f (ye b1 b2 rows)] (h++[.obj "Picture" []]) =
  .ok (.f .bh) (h++[.obj "Picture" [("most",I most),("rows",.f (ye true true rows))]]):=by
 have hz:rows.length<=aD:=xf g.sz (by decide);have t:=bZ.obj h "Picture" [("most",.int most),("rows",ye true true rows)] [];simp only[Va,Xl] at t;simp[qb n.succ,Yp,Qa1 _ _ b1 b2 rows hz,YaC _ _ most rows g,ym,t];exact Uw (by simp)
theorem yS(most)(b1 b2)(rows)(g:Good most rows):ZP prog (run prog (n+2)) true "Picture" [I most,.f (ye b1 b2 rows)] h=.ok (.f (yq most rows)) h:=by
 simp[ZP,Qap n h most b1 b2 rows g,bZ.app,yq,Zm]
theorem PB(m)(rows):run prog (n+1) "high" [.f (yq m rows)] h=.ok (I rows.length) h:=by
 simp[qb,DQ,yq,ye]
theorem NB(m)(r)(rows):run prog (n+1) "wide" [.f (yq m (r::rows))] h=.ok (I r.length) h:=by
 simp[qb,DJ,yq,ye,ze]
end
section
variable (n:Nat) (h:MH)
theorem LZ(m i j)(r)(rows):run prog (n+2) "has_cell" [.f (yq m (r::rows)),.f (.tup [.int i,.int j])] h=.ok (B (decide (0<=i/\i<rows.length+1/\0<=j/\j<r.length))) h:=by
 simp[qb n.succ,zR,PB,NB,Bool.and_assoc]
theorem qa1(m i j)(r)(rows):run prog (n+3) "ask_cell" [.f (yq m (r::rows)),.f (.tup [.int i,.int j])] h =
  if 0<=i/\i<rows.length+1/\0<=j/\j<r.length then .ok (.f .bh) h else .exc "OutOfPicture" h:=by
 by_cases c:0<=i/\i<rows.length+1/\0<=j/\j<r.length
 ·rw[if_pos c];simp[qb n.succ.succ,QH,LZ,c]
 ·rw[if_neg c];have:=LZ n h m i j r rows;rw[decide_eq_false c] at this;simp[qb n.succ.succ,QH,this]
end
noncomputable def zj(c:String):FV:=.obj c [] []
theorem ZK(h:MH)(a:Nat)(xs:List FV):l0 "extend" (.ref a) [.f (.lst xs)] h=opt (Ze h a) λys=>if ys.length+xs.length<=aD then .ok (.f .bh) (Zd h a (ys++xs.map .f)) else .stuck:=by
 have:l0 "extend" (.ref a) [.f (.lst xs)] h=opt (Ze h a) λys=>opt (listOf h (.f (.lst xs))) λzs=>if ys.length+zs.length<=aD then .ok (.f .bh) (Zd h a (ys++zs)) else .stuck:=rfl;rw[this];cases Ze h a with
 |none=>rfl
 |some ys=>simp
section
variable (n:Nat) (h:MH)
theorem Z0(xs:List FV):ym h (.ref h.length) (h++[.lst (xs.map .f)])=.ok (.ref h.length) (h++[.lst (xs.map .f)]):=by
 have cl:=yf h [] (xs.map MV.f);have tr:=bZ.app h [.lst (xs.map MV.f)];have ef:=Yy xs;generalize xs.map MV.f=M at *;simp[ym,cl,tr,ef]
theorem YJ(H W:Nat)(uN:H*W<=100000)(hW:W<=10000)(hH:H<=10000):run prog (n+1) "cells_by_rows" [I H,I W] h=.ok (.ref h.length) (h++[.lst (((Zi H W).map Za).map .f)]):=by
 refine fi.eq λQ hQ=>?_;rw[Yak];simp only[bR];simp[Zo _ (H:Int) (by lia)];refine yx (Q:=λr=>fi (yc _ r) _) H (λi σ hh=>∃(z3:Option MV),hh=h++[.lst (((Zi i W).map Za).map .f)]/\σ=[some (I H),some (I W),some (.ref h.length),z3]) ⟨none,by simp[Zi],rfl⟩ ?_ ?_
 ·rintro i σ hh oP ⟨z3,rfl,rfl⟩ Q hQ;have nx:((Zi (i+1) W).map Za).map MV.f=((Zi i W).map Za).map MV.f++(((Vb W).map λc=>Za (i,c)).map MV.f):=by
   unfold Zi;rw[Uv,WA,ud,ud];simp[Xf]
  simp only[nx] at hQ;have ml:(((Zi i W).map Za).map MV.f).length+((Vb W).map λc=>Za (i,c)).length<=aD:=by
   have:i*W<=H*W:=Wu _ (by lia);simp[zF,Yb];lia
  generalize ((Zi i W).map Za).map MV.f=M at *;have cl:=yf h [] M;have st:=λys=>qg h [] M ys;simp[Qh,cl,Zo _ (W:Int) (by lia),MP.stM];rw[Qv (e:=λk:Nat=>I k) (g:=λc=>MV.f (Za (i,c))) (Vb W) [] none (by simp[Yb];lia) (λc _ z=>⟨some (I c),by simp[zk]⟩)];have e2:(Vb W).map (λc=>MV.f (Za (i,c)))=((Vb W).map λc=>Za (i,c)).map MV.f:=by simp[Xf]
  simp only[Vf,R.aH,e2,Zc];generalize (Vb W).map (λc=>Za (i,c))=L at *;simp[ZK,cl,ml,st];exact hQ _ _ ⟨_,rfl,rfl⟩
 ·rintro σ hh ⟨z3,rfl,rfl⟩;have lv:=Z0 h ((Zi H W).map Za);generalize ((Zi H W).map Za).map MV.f=M at *;simp[lv];exact hQ _ _ ⟨rfl,rfl⟩
theorem Yk(a b:Int):run prog (n+1) "ask_size" [I a,I b] h=if 1<=a/\1<=b then .ok (.f .bh) h else .exc "OutOfPicture" h:=by
 rw[Za3];simp only[eF];by_cases c:1<=a
 ·by_cases c2:1<=b
  ·have e1:¬ a<1:=by lia
   have e2:¬ b<1:=by lia
   simp[c,c2,e1,e2]
  ·have e1:¬ a<1:=by lia
   have e2:b<1:=by lia
   simp[c2,e1,e2]
 ·have e1:a<1:=by lia
  simp[c,e1]
section
variable (w:MV) (H W:Nat) (h1:1<=H) (h2:1<=W) (uN:H*W<=100000) (hW:W<=10000) (hH:H<=10000)
include h1 h2 uN hW hH
theorem ZaN:run prog (n+2) "Way.order" [w,I H,I W] h=.ok (.ref h.length) (h++[.lst (((Zi H W).map Za).map .f)]):=by
 have A:=Yk n h H W;rw[if_pos (by lia)] at A;have C:=YJ n h H W uN hW hH;have lv:=Z0 h ((Zi H W).map Za);generalize ((Zi H W).map Za).map MV.f=M at *;rw[yaQ];simp only[dF];simp[A,C,lv]
theorem yaO:run prog (n+2) "FroWay.order" [w,I H,I W] h=.ok (.ref h.length) (h++[.lst (((qU H W).map Za).map .f)]):=by
 refine fi.eq λQ hQ=>?_;have A:=Yk n h H W;rw[if_pos (by lia)] at A;rw[Yal];simp only[ck];simp[A,Zo _ (H:Int) (by lia)];refine yx (Q:=λr=>fi (yc _ r) _) H (λi σ hh=>∃(z4 z5:Option MV),hh=h++[.lst (((qU i W).map Za).map .f)]/\σ=[some w,some (I H),some (I W),some (.ref h.length),z4,z5]) ⟨none,none,by simp[qU],rfl⟩ ?_ ?_
 ·rintro i σ hh oP ⟨z4,z5,rfl,rfl⟩ Q hQ;have nx:((qU (i+1) W).map Za).map MV.f=((qU i W).map Za).map MV.f++(((Vb W).map λc=>Za (i,if i%2=0 then c else W-1-c)).map MV.f):=by
   unfold qU;rw[Uv,WA,ud,ud];simp[Xf]
  simp only[nx] at hQ;have ml:(((qU i W).map Za).map MV.f).length+W<=aD:=by
   have:i*W<=H*W:=Wu _ (by lia);simp[PH,Yb];lia
  generalize ((qU i W).map Za).map MV.f=M at *;have cl:=yf h [] M;have st:=λys=>qg h [] M ys;have m2:∀ hh,qh true .mod (I i) (I 2) hh=.ok (I ((i:Int)%2)) hh:=λhh=>Zg _ _ _ (by decide);have hL:((Vb W).map λc=>Za (i,c)).length=W:=by simp
  have eR:((Vb W).map λc=>Za (i,c)).reverse=(Vb W).map λc=>Za (i,W-1-c):=by
   have:=congrArg (wF Za) (Qcl i W);rw[XI,Ue,Ue] at this;exact this
  simp[Qh,cl,Zo _ (W:Int) (by lia),MP.stM];rw[Qv (e:=λk:Nat=>I k) (g:=λc=>MV.f (Za (i,c))) (Vb W) [] none (by simp[Yb];lia) (λc _ z=>⟨some (I c),by simp[zk]⟩)];have e2:(Vb W).map (λc=>MV.f (Za (i,c)))=((Vb W).map λc=>Za (i,c)).map MV.f:=by simp[Xf]
  simp only[Vf,R.aH,e2,Zc];by_cases c:i%2=0
  ·have ci:¬((i:Int)%2=1):=by lia
   simp only[c,if_true] at hQ;generalize (Vb W).map (λc=>Za (i,c))=L at *;simp[m2,ci,ZK,cl,hL,ml,st];exact hQ _ _ ⟨_,_,rfl,rfl⟩
  ·have ci:((i:Int)%2=1):=by lia
   simp only[c,if_false] at hQ;rw[<- eR] at hQ;generalize (Vb W).map (λc=>Za (i,c))=L at *;have hLR:L.reverse.length=W:=by simp[hL]
   have eM:(L.map MV.f).reverse=L.reverse.map MV.f:=by rw[XI]
   generalize L.reverse=LR at *;simp[m2,ci,eM,ZK,cl,hLR,ml,st];exact hQ _ _ ⟨_,_,rfl,rfl⟩
 ·rintro σ hh ⟨z4,z5,rfl,rfl⟩;have lv:=Z0 h ((qU H W).map Za);generalize ((qU H W).map Za).map MV.f=M at *;simp[lv];exact hQ _ _ ⟨rfl,rfl⟩
theorem qaP:run prog (n+2) "ColumnWay.order" [w,I H,I W] h=.ok (.ref h.length) (h++[.lst (((ZW H W).map Za).map .f)]):=by
 refine fi.eq λQ hQ=>?_;have A:=Yk n h H W;rw[if_pos (by lia)] at A;have C:=YJ n h W H (by rw[ww];exact uN) hH hW;obtain⟨t',F⟩:=Eh h [] ((Zi W H).map Za);have gz:(Zi W H).length<=aD:=by rw[zF,ww,Yb];lia
 have eC:(Zi W H).map (λp=>MV.f (Za (p.2,p.1)))=((ZW H W).map Za).map MV.f:=by unfold ZW;simp[Xf]
 have hq:∀ hh,Qa hh (.f (.lst ((Zi W H).map Za)))=some ((Zi W H).map λp=>MV.f (Za p)):=λhh=>by simp[Xf]
 have gq:∀ hh,qe hh (.f (.lst ((Zi W H).map Za)))=[]:=λhh=>rfl;have lv:ym h (.ref (h++t').length) (h++t'++[.lst (((ZW H W).map Za).map .f)])=.ok (.ref h.length) (h++[.lst (((ZW H W).map Za).map .f)]):=by
  have cl:=yf (h++t') [] (((ZW H W).map Za).map MV.f);have tr:bZ h (h++t'++[.lst (((ZW H W).map Za).map MV.f)]):=by rw[Vg];exact bZ.app h _
  have ef:=Yy ((ZW H W).map Za);generalize ((ZW H W).map Za).map MV.f=M at *;have tk:(h++t'++[Cell.lst M]).take h.length=h:=by rw[Vg,xD];rfl
  unfold ym;rw[if_pos tr];simp only;rw[if_pos (by simp),cl];simp only[ef,tk]
 generalize hvl:FV.lst ((Zi W H).map Za)=vl at *;generalize hvm:((Zi W H).map Za).map MV.f=vm at *;rw[Z6];simp only[bF];simp[A,C,F,hq,gq,MP.stM];rw[qp (e:=λp:Nat×Nat=>MV.f (Za p)) (g:=λp=>MV.f (Za (p.2,p.1))) (caps:=[]) (Zi W H) [] none none (by simpa using gz) (λp _ z w=>⟨some (I p.1),some (I p.2),by simp[zk]⟩)];simp only[Vf,R.aH,eC,F4,Vg] at lv ⊢;generalize ((ZW H W).map Za).map MV.f=M at *;simp at lv;simp[lv];exact hQ _ _ ⟨rfl,rfl⟩
end
theorem Zcv(W:String->List MV->MH->R MV)(c)(hi:prog.meths c "__init__"=none):ZP prog W true c [] h=.ok (.f (zj c)) h:=by
 simp[ZP,hi,Zm,bZ.app,zj]
end
end MP
end
section
namespace MP
open PySem
theorem qb8(H W:Nat)(hH:H<=64)(hW:W<=64):∃ k,k<=6/\H<=2^k/\W<=2^k/\∀ i,i<k->2^i<H\/2^i<W:=by
 have key:∀ m,m<=6->(∀ i,i<m->2^i<H\/2^i<W)->∃ k,k<=6/\H<=2^k/\W<=2^k/\∀ i,i<k->2^i<H\/2^i<W:=by
  intro m
  induction h:6-m generalizing m with
  |zero=>intro hm hi;exact⟨6,by lia,by simpa using hH,by simpa using hW,λi q=>hi i (by lia)⟩
  |succ d ih =>
   intro hm hi;by_cases c:2^m<H\/2^m<W
   ·exact ih (m+1) (by lia) (by lia) λi q=>by
     rcases Nat.lt_succ_iff_lt_or_eq.mp q with q|rfl
     ·exact hi i q
     ·exact c
   ·exact⟨m,hm,by lia,by lia,hi⟩
 exact key 0 (by lia) λi q=>absurd q (by lia)
section
variable (n:Nat) (h:MH)
theorem Zaw(cs:List (Nat×Nat))(m:Nat)(hc:∀ c∈cs,c.1<m/\c.2<m)(hl:cs.length<=100000)(hm:m<=1000000):run prog (n+1) "folded_once" [.f (.lst (cs.map Za)),I m] h=.ok (.f (.lst ((so cs m).map Za))) h:=by
 have q:Qa h (.f (.lst (cs.map Za)))=some (cs.map λc=>MV.f (Za c)):=by simp[Xf]
 have g:qe h (.f (.lst (cs.map Za)))=[]:=rfl;have it:i5 "seq" [.f (.lst (cs.map Za))] h=some (cs.map λc=>MV.f (Za c),[]):=by simp only[yu,q,uh,g]
 have sz:cs.length<=aD:=by rw[Yb];lia
 have mu2:∀ hh,qh true .mul (I 2) (I (m:Int)) hh=.ok (I (2*(m:Int))) hh:=λhh=>qE _ _ _ (Zs (by lia));have N1:∀ f:Nat×Nat->Nat×Nat,Yq true (cs.map λc=>MV.f (Za (f c))) h=.ok (.f (.lst ((cs.map f).map Za))) h:=λf=>by
  have:=Zc (cs.map λc=>Za (f c)) (h:=h);simpa[Xf] using this
 have BA:∀ a b:List (Nat×Nat),a.length+b.length<=aD->qh true .add (.f (.lst (a.map Za))) (.f (.lst (b.map Za))) h=.ok (.f (.lst ((a++b).map Za))) h:=λa b hab=>by
  have:=Zc ((a++b).map Za) (h:=h);simp only[qh,yd,Yj,listOf,qc,wc];rw[if_pos hab,<- ud,<- ud];exact this
 have B1:=BA (cs.map λc=>(c.2,c.1)) (cs.map λc=>(m+c.1,c.2)) (by simp[Yb];lia);have B2:=BA (cs.map (λc=>(c.2,c.1))++cs.map (λc=>(m+c.1,c.2))) (cs.map λc=>(m+c.1,m+c.2)) (by simp[Yb];lia);have B3:=BA (cs.map (λc=>(c.2,c.1))++cs.map (λc=>(m+c.1,c.2))++cs.map (λc=>(m+c.1,m+c.2))) (cs.map λc=>(m-1-c.2,2*m-1-c.1)) (by simp[Yb];lia);have n1:=N1 λc=>(c.2,c.1);have n2:=N1 λc=>(m+c.1,c.2);have n3:=N1 λc=>(m+c.1,m+c.2);have n4:=N1 λc=>(m-1-c.2,2*m-1-c.1);have e0:so cs m=cs.map (λc=>(c.2,c.1))++cs.map (λc=>(m+c.1,c.2))++cs.map (λc=>(m+c.1,m+c.2))++cs.map (λc=>(m-1-c.2,2*m-1-c.1)):=rfl;rw[<- e0] at B3;generalize so cs m=out at *;generalize oQ:FV.lst (cs.map Za)=cl at *;rw[qaw];simp only[cH];simp[it,MP.stM];rw[qp (e:=λc=>MV.f (Za c)) (g:=λc=>MV.f (Za (c.2,c.1))) (caps:=[]) cs [] none none (by simpa using sz) (λc _ z w=>⟨some (I c.1),some (I c.2),by simp[zk]⟩)];simp only[Vf,R.aH,n1];simp[it,MP.stM];rw[qp (e:=λc=>MV.f (Za c)) (g:=λc=>MV.f (Za (m+c.1,c.2))) (caps:=[some (I m)]) cs [] none none (by simpa using sz) (λc _ z w=>⟨some (I c.1),some (I c.2),by simp[zk]⟩)];simp only[Vf,R.aH,n2];simp[it,MP.stM];rw[qp (e:=λc=>MV.f (Za c)) (g:=λc=>MV.f (Za (m+c.1,m+c.2))) (caps:=[some (I m)]) cs [] none none (by simpa using sz) (λc _ z w=>⟨some (I c.1),some (I c.2),by simp[zk]⟩)];simp only[Vf,R.aH,n3];simp[it,MP.stM];rw[qp (e:=λc=>MV.f (Za c)) (g:=λc=>MV.f (Za (m-1-c.2,2*m-1-c.1))) (caps:=[some (I m)]) cs [] none none (by simpa using sz) (λc nH z w=>⟨some (I c.1),some (I c.2),by
  have:=hc c nH;have e1:((m-1-c.2:Nat):Int)=(m:Int)-1-c.2:=by lia
  have e2:((2*m-1-c.1:Nat):Int)=2*(m:Int)-1-c.1:=by lia
  simp[zk,mu2,e1,e2]⟩)]
 simp only[Vf,R.aH,n4];simp at B1 B2 B3;simp[B1,B2,B3]
theorem yar(k:Nat)(hk:k<=6):run prog (n+2) "folded_cells" [I ((2^k:Nat):Int)] h=.ok (.f (.lst ((Zj k).map Za))) h:=by
 refine fi.eq λQ hQ=>?_;rw[Qal];simp only[cf];simp[Zm,Qi];refine F7 (Q:=λr=>fi (yc _ r) _) k (λi σ hh=>hh=h/\σ=[some (I ((2^k:Nat):Int)),some (.f (.lst ((Zj i).map Za))),some (I ((2^i:Nat):Int))]) (by show k<1000000;lia) ⟨rfl,by simp[Zj]⟩ ?_ ?_ ?_
 ·rintro i σ hh hi ⟨rfl,rfl⟩;have hp:2^i<2^k:=Nat.pow_lt_pow_right (by lia) hi;have hp6:2^k<=2^6:=Vp (by lia) hk;have F:=Zaw n hh (Zj i) (2^i) (FQ i) (by rw[KD];have:4^i<=4^6:=Vp (by lia) (by lia);lia) (by lia);have ee:so (Zj i) (2^i)=Zj (i+1):=rfl;have p2:(2:Int)*((2^i:Nat):Int)=((2^(i+1):Nat):Int):=by rw[UC];push_cast;lia
  have mu:∀ hh,qh true .mul (I 2) (I ((2^i:Nat):Int)) hh=.ok (I ((2^(i+1):Nat):Int)) hh:=λhh=>by
   have:=qE true 2 ((2^i:Nat):Int) (h:=hh) (Zs (by rw[UG];lia));rw[p2] at this;exact this
  have lt:((2^i:Nat):Int)<((2^k:Nat):Int):=by exact_mod_cast hp
  rw[ee] at F;generalize (((2^(i+1):Nat):Int))=b2 at *;generalize (((2^i:Nat):Int))=b at *;generalize (((2^k:Nat):Int))=bk at *;generalize (Zj (i+1)).map Za=L2 at *;generalize (Zj i).map Za=L1 at *;refine⟨by simp[lt],λQ hQ=>?_⟩;simp[F,mu];exact hQ _ _ ⟨rfl,rfl⟩
 ·rintro σ hh ⟨rfl,rfl⟩;simp
 ·rintro σ hh ⟨rfl,rfl⟩;generalize (Zj k).map Za=L at *;simp;exact hQ _ _ ⟨rfl,rfl⟩
theorem QaD(w:MV)(H W:Nat)(h1:1<=H)(h2:1<=W)(hH:H<=64)(hW:W<=64):∃ k,k<=6/\∀ n h,run prog (n+3) "FoldedWay.order" [w,I H,I W] h=.ok (.ref h.length) (h++[.lst ((((Zj k).filter λc=>decide (c.1<H)&&decide (c.2<W)).map Za).map .f)]):=by
 obtain⟨k,hk,kH,kW,kl⟩:=qb8 H W hH hW;refine⟨k,hk,λn h=>?_⟩;refine fi.eq λQ hQ=>?_;have A:=Yk (n+1) h H W;rw[if_pos (by lia)] at A;rw[Z2];simp only[bE];simp[A];refine F7 (Q:=λr=>fi (yc _ r) _) k (λi σ hh=>hh=h/\σ=[some w,some (I H),some (I W),some (I ((2^i:Nat):Int))]) (by show k<1000000;lia) ⟨rfl,by simp⟩ ?_ ?_ ?_
 ·rintro i σ hh hi ⟨rfl,rfl⟩;have hp6:2^i<=2^6:=Vp (by lia) (by lia);have p2:(2:Int)*((2^i:Nat):Int)=((2^(i+1):Nat):Int):=by rw[UC];push_cast;lia
  have mu:∀ hh,qh true .mul (I 2) (I ((2^i:Nat):Int)) hh=.ok (I ((2^(i+1):Nat):Int)) hh:=λhh=>by
   have:=qE true 2 ((2^i:Nat):Int) (h:=hh) (Zs (by rw[UG];lia));rw[p2] at this;exact this
  have or1:((2^i:Nat):Int)<(H:Int)\/((2^i:Nat):Int)<(W:Int):=by
   rcases kl i hi with q|q
   ·left;exact_mod_cast q
   ·right;exact_mod_cast q
  generalize (((2^(i+1):Nat):Int))=b2 at *;generalize (((2^i:Nat):Int))=b at *;refine⟨?_,λQ hQ=>?_⟩
  ·by_cases c:b<(H:Int)
   ·simp[c]
   ·have c2:b<(W:Int):=or1.resolve_left c;simp[c,c2]
  ·simp[mu];exact hQ _ _ ⟨rfl,rfl⟩
 ·rintro σ hh ⟨rfl,rfl⟩;have l1:¬((2^k:Nat):Int)<(H:Int):=by lia
  have l2:¬((2^k:Nat):Int)<(W:Int):=by lia
  generalize (((2^k:Nat):Int))=b at *;simp[l1,l2]
 ·rintro σ hh ⟨rfl,rfl⟩;have C:=yar n hh k (by lia);have it:i5 "seq" [.f (.lst ((Zj k).map Za))] hh=some ((Zj k).map λc=>MV.f (Za c),[]):=by
   have q:Qa hh (.f (.lst ((Zj k).map Za)))=some ((Zj k).map λc=>MV.f (Za c)):=by simp[Xf]
   have g:qe hh (.f (.lst ((Zj k).map Za)))=[]:=rfl;simp only[yu,q,uh,g]
  have sz:(Zj k).length<=aD:=by rw[KD,Yb];have:4^k<=4^6:=Vp (by lia) (by lia);lia
  have lv:=Z0 hh (((Zj k).filter λc=>decide (c.1<H)&&decide (c.2<W)).map Za);generalize (((2^k:Nat):Int))=b at *;generalize oQ:FV.lst ((Zj k).map Za)=cl at *;simp[C,it,MP.stM];rw[zV (zK _) (λσ=>∃ z0 z1,σ=[z0,z1,some (I H),some (I W)]) (e:=λc=>MV.f (Za c)) (g:=λc=>MV.f (Za c)) (t:=λc=>decide (c.1<H)&&decide (c.2<W)) (Zj k) [] _ ⟨none,none,rfl⟩ (by simpa using sz) (by
   rintro c nH σ ⟨z0,z1,rfl⟩;refine⟨[some (I c.1),some (I c.2),some (I H),some (I W)],?_,_,_,rfl⟩;by_cases q1:c.1<H
   ·by_cases q2:c.2<W
    ·simp[zk,q1,q2]
    ·simp[zk,q1,q2]
   ·simp[zk,q1])]
  have e2:((Zj k).filter λc=>decide (c.1<H)&&decide (c.2<W)).map (λc=>MV.f (Za c))=(((Zj k).filter λc=>decide (c.1<H)&&decide (c.2<W)).map Za).map MV.f:=by simp[Xf]
  rw[Vf,R.aH,e2];generalize (((Zj k).filter λc=>decide (c.1<H)&&decide (c.2<W)).map Za).map MV.f=M at *;simp[lv];exact hQ _ _ ⟨rfl,rfl⟩
end
end MP
end
section
namespace MP
open PySem
def w6(c:String):Prop:=c="Way"\/c="FroWay"\/c="ColumnWay"\/c="FoldedWay"
noncomputable def YB(w:FV)(ks:List (Int×Int)):FV:=.obj "MaskedWay" ["way","mask"] [w,.cE ks]
noncomputable def qm:List (List (Int×Int))->FV->FV
 |[],w=>w
 |k::r,w=>YB (qm r w) k
noncomputable def Zq:List (List (Int×Int))->FV->List FV
 |[],w=>[w]
 |k::r,w=>qm (k::r) w::Zq r w
theorem Y1:∀(Ks:List (List (Int×Int))) (w:FV),(Zq Ks w).length=Ks.length+1
 |[],w=>rfl
 |k::r,w=>by simp[Zq,Y1 r w]
theorem FO:∀(Ks:List (List (Int×Int))) (w:FV) (i:Nat),i<=Ks.length->(Zq Ks w)[i]?=some (qm (Ks.drop i) w)
 |[],w,i,h=>by
  obtain rfl:i=0:=by simpa using h
  rfl
 |k::r,w,0,h=>rfl
 |k::r,w,i+1,h=>by
  simp only[Zq,vC,uF];exact FO r w i (by simpa using h)
theorem MX(Ks:List (List (Int×Int)))(w:FV)(i:Nat)(h:i<Ks.length):qm (Ks.drop i) w=YB (qm (Ks.drop (i+1)) w) Ks[i]:=by
 rw[wq h];rfl
theorem HH(Ks:List (List (Int×Int)))(w:FV)(i:Nat)(h:i<=Ks.length):(Zq Ks w).take (i+1)=(Zq Ks w).take i++[qm (Ks.drop i) w]:=by
 rw[Vj,FO Ks w i h];rfl
noncomputable def rE(a k:List (Int×Int)):List (Int×Int):=if a=[]\/k=[] then(if k=[] then a else k) else k.foldl Yo a
theorem Zcp(a)(k):(Yo a k).length<=a.length+1:=by
 unfold Yo;split <;> simp
theorem HE:∀(k a:List (Int×Int)),(k.foldl Yo a).length<=a.length+k.length
 |[],a=>by simp
 |x::k,a=>by
  have h1:=HE k (Yo a x);have h2:=Zcp a x;simp only[Uk,Vc];lia
theorem Qcd(a k):(rE a k).length<=a.length+k.length:=by
 unfold rE;split
 ·split <;> lia
 ·exact HE k a
noncomputable def mC(Ks:List (List (Int×Int))):List (Int×Int):=Ks.foldl rE []
theorem ZcF(Ks:List (List (Int×Int)))(hk:∀ k∈Ks,k.length<=1000):∀ a:List (Int×Int),(Ks.foldl rE a).length<=a.length+Ks.length*1000:=by
 induction Ks with
 |nil=>intro a;simp
 |cons k r ih =>
  intro a;have h1:=ih (λk h=>hk k (Vd _ h)) (rE a k);have h2:=Qcd a k;have h3:=hk k (by simp);simp only[Uk,Vc];lia
theorem zch{Ks:List (List (Int×Int))}{i:Nat}(h:i<Ks.length):mC (Ks.take (i+1))=rE (mC (Ks.take i)) Ks[i]:=by
 unfold mC;rw[Vj,xc h,wB,List.foldl_append];rfl
section
variable (n:Nat) (h:MH)
theorem yb2  (hc:w6 c):prog.subs c "MaskedWay"=some false:=by
 rcases hc with rfl|rfl|rfl|rfl <;> rfl
theorem Yax(c:String)(hc:w6 c)(Ks:List (List (Int×Int)))(hl:Ks.length<=1000):run prog (n+1) "ways_within" [.f (qm Ks (zj c))] h=.ok (.f (.lst (Zq Ks (zj c)))) h:=by
 refine fi.eq λQ hQ=>?_;have i1:∀ w ks hh,YN prog.subs hh (.f (YB w ks)) "MaskedWay"=some true:=λw ks hh=>rfl;have i2:∀ hh,YN prog.subs hh (.f (zj c)) "MaskedWay"=some false:=λhh=>yb2 hc;have f1:∀ w ks hh,nM prog.jM "way" (.f (YB w ks)) hh=some (.f w):=λw ks hh=>by simp[nM,YB]
 have cl:∀ M,Ze (h++[.lst M]) h.length=some M:=λM=>yf h [] M;have st:∀ M ys,Zd (h++[.lst M]) h.length ys=h++[.lst ys]:=λM ys=>qg h [] M ys;have z0:(Zq Ks (zj c)).take 1=[qm Ks (zj c)]:=by rw[HH Ks _ 0 (by lia)];rfl
 have tg:=λi hi=>HH Ks (zj c) i hi;have tl:=Y1 Ks (zj c);have cm:=λi hi=>MX Ks (zj c) i hi;have ce:qm (Ks.drop Ks.length) (zj c)=zj c:=by rw[Ux];rfl
 have F:=λxs=>Eh h [] xs;generalize hT:Zq Ks (zj c)=T at *;generalize hC:(λi=>qm (Ks.drop i) (zj c))=C at *;have OC:∀ i,qm (Ks.drop i) (zj c)=C i:=λi=>by rw[<- hC]
 simp only[OC] at tg cm ce;have z1:qm Ks (zj c)=C 0:=by rw[<- OC 0];rfl
 rw[z1] at z0 ⊢;rw[Qax];simp only[cG];simp;refine F7 (Q:=λr=>fi (yc _ r) _) Ks.length (λi σ hh=>i<=Ks.length/\σ=[some (.f (C 0)),some (.ref h.length)]/\hh=h++[.lst ((T.take (i+1)).map .f)]) (by show Ks.length<1000000;lia) ⟨by lia,rfl,by rw[z0];rfl⟩ ?_ ?_ ?_
 ·rintro i σ hh hi ⟨oP,rfl,rfl⟩;have e1:=tg i oP;have e2:=tg (i+1) (by lia);have a1:dR ((T.take (i+1)).map MV.f) (-1)=some (.f (C i)):=by rw[e1,ud];exact DM _ _
  have lz:((T.take (i+1)).map MV.f).length<aD:=by simp[Yb];lia
  have e3:(T.take (i+1)).map MV.f++[.f (C (i+1))]=(T.take (i+1+1)).map MV.f:=by rw[e2,ud];rfl
  have m1:=cm i hi;rw[m1] at a1;generalize (T.take (i+1)).map MV.f=M at *;have j1:=i1 (C (i+1)) Ks[i];have g1:=f1 (C (i+1)) Ks[i];generalize YB (C (i+1)) Ks[i]=mv at *;refine⟨by simp[cl,a1,j1],λQ hQ=>?_⟩;simp[cl,a1,g1,st,lz,e3];exact hQ _ _ ⟨by lia,rfl,by rw[wx]⟩
 ·rintro σ hh ⟨oP,rfl,rfl⟩;have e1:=tg Ks.length oP;have a1:dR ((T.take (Ks.length+1)).map MV.f) (-1)=some (.f (C Ks.length)):=by rw[e1,ud];exact DM _ _
  rw[ce] at a1;generalize (T.take (Ks.length+1)).map MV.f=M at *;simp[cl,a1,i2]
 ·rintro σ hh ⟨oP,rfl,rfl⟩;have e1:T.take (Ks.length+1)=T:=by rw[<- tl,Vi]
  rw[e1];obtain⟨t',F⟩:=F T;have lv:=ybB h t' (.lst T);generalize T.map MV.f=M at *
  try simp at F
  simp[F,lv];exact hQ _ _ ⟨rfl,rfl⟩
def vK(Ks:List (List (Int×Int))):Prop:=Ks.length<=10/\∀ k∈Ks,k.all ZY=true/\k.Nodup/\k.length<=1000
theorem yb9(g)(a k)(sm:k.all ZY=true)(nd:k.Nodup)(hz:a.length+k.length<=20000):pb (.ref g.length) (.f (.cE k)) (g++[.cE a])=.ok (.f .bh) (g++[.cE (rE a k)]):=by
 have c0:qH (g++[.cE a]) (.ref g.length)=some a:=by simp[qH]
 have s0:∀ l:List (Int×Int),(g++[Cell.cE a]).set g.length (.cE l)=g++[.cE l]:=λl=>by simp
 simp only[pb,c0,qc,s0];unfold rE;by_cases q:a=[]\/k=[]
 ·rw[if_pos q,if_pos ⟨sm,nd⟩,if_pos q]
 ·rw[if_neg q,if_pos (by rw[Yb];lia),if_neg q]
noncomputable def tH(c:String)(Ks:List (List (Int×Int))):List FV:=(Vb Ks.length).map λi=>qm (Ks.drop i) (zj c)
theorem Zby(c:String)(Ks:List (List (Int×Int)))(hh:MH):ZM true (.f (.lst (Zq Ks (zj c)))) none (some (-1)) hh=.ok (.f (.lst (tH c Ks))) hh:=by
 unfold tH;have e:oy ((Zq Ks (zj c)).map MV.f) none (some (-1))=((Vb Ks.length).map λi=>qm (Ks.drop i) (zj c)).map MV.f:=by
  simp only[oy,oW];rw[if_pos (by decide)];have l:((Zq Ks (zj c)).map MV.f).length=Ks.length+1:=by simp[Y1]
  rw[l];simp only[uA,Vy];rw[show((-1:Int)+((Ks.length+1:Nat):Int)).toNat=Ks.length by lia,<- wx]
  congr 1
  apply xk;intro i;rw[Xc,List.getElem?_take];by_cases hi:i<Ks.length
  ·rw[if_pos hi,FO _ _ _ (by lia),xo hi];rfl
  ·rw[if_neg hi,wy (by simpa using hi)];rfl
 simp only[ZM,Yj,Qa,qc,e,Zc]
theorem ZcD(c:String)(Ks:List (List (Int×Int)))(ok:vK Ks){W:String->List MV->MH->R MV}{k:aI->MH->RS}{Q:RS->Prop}(a0 a1 a2 a3:Option MV)
  (fin:∀ z5,Q (k [a0,a1,a2,a3,some (.ref h.length),z5] (h++[.cE (mC Ks)]))) :
  Q ((qy [] (Qh (.nm 5) (Qb prog W [.expr (.sL .upd (.var 4) (.fld (.var 5) "mask"))])) ((tH c Ks).map MV.f) [a0,a1,a2,a3,some (.ref h.length),none] (h++[.cE []])).bind k):=by
 unfold tH;rw[Ue];refine QN (e:=λi=>MV.f (qm (Ks.drop i) (zj c))) (Vb Ks.length) (λi σ hh=>i<=Ks.length/\hh=h++[.cE (mC (Ks.take i))]/\∃ z5,σ=[a0,a1,a2,a3,some (.ref h.length),z5]) ⟨by lia,rfl,none,rfl⟩ ?_ ?_
 ·rintro i y σ hh hy ⟨oP,rfl,z5,rfl⟩ Q hQ;have hi:i<Ks.length:=by simpa using(xa.mp hy).1
  obtain rfl:i=y:=by rw[xo hi] at hy;cases hy;rfl
  obtain⟨s1,s2,s3⟩:=ok.2 Ks[i] (Uj hi);have la:(mC (Ks.take i)).length<=10000:=by
   have:=ZcF (Ks.take i) (λk hk=>(ok.2 k (Um hk)).2.2) [];have q:=ok.1;simp only[ui,Ul] at this;unfold mC;have:min i Ks.length<=10:=by lia
   lia
  have U:=yb9 h (mC (Ks.take i)) Ks[i] s1 s2 (by lia);rw[<- zch hi] at U;have m1:=MX Ks (zj c) i hi;have f1:∀ hh,nM prog.jM "mask" (.f (qm (Ks.drop i) (zj c))) hh=some (.f (.cE Ks[i])):=λhh=>by rw[m1];simp[nM,YB]
  have c0:qH (h++[.cE (mC (Ks.take i))]) (.ref h.length)=some (mC (Ks.take i)):=by simp[qH]
  generalize qm (Ks.drop i) (zj c)=cv at *;simp[Qh,c0,f1,sH,U];exact hQ _ _ ⟨by lia,rfl,_,rfl⟩
 ·rintro σ hh ⟨_,rfl,z5,rfl⟩;rw[XH,Vi];exact fin z5
theorem Zax(c f:String)(hc:w6 c)(mo:prog.meths c "order"=some f)(H W:Nat)(cs:List (Nat×Nat))(hl:cs.length<=100000)(O:∀ h,run prog (n+4) f [.f (zj c),I H,I W] h=.ok (.ref h.length) (h++[.lst ((cs.map Za).map .f)]))
  (Ks:List (List (Int×Int))) (ok:vK Ks):run prog (n+5) "MaskedWay.order" [.f (qm Ks (zj c)),I H,I W] h=.ok (.ref h.length) (h++[.lst (((cs.filter λc=>decide (cZ c∉mC Ks)).map Za).map .f)]):=by
 refine fi.eq λQ hQ=>?_;have WW:=Yax (n+3) h c hc Ks (by have:=ok.1;lia);have cm:∀ hh,o7 "order" (.f (zj c)) hh=some c:=λhh=>by simp[o7,zj]
 have sl:=Zby c Ks;have a2:dR ((Zq Ks (zj c)).map MV.f) (-1)=some (.f (zj c)):=by
  have e:=HH Ks (zj c) Ks.length (by lia);rw[show Ks.length+1=(Zq Ks (zj c)).length from(Y1 _ _).symm,Vi,Ux] at e;rw[e,ud];exact DM _ _
 have s1:∀ hh,i5 "seq" [.f (.lst (tH c Ks))] hh=some ((tH c Ks).map .f,[]):=λhh=>rfl;have q1:∀ hh,Qa hh (.f (.lst (Zq Ks (zj c))))=some ((Zq Ks (zj c)).map .f):=λhh=>rfl;have O1:=O (h++[Cell.cE (mC Ks)]);obtain⟨t',F⟩:=Eh (h++[Cell.cE (mC Ks)]) [] (cs.map Za);have it:∀ hh,i5 "seq" [.f (.lst (cs.map Za))] hh=some (cs.map λc=>MV.f (Za c),[]):=λhh=>by
  have q:Qa hh (.f (.lst (cs.map Za)))=some (cs.map λc=>MV.f (Za c)):=by simp[Xf]
  have g:qe hh (.f (.lst (cs.map Za)))=[]:=rfl;simp only[yu,q,uh,g]
 have UA:=@ZcD h c Ks ok;generalize mC Ks=ks at *;generalize tH c Ks=LK at *;generalize Zq Ks (zj c)=TV at *;generalize qm Ks (zj c)=mv at *;generalize zj c=wv at *;have cM:qH ((h++[Cell.cE ks])++t') (.ref h.length)=some ks:=by simp[qH]
 have sz:cs.length<=aD:=by rw[Yb];lia
 have lv:ym h (.ref ((h++[Cell.cE ks])++t').length) (((h++[Cell.cE ks])++t')++[.lst (((cs.filter λc=>decide (cZ c∉ks)).map Za).map .f)])=.ok (.ref h.length) (h++[.lst (((cs.filter λc=>decide (cZ c∉ks)).map Za).map .f)]):=by
  have cl:=yf ((h++[Cell.cE ks])++t') [] (((cs.filter λc=>decide (cZ c∉ks)).map Za).map MV.f);have tr:bZ h (((h++[Cell.cE ks])++t')++[.lst (((cs.filter λc=>decide (cZ c∉ks)).map Za).map MV.f)]):=by rw[Vg,Vg];exact bZ.app h _
  have ef:=Yy ((cs.filter λc=>decide (cZ c∉ks)).map Za);generalize ((cs.filter λc=>decide (cZ c∉ks)).map Za).map MV.f=M at *;have tk:(((h++[Cell.cE ks])++t')++[Cell.lst M]).take h.length=h:=by rw[Vg,Vg,xD];rfl
  unfold ym;rw[if_pos tr];simp only;rw[if_pos (by simp),cl];simp only[ef,tk]
 generalize oQ:FV.lst (cs.map Za)=cl at *;rw[Y6];simp only[bD];simp only[Vg] at O1 F cM lv;simp at O1 F cM lv;simp[WW,sl,s1];refine UA (Q:=λr=>fi (yc h r) Q) _ _ _ _ λz5=>?_;simp[q1,a2,cm,mo,O1,F,it,MP.stM];have v7:∀ c:Nat×Nat,vY (.f (Za c)) (.ref h.length) (h++Cell.cE ks::t')=.ok (.f (.bl (decide (cZ c∉ks)))) (h++Cell.cE ks::t'):=λc=>by
  have e:xY (.f (Za c))=some (cZ c):=rfl;simp only[vY,e,cM,qc]
 rw[ML (zK _) (e:=λc=>MV.f (Za c)) (g:=λc=>MV.f (Za c)) (t:=λc=>decide (cZ c∉ks)) (caps:=[some (.ref h.length)]) cs [] none (by simpa using sz) (λc _ z=>⟨some (.f (Za c)),by
  have nc:=v7 c;generalize Za c=cn at nc;by_cases q:cZ c∈ks
  ·simp[q] at nc;simp[zk,nc,q]
  ·simp[q] at nc;simp[zk,nc,q]⟩)]
 have e2:(cs.filter λc=>decide (cZ c∉ks)).map (λc=>MV.f (Za c))=((cs.filter λc=>decide (cZ c∉ks)).map Za).map MV.f:=by simp[Xf]
 rw[Vf,R.aH,e2];simp at hQ ⊢;rw[lv];simpa using hQ
end
section
variable (n:Nat) (h:MH)
theorem yaw(most)(rows)(b)(ps)(g:Good most rows)(hp:∀ p∈ps,Du rows p.1/\0<=p.2/\p.2<=most) :
  run prog (n+3) "with_shades" [.f (yq most rows),.f (sq b (ps.map sD))] h=.ok (.f (yq most (zr rows ps))) h/\Good most (zr rows ps):=by
 have hz:rows.length<=aD:=xf g.sz (by decide);simp only[qb n.succ.succ,Qav,qc,qA];simp[yq,ye,MP.stM];rw[Mh _ (MV.f∘ze true) (λr z h=>⟨some (.f (ze true r)),by simp[zk,ze,oM]⟩) rows [] none h (by simpa using hz)];simp only[R.aH,F4,R.st_ok,Vf];have eo:(h++rows.map oM)++[.lst ((Vb rows.length).map λi=>MV.ref (h.length+i))]=own h rows:=by simp[own]
 have el:(h++rows.map oM).length=h.length+rows.length:=by simp
 rw[eo,el];have L:=MT (bd:=Qh (.tp [.nm 3,.nm 4]) (Qb prog (run prog (n+1+1)) [MS.eT ((ME.var 2).sub ((ME.var 3).sub (ME.cI 0))) ((ME.var 3).sub (ME.cI 1)) (ME.var 4)])) (e:=MV.f∘sD)
  (st:=λb':List (List Int)×Option MV×Option MV=>[some (MV.f (FV.obj "Picture" ["most","rows"] [FV.int most,sq true (wF (ze true) rows)])),some (MV.f (sq b (wF sD ps))),some (MV.ref (XD h+rows.length)),b'.2.1,b'.2.2]) (hp:=λb'=>own h b'.1)
  (f:=λb' p=>(Zx b'.1 p.1.1.toNat p.1.2.toNat p.2,some (.f (ya p.1)),some (I p.2))) (λb'=>b'.1.length=rows.length/\(∀ p,Du rows p->Du b'.1 p)/\Good most b'.1) ps (rows,none,none) ⟨rfl,λ_ h=>h,g⟩ (λp hpm b' uM=>by
   obtain⟨hl,jE,hg⟩:=uM;obtain⟨r9,Iu,EJ⟩:=hp p hpm;have hi:=jE p.1 r9;have lP:p.1.1.toNat<b'.1.length:=by have:=hi.1;have:=hi.2.1;lia
   have er:b'.1[p.1.1.toNat]?=some b'.1[p.1.1.toNat]:=by simp[lP]
   have hj:=hi.2.2.2 _ (We er);have e1:dR ((Vb rows.length).map λi=>MV.ref (h.length+i)) p.1.1=some (.ref (h.length+p.1.1.toNat)):=by
    rw[FT _ _ hi.1];rw[Xc,xo (by lia)];rfl
   have e2:jX b'.1[p.1.1.toNat].length p.1.2=some p.1.2.toNat:=by
    unfold jX;rw[if_pos hi.2.2.1,if_pos hj]
   have ht:=Ll h b'.1;rw[hl] at ht;refine⟨?_,by rw[YF];exact hl,λq hq=>Yb0 (jE q hq),YbA hg Iu EJ⟩;simp[Qh,ht,e1,HN h b'.1 _ _ er,e2];exact ZcN h b'.1 _ _ _ p.2 er)
 obtain⟨L1,L2⟩:=L;have mR:(ps.foldl (λ(b':List (List Int)×Option MV×Option MV) p=>(Zx b'.1 p.1.1.toNat p.1.2.toNat p.2,some (.f (ya p.1)),some (I p.2))) (rows,none,none)).1=zr rows ps:=by
  unfold zr;exact P0 _ _ (λb p=>rfl) ps _
 refine⟨?_,?_⟩
 ·have hl:=L2.1;rw[mR] at hl;obtain⟨t',ef⟩:=ZcB h (zr rows ps);rw[hl] at ef;have g2:Good most (zr rows ps):=by rw[<- mR];exact L2.2.2
  have mk:=yS n (h++t') most false false (zr rows ps) g2;simp only[ye,yq] at mk ef;simp;rw[L1];simp[mR,ef,mk]
 ·rw[<- mR];exact L2.2.2
noncomputable def Zv(H W:Nat):List (List Int):=va H (va W 0)
theorem Yba(most:Int)(H W:Nat)(hm:1<=most)(h1:1<=H)(h2:H<=1000)(w1:1<=W)(w2:W<=1000)(b:Bool)(ps:List ((Int×Int)×Int))(hp:∀ p∈ps,(0<=p.1.1/\p.1.1<H/\0<=p.1.2/\p.1.2<W)/\0<=p.2/\p.2<=most) :
  run prog (n+4) "laid_out" [I most,.f (.tup [.int H,.int W]),.f (sq b (ps.map sD))] h=.ok (.f (yq most (zr (Zv H W) ps))) h:=by
 have g:Good most (Zv H W):=by
  refine⟨hm,by simp[Zv];lia,⟨W,w1,λr hr=>by rw[wl hr];simp⟩,λr hr v hv=>?_,by simp[Zv];lia⟩;rw[wl hr] at hv;rw[wl hv];lia
 have WS:=(yaw n h most (Zv H W) b ps g (λp nG=>⟨⟨(hp p nG).1.1,by simpa[Zv] using(hp p nG).1.2.1,(hp p nG).1.2.2.1,λr hr=>by rw[wl hr];simpa using(hp p nG).1.2.2.2⟩,(hp p nG).2⟩)).1;have mk:=yS (n+1) h most false false (Zv H W) g;have b1:∀ hh,qh true .mul (.f (.lst [.int 0])) (I (W:Int)) hh=.ok (.f (ze false (va W 0))) hh:=λhh=>by
  have c:-(2^63)<=(W:Int)/\(W:Int)<2^63/\1*(W:Int).toNat<=aD:=⟨by lia,by lia,by rw[Yb];lia⟩;have e:(va W [MV.f (.int 0)]).flatten=((va W (0:Int)).map FV.int).map MV.f:=by
   rw[Wr];simp
  unfold qh;simp only[yd,listOf,qc,Va,Xl,Vc,ui,Xt];rw[if_pos c,Xn,e,Zc];rfl
 have b2:∀ hh,qh true .mul (.f (.lst [ze false (va W 0)])) (I (H:Int)) hh=.ok (.f (ye false false (Zv H W))) hh:=λhh=>by
  have c:-(2^63)<=(H:Int)/\(H:Int)<2^63/\1*(H:Int).toNat<=aD:=⟨by lia,by lia,by rw[Yb];lia⟩;have e:(va H [MV.f (ze false (va W 0))]).flatten=((Zv H W).map (ze false)).map MV.f:=by
   rw[Wr];simp[Zv]
  unfold qh;simp only[yd,listOf,qc,Va,Xl,Vc,ui,Xt];rw[if_pos c,Xn,e,Zc];rfl
 rw[Qbc];simp only[eE];have a0:dR [I (H:Int),I (W:Int)] 0=some (I (H:Int)):=rfl;have a1:dR [I (H:Int),I (W:Int)] 1=some (I (W:Int)):=rfl;generalize ze false (va W 0)=z at *;generalize ye false false (Zv H W)=zz at *;generalize sq b (ps.map sD)=pp at *;generalize yq most (Zv H W)=p0 at *;simp[a0,a1,b1,b2,Zm,mk,WS]
end
section
variable (n:Nat) (h:MH)
theorem ZJ(ns)(k)(hk:0<=k)(mQ:k<1000000):run prog (n+1) "_law_next" [.f (.eZ ns),.ref 0] (atC k::h)=.ok (I (mH ns (k+1))) (atC (k+1)::h):=by
 have m1:pE (k+1) (k+1):=Zs (by lia);have m2:∀ x,pE x 7919:=λx=>Zs (by decide);have m3:∀ x,pE x 48271:=λx=>Zs (by decide);have m4:∀ x:Int,pE (x%2147483647) (x%2147483647):=λx=>Zs (by have:=Ur x (show(2147483647:Int)≠0 by decide);have:=vo x (show(0:Int)<2147483647 by decide);lia);simp only[qb,qaQ,qc,YK];by_cases hn:ns=[]
 ·subst hn;simp[qE,Zg,m1,m2,m3,m4,jX,mH,qR]
 ·have hl:0<ns.length:=Wo.mpr hn;have e1:dR (ns.map λi=>MV.f (.int i)) ((k+1)%ns.length)=some (I (qR ns (k+1))):=by
   have h0:0<=(k+1)%(ns.length:Int):=Ur _ (by lia);have h1:(k+1)%(ns.length:Int)<ns.length:=vo _ (by lia);rw[FT _ _ h0,Xc,xc (by lia)];simp[qR,hn,Wq,xc (show((k+1)%(ns.length:Int)).toNat<ns.length by lia)]
  simp[qE,Zg,m1,m2,m3,m4,jX,mH,hl,e1]
end
theorem zH(n:Nat)(h:MH):∀(d:Nat)(x:FV),jY d x=true->run prog (n+d) "_law_same" [.f x,.f x] h=.ok (B true) h
 |0,x,e=>by cases x <;> simp[jY] at e
 |d+1,x,e=>by
  rw[show n+(d+1)=(n+d)+1 from rfl,Z9];simp only[cX];cases x with
  |bh=>simp
  |bl b=>simp[jY] at e
  |int i=>simp
  |str s=>simp[jY] at e;simp[ycz _ _ e e]
  |tup xs =>
   simp[jY] at e;simp[Fu,Xf,MP.stM];rw[qp (e:=λx=>MV.f (.tup [x,x])) (g:=λ_=>B true) (caps:=[]) xs [] none none (by simpa using e.1) (λy hy z w=>⟨some (.f y),some (.f y),by simp[zk,zH n h d y (e.2 y hy)]⟩)];simp[Xf]
  |lst xs =>
   simp[jY] at e;simp[Fu,Xf,MP.stM];rw[qp (e:=λx=>MV.f (.tup [x,x])) (g:=λ_=>B true) (caps:=[]) xs [] none none (by simpa using e.1) (λy hy z w=>⟨some (.f y),some (.f y),by simp[zk,zH n h d y (e.2 y hy)]⟩)];simp[Xf]
  |obj c ns vs=>simp[jY] at e
  |eZ ns=>simp[jY] at e
  |tab ns=>simp[jY] at e
  |cE ns=>simp[jY] at e
section
variable (n:Nat) (h:MH)
theorem zcF(most x)(hm:1<=most):∃ v,(0<=v/\v<=most)/\dR [I 0,I most,I (((x/6)*1000000000000000000000+x)%(most+1)),I (((x/6)*1000000000000000000000+x)%(most+1)),I (((x/6)*1000000000000000000000+x)%(most+1)),I (most/2)] (x%6)=some (I v):=by
 have h6:=mod_lt x 6 (by decide);have hc:=mod_lt ((x/6)*1000000000000000000000+x) (most+1) (by lia);obtain⟨v,hv,e⟩:=OZ (I 0) (I most) (I (((x/6)*1000000000000000000000+x)%(most+1))) (I (((x/6)*1000000000000000000000+x)%(most+1))) (I (((x/6)*1000000000000000000000+x)%(most+1))) (I (most/2)) _ h6.1 h6.2;generalize ((x/6)*1000000000000000000000+x)%(most+1)=c at hc hv e ⊢;simp only[Wb,Ud,or_false] at hv
 rcases hv with rfl|rfl|rfl|rfl|rfl|rfl
 all_goals exact⟨_,by lia,e⟩
theorem Qca(ns:List Int)(k:Int)(most:Int)(I0 J0:Nat)(hk:0<=k)(mQ:k+(I0*J0:Nat)<1000000)(hm:1<=most)(hi:I0<=1000)(hj:J0<=1000) :
  fi (run prog (n+2) "_law_rows" [.f (.eZ ns),.ref 0,I most,I I0,I J0] (atC k::h)) λv h'=>∃ rows,Drawn most rows I0 J0/\v=.f (ye false false rows)/\h'=atC (k+(I0*J0:Nat))::h:=by
 refine fi.of λQ hQ=>?_;have hp:∀ hh,qh true .pow (I 10) (I 21) hh=.ok (I 1000000000000000000000) hh:=λhh=>K2 true 10 21 (by decide);rw[ZaT];simp only[dD];simp[Zo _ (I0:Int) (by lia)];refine yx (Q:=λr=>fi (yc _ r) _) I0 (λi σ hh=>∃ kk rows g z6 z7 z8 z9 oJ,kk=k+(i*J0:Nat)/\Drawn most rows i J0/\Own h g ((rows.map (ze false)).map .f)/\hh=atC kk::g /\
  σ=[some (.f (.eZ ns)),some (.ref 0),some (I most),some (I I0),some (I J0),some (.ref (h.length+1)),z6,z7,z8,z9,oJ]) ⟨k,[],_,none,none,none,none,none,by simp,⟨rfl,by simp,by simp⟩,Own.new h,by simp,rfl⟩ ?_ ?_
 ·rintro i σ hh oP ⟨kk,rows,g,z6,z7,z8,z9,oJ,sg,d,o,rfl,rfl⟩ Q hQ;simp[Qh,Zo _ (J0:Int) (by lia)];refine yx (Q:=λr=>Nx r _) J0 (λj σ hh=>∃ kj r z8 z9 oJ,kj=kk+(j:Int)/\(r.length=j/\∀ v∈r,0<=v/\v<=most)/\hh=atC kj::(g++[.lst ((r.map FV.int).map .f)]) /\
   σ=[some (.f (.eZ ns)),some (.ref 0),some (I most),some (I I0),some (I J0),some (.ref (h.length+1)),some (I i),some (.ref (g.length+1)),z8,z9,oJ]) ⟨kk,[],z8,z9,oJ,by simp,⟨rfl,by simp⟩,by simp,rfl⟩ ?_ ?_
  ·rintro j σ hh hjl ⟨kj,r,z8,z9,oJ,Ov,⟨Ip,Io⟩,rfl,rfl⟩ Q hQ;have hb:kj<1000000/\0<=kj:=by
    have:(i+1)*J0<=I0*J0:=Wu _ oP;rw[Ws] at this
    lia
   have N:=ZJ n (g++[.lst ((r.map FV.int).map .f)]) ns kj hb.2 hb.1;obtain⟨v,hv,ev⟩:=zcF most (mH ns (kj+1)) hm;have hl:r.length<aD:=by rw[Yb];lia
   have c1:=(Own.new (xs:=(r.map FV.int).map .f) g).cell (atC (kj+1));have m1:pE (mH ns (kj+1)/6) 1000000000000000000000:=by
    have:=Dc ns (kj+1);exact .inl (by lia)
   have m2:xK most 2:=⟨by decide,.inl (by decide)⟩;have m6:∀ x,xK x 6:=λx=>⟨by decide,.inl (by decide)⟩;have mp:0<most+1:=by lia
   simp only[Ue] at N c1;simp[Qh,N,hp,Zg,qE,yg,m1,m2,m6,mp,Zm,ev,c1,hl,Zci];exact hQ _ _ ⟨kj+1,r++[v],_,_,_,by lia,⟨by simp[Ip],λx hx=>by
    rcases vf.mp hx with hx|hx
    ·exact Io x hx
    ·simp at hx;subst hx;exact hv⟩,by simp,rfl⟩
  ·rintro σ hh ⟨kj,r,z8,z9,oJ,Ov,⟨Ip,Io⟩,rfl,rfl⟩;have f1:=Zb7 (atC kj) g (r.map FV.int);have c1:=(o.more [.dead]).cell (atC kj);have hl:rows.length<aD:=by rw[Yb,d.len];lia
   obtain⟨g',eg,o'⟩:=(o.more [.dead]).set (atC kj) ((rows.map (ze false)).map .f++[.f (.lst (r.map FV.int))]);have c0:=(o.more [.lst ((r.map FV.int).map .f)]).cell (atC kj);simp only[Ue] at f1 c1 eg c0;simp[f1,c0,c1,hl,eg];exact hQ _ _ ⟨kj,rows++[r],g',_,_,_,_,_,by rw[Ov,sg,Ws];lia,⟨by simp[d.len],λx hx=>by
    rcases vf.mp hx with hx|hx
    ·exact d.sJ x hx
    ·simp at hx;subst hx;exact Ip,λx hx=>by
    rcases vf.mp hx with hx|hx
    ·exact d.sh x hx
    ·simp at hx;subst hx;exact Io⟩,by simpa[ze,sq] using o',rfl,rfl⟩
 ·rintro σ hh ⟨kk,rows,g,z6,z7,z8,z9,oJ,sg,d,o,rfl,rfl⟩;obtain⟨t',e⟩:=o.eO (atC kk);simp[e];exact hQ _ _ ⟨rows,d,rfl,by rw[sg]⟩
end
section
variable (n:Nat) (h:MH)
theorem Zcm(ns)(k)(hk:0<=k)(mQ:k<1000000):∃ m:Int,1<=m/\m<=100000000000000000000000000000/\run prog (n+2) "_law_most" [.f (.eZ ns),.ref 0] (atC k::h)=.ok (I m) (atC (k+1)::h):=by
 have N:=ZJ n h ns k hk mQ;have hm:=mod_lt (mH ns (k+1)) 6 (by decide);have hp:∀ hh,qh true .pow (I 10) (I 29) hh=.ok (I 100000000000000000000000000000) hh:=λhh=>K2 true 10 29 (by decide);have key:∀ c:Int,∃ m:Int,(1<=m/\m<=100000000000000000000000000000)/\dR [I 1,I 2,I 3,I 9,I 255,I (c%100000000000000000000000000000+1)] (mH ns (k+1)%6)=some (I m):=λc=>by
  obtain⟨v,hv,e⟩:=OZ (I 1) (I 2) (I 3) (I 9) (I 255) (I (c%100000000000000000000000000000+1)) _ hm.1 hm.2;have hc:=mod_lt c 100000000000000000000000000000 (by decide);simp only[Wb,Ud,or_false] at hv
  rcases hv with rfl|rfl|rfl|rfl|rfl|rfl
  all_goals exact⟨_,by lia,e⟩
 obtain⟨m,Ou,e⟩:=key (qR ns (k+1));refine⟨m,Ou.1,Ou.2,?_⟩;rw[qb (n+1)];simp only[qaR,qc,yJ];by_cases hn:ns=[]
 ·subst hn;simp[qR] at e;simp[N,hp,Zg,Zm,e]
 ·have hl:0<ns.length:=Wo.mpr hn;simp[N,hp,Zg,hl,YbY ns hn (k+1),Zm,e]
end
end MP
end
section
namespace MP
open PySem
section
variable (n:Nat) (h:MH)
theorem Ybp(m)(rows)(hr:rows≠[]):run prog (n+2) "size_of" [.f (yq m rows)] h=.ok (.f (.tup [.int rows.length,.int (rows.headD []).length])) h:=by
 cases rows with
 |nil=>exact absurd rfl hr
 |cons r rs =>
  have a:=PB n h m (r::rs);have b:=NB n h m r rs;rw[Ybl];simp only[e9];simp at a b;simp[a,b]
theorem Qa2(m:Int)(rows:List (List Int))(H W:Nat)(d:Drawn m rows H W)(i j:Nat)(hi:i<H)(hj:j<W)(r:List Int)(v:Int)(er:rows[i]?=some r)(ev:r[j]?=some v):run prog (n+4) "shade_at" [.f (yq m rows),.f (.tup [.int i,.int j])] h=.ok (I v) h:=by
 obtain⟨r0,rs,e0,mj,hrs⟩:=d.cons (by lia);have A:=qa1 n h m i j r0 rs;rw[if_pos (by lia),<- e0] at A;have p1:nM prog.jM "rows" (.f (yq m rows)) h=some (.f (ye true true rows)):=by simp[yq]
 have q1:Qa h (.f (ye true true rows))=some (rows.map (MV.f∘ze true)):=by simp[ye]
 have a1:dR (rows.map (MV.f∘ze true)) (i:Int)=some (.f (ze true r)):=by rw[Qr,Xc,er];rfl
 have q2:Qa h (.f (ze true r))=some (r.map (MV.f∘FV.int)):=by simp[ze]
 have a2:dR (r.map (MV.f∘FV.int)) (j:Int)=some (I v):=by rw[Qr,Xc,ev];rfl
 rw[Za4];simp only[eD];simp[A,p1,q1,a1,q2,a2]
def nN(w:FV)(H W:Nat)(cs:List (Nat×Nat)):Prop:=(∃ c ns vs f,w=.obj c ns vs/\"order"∉ns/\prog.meths c "order"=some f/\∀ n h,run prog (n+5) f [.f w,I H,I W] h=.ok (.ref h.length) (h++[.lst ((cs.map Za).map .f)]))/\(∀ c∈cs,c.1<H/\c.2<W)/\cs.length<=300/\cs.Nodup
theorem ZO(g:MH)(w:FV)(H W:Nat)(cs:List (Nat×Nat))(wr:nN w H W cs):∃ c f,(∀ hh,o7 "order" (.f w) hh=some c)/\prog.meths c "order"=some f/\∀ n,run prog (n+5) f [.f w,I H,I W] g=.ok (.ref g.length) (g++[.lst ((cs.map Za).map .f)]):=by
 obtain⟨⟨c,fn,fv,f,rfl,no,mo,ord⟩,_⟩:=wr;exact⟨c,f,λhh=>by simp[o7,no],mo,λn=>ord n g⟩
theorem Zt(g)(xs)(t):qN (.ref g.length) (g++.lst (xs.map .f)::t)=.ok (.f (.lst xs)) (g++.dead::t):=by
 rw[HJ _ _ xs (yf g t (xs.map MV.f))]
 congr 1
 refine xk λi=>?_;unfold kill;rw[Up];by_cases q:i=g.length
 ·subst q;simp
 ·by_cases q2:i<g.length
  ·simp[ub q2,q]
  ·have e:∀ c:Cell,(g++c::t)[i]?=t[i-g.length-1]?:=λc=>by
    rw[Ve (by lia),List.getElem?_cons,if_neg (by lia)]
   rw[e,e];cases t[i-g.length-1]? <;> simp[q]
theorem ZbZ(h t:MH)(xs:List FV):ym h (.ref h.length) (h++.lst (xs.map .f)::t)=.ok (.ref h.length) (h++[.lst (xs.map .f)]):=by
 have cl:=yf h t (xs.map MV.f);have tr:bZ h (h++.lst (xs.map MV.f)::t):=bZ.app h _;have ef:=Yy xs;have tk:(h++Cell.lst (xs.map MV.f)::t).take h.length=h:=by simp
 unfold ym;rw[if_pos tr];simp only;rw[if_pos (Ub _),cl];simp only[ef,tk]
noncomputable def di(rows:List (List Int))(cs:List (Nat×Nat)):List Int:=cs.map λc=>fX rows (cZ c)
theorem qL(most:Int)(rows:List (List Int))(H W:Nat)(d:Drawn most rows H W)(h1:1<=H)(w:FV)(cs:List (Nat×Nat))(wr:nN w H W cs) :
  run prog (n+6) "stretches_along" [.f (yq most rows),.f w] h=.ok (.ref h.length) (h++[.lst (((dk (di rows cs)).map ya).map .f)]):=by
 refine fi.eq λQ hQ=>?_;have hr:rows≠[]:=by rintro rfl;have:=d.len;simp at this;lia
 have hw:(rows.headD []).length=W:=by
  cases rows with
  |nil=>exact absurd rfl hr
  |cons r rs=>exact d.sJ r (by simp)
 have S:=Ybp (n+3) h most rows hr;rw[d.len,hw] at S;obtain⟨c,f,cm,mo,O⟩:=ZO (h++[.lst []]) w H W cs wr;have O:=O n;obtain⟨_,hc,oQ,_⟩:=wr;have F:=Zt (h++[.lst []]) (cs.map Za) [];have SH:∀(hh:MH)(c:Nat×Nat),c∈cs->run prog (n+5) "shade_at" [.f (yq most rows),.f (Za c)] hh=.ok (I (fX rows (cZ c))) hh:=λhh c nH=>by
  have n9:=hc c nH;obtain⟨r,e1,e2,_⟩:=Di d (p:=cZ c) ⟨by simp[cZ],by simp[cZ];lia,by simp[cZ],by simp[cZ];lia⟩;exact Qa2 (n+1) _ most rows H W d c.1 c.2 n9.1 n9.2 r _ (by simpa[cZ] using e1) (by simpa[cZ] using e2)
 have SB:∀ c∈cs,0<=fX rows (cZ c)/\fX rows (cZ c)<=most:=λc nH=>by
  have n9:=hc c nH;obtain⟨r,e1,e2,q⟩:=Di d (p:=cZ c) ⟨by simp[cZ],by simp[cZ];lia,by simp[cZ],by simp[cZ];lia⟩;exact q
 generalize yq most rows=pc at *;have a0:dR [I (H:Int),I (W:Int)] 0=some (I (H:Int)):=rfl;have a1:dR [I (H:Int),I (W:Int)] 1=some (I (W:Int)):=rfl;rw[Q5];simp only[bA];simp at O F;simp[S,a0,a1,cm,mo,O,F];refine QN (Q:=λr=>fi (yc _ r) _) (e:=MV.f∘Za) cs (λi σ hh=>∃(z4 z5:Option MV),hh=h++[.lst (((dk (di rows (cs.take i))).map ya).map .f),.dead]/\σ=[some (.f pc),some (.f w),some (.f (.tup [.int H,.int W])),some (.ref h.length),z4,z5]) ⟨none,none,by simp[di,dk],rfl⟩ ?_ ?_
 ·rintro i c σ hh Cj ⟨z4,z5,rfl,rfl⟩ Q hQ;have nH:=We Cj;have E:dk (di rows (cs.take (i+1)))=Z7 (dk (di rows (cs.take i))) (fX rows (cZ c)):=by
   rw[Vj,Cj];simp only[di,wB,ud,Va,Xl];exact HK ..
  have rl:=(Kx (most:=most) (di rows (cs.take i)) (λx hx=>by
   obtain⟨c',iz,rfl⟩:=Wd.mp hx;exact SB c' (Um iz))).2.2
  have el:(dk (di rows (cs.take i))).length<=300:=by
   have:(di rows (cs.take i)).length<=300:=by simp[di];lia
   lia
  rw[E] at hQ;generalize dk (di rows (cs.take i))=st at *;have D7:=SH (h++[.lst ((st.map ya).map .f),.dead]) c nH;generalize fX rows (cZ c)=x at *;have ci:∀ M,Ze (h++[.lst M,.dead]) h.length=some M:=λM=>yf h [.dead] M;have sP:∀ M ys,Zd (h++[.lst M,.dead]) h.length ys=h++[.lst ys,.dead]:=λM ys=>qg h [.dead] M ys
  rcases Wy st with rfl|⟨a,q,rfl⟩
  ·rw[yF] at hQ;have hQ:=λz4 z5=>hQ _ _ ⟨z4,z5,rfl,rfl⟩;simp at D7 hQ;simp[Qh,D7,ci,sP,Yb];exact hQ _ _
  ·rw[xy] at *;rw[F3] at hQ;have ll:yt true "len" [.ref h.length] (h++[.lst (((a++[q]).map ya).map .f),.dead])=.ok (I ((a.length:Int)+1)) (h++[.lst (((a++[q]).map ya).map .f),.dead]):=by
    simp only[Qo,zo,zp,yi,Zl,qk,Qk,yo,Yl,ql,Qa,ci,qc,wc,ue,Vc,ui,Int.natCast_add];rfl
   have gt:(0:Int)<(a.length:Int)+1:=by lia
   have al:dR (((a++[q]).map ya).map MV.f) (-1)=some (.f (ya q)):=by
    rw[ud,ud];exact DM _ _
   have ix:jX (((a++[q]).map ya).map MV.f).length (-1)=some a.length:=by
    simp[jX];lia
   have s0:∀ hh,Qa hh (.f (ya q))=some [I q.1,I q.2]:=λhh=>rfl;have q0:dR [I q.1,I q.2] 0=some (I q.1):=rfl;have q1:dR [I q.1,I q.2] 1=some (I q.2):=rfl;have sq:Qa (h++[.lst (((a++[q]).map ya).map .f),.dead]) (.ref h.length)=some (((a++[q]).map ya).map .f):=ci _;have se:(((a++[q]).map ya).map MV.f).set a.length (.f (.tup [.int x,.int (q.2+1)]))=((a++[(x,q.2+1)]).map ya).map MV.f:=by
    rw[ud,ud,Vx _ _ (by simp)];simp
   have ap:((a++[q]).map ya).map MV.f++[.f (.tup [.int x,.int 1])]=((a++[q]++[(x,1)]).map ya).map MV.f:=by simp
   have sz:(((a++[q]).map ya).map MV.f).length<aD:=by rw[Yb];simp at el ⊢;lia
   generalize ((a++[q]).map ya).map MV.f=M at *;generalize ya q=cq0 at *;have hQ:=λz4 z5=>hQ _ _ ⟨z4,z5,rfl,rfl⟩;by_cases c:q.1=x
   ·rw[if_pos c,<- se] at hQ;simp[Qh,D7,ll,gt,sq,al,s0,q0,q1,c,ci,ix,sP,Ys,qx];exact hQ _ _
   ·rw[if_neg c,<- ap] at hQ;simp[Qh,D7,ll,gt,sq,al,s0,q0,q1,c,ci,ix,sP,sz,Ys,qx];exact hQ _ _
 ·rintro σ hh ⟨z4,z5,rfl,rfl⟩;rw[Vi];have lv:=ZbZ h [.dead] ((dk (di rows cs)).map ya);simp at lv;simp[lv];exact hQ _ _ ⟨rfl,by simp⟩
end
end MP
end
section
namespace MP
open PySem
section
variable (n:Nat) (h:MH)
theorem KG(hh:MH)(b:Bool)(st:List (Int×Int)):Qa hh (.f (sq b (st.map ya)))=some (st.map (MV.f∘ya))/\qe hh (.f (sq b (st.map ya)))=[]:=by
 cases b <;> exact⟨by simp[sq],rfl⟩
theorem MQ(b:Bool)(st:List (Int×Int))(most:Int)(N:Nat)(hl:st.length<=1000) :
  (Yh most N st->run prog (n+1) "ask_stretches" [.f (sq b (st.map ya)),I most,I N] h=.ok (.f .bh) h) /\
  (¬ Yh most N st->run prog (n+1) "ask_stretches" [.f (sq b (st.map ya)),I most,I N] h=.exc "NoStretches" h):=by
 have key:(Yh most N st/\run prog (n+1) "ask_stretches" [.f (sq b (st.map ya)),I most,I N] h=.ok (.f .bh) h)\/(¬ Yh most N st/\run prog (n+1) "ask_stretches" [.f (sq b (st.map ya)),I most,I N] h=.exc "NoStretches" h):=by
  have sR:∀ hh,i5 "seq" [.f (sq b (st.map ya))] hh=some (st.map (MV.f∘ya),[]):=λhh=>by
   have:=KG hh b st;simp only[yu,this.1,this.2,uh]
  have tq:∀ q:Int×Int,Yj (.f (ya q))=some [I q.1,I q.2]:=λq=>rfl;rw[qag];simp only[bS];generalize sq b (st.map ya)=sv at *;simp[sR];refine QbH (c:="NoStretches") (Q:=λr=>(Yh most N st/\yc h r=.ok (.f .bh) h)\/(¬ Yh most N st/\yc h r=.exc "NoStretches" h)) (e:=MV.f∘ya) st (λi σ hh=>(∃ z3 z4:Option MV,σ=[some (.f sv),some (I most),some (I N),z3,z4])/\hh=h/\∀ q∈st.take i,1<=q.2/\0<=q.1/\q.1<=most) (λh'=>h'=h/\¬ Yh most N st) (λ_ _ _ _=>zK _) ⟨⟨none,none,rfl⟩,rfl,by simp⟩ ?_ ?_ ?_
  ·rintro i q σ hh hq ⟨⟨z3,z4,rfl⟩,rfl,ih⟩;have hm:=We hq;by_cases c1:q.2<1
   ·exact .inr ⟨_,by simp[Qh,tq,c1],rfl,λg=>by have:=(g.1 q hm).1;lia⟩
   ·by_cases c2:q.1<0
    ·exact .inr ⟨_,by simp[Qh,tq,c1,c2],rfl,λg=>by have:=(g.1 q hm).2;lia⟩
    ·by_cases c3:most<q.1
     ·exact .inr ⟨_,by simp[Qh,tq,c1,c2,c3],rfl,λg=>by have:=(g.1 q hm).2;lia⟩
     ·refine .inl ⟨_,_,by simp[Qh,tq,c1,c2,c3];exact⟨rfl,rfl⟩,⟨_,_,rfl⟩,rfl,λp hp=>?_⟩;rw[Vj,hq] at hp
      rcases vf.mp hp with hp|hp
      ·exact ih p hp
      ·simp at hp;subst hp;lia
  ·rintro σ hh ⟨⟨z3,z4,rfl⟩,rfl,ih⟩;rw[Vi] at ih;have su:∀(ns:List Int) hh,yt true "sum" [.f (.lst (ns.map FV.int))] hh=.ok (I ns.sum) hh:=λns hh=>by
    simp only[Qo,zo,zp,yi,Zl,qk,Qk,yo,Yl,ql,Qa,Ue,wm,NP,qc]
   have nl:∀(ns:List Int) hh,Yq true (ns.map (MV.f∘FV.int)) hh=.ok (.f (.lst (ns.map FV.int))) hh:=λns hh=>by
    rw[<- Ue];exact Zc ..
   have em:(st.map λq:Int×Int=>I q.2)=(st.map (·.2)).map (MV.f∘FV.int):=by simp
   have sz:([]:List MV).length+st.length<=aD:=by rw[Yb];simp;lia
   by_cases c:(st.map (·.2)).sum=(N:Int)
   ·left
    refine⟨⟨ih,c⟩,?_⟩;simp[sR,MP.stM];rw[qp (e:=MV.f∘ya) (g:=λq:Int×Int=>I q.2) (caps:=[]) st [] none none sz (λq _ z w=>⟨some (I q.1),some (I q.2),by simp[zk,tq]⟩),R.aH,Vf,em];generalize st.map (·.2)=cs at *;simp[nl,su,c]
   ·right
    refine⟨λg=>c g.2,?_⟩;simp[sR,MP.stM];rw[qp (e:=MV.f∘ya) (g:=λq:Int×Int=>I q.2) (caps:=[]) st [] none none sz (λq _ z w=>⟨some (I q.1),some (I q.2),by simp[zk,tq]⟩),R.aH,Vf,em];generalize st.map (·.2)=cs at *;simp[nl,su,c]
  ·rintro h' ⟨rfl,ng⟩
   right
   exact⟨ng,by simp[yc]⟩
 rcases key with ⟨g,e⟩|⟨g,e⟩
 ·exact⟨λ_=>e,λq=>absurd g q⟩
 ·exact⟨λq=>absurd q g,λ_=>e⟩
end
end MP
end
section
namespace MP
open PySem
theorem Pa:∀(cs:List (Nat×Nat)) (xs:List Int),((cs.map (MV.f∘Za)).zip (xs.map (MV.f∘FV.int))).map (λp=>Qi [p.1,p.2])=(((cs.map cZ).zip xs).map sD).map MV.f
 |[],xs=>by simp
 |_::_,[]=>by simp
 |c::cs,x::xs=>by
  simp only[Va,uG,gm.injEq];exact⟨rfl,Pa cs xs⟩
section
variable (n:Nat) (h:MH)
theorem za3(most a b)(no:¬(1<=a/\1<=b))(w sv):run prog (n+6) "laid_along" [I most,I a,I b,w,sv] h=.exc "OutOfPicture" h:=by
 have A:=Yk (n+4) h a b;rw[if_neg no] at A;rw[zy];simp only[bB];simp[A]
theorem Za2(most:Int)(H W:Nat)(h1:1<=H)(w1:1<=W)(hm:most<1)(w sv:MV):run prog (n+6) "laid_along" [I most,I H,I W,w,sv] h=.exc "NoPicture" h:=by
 have A:=Yk (n+4) h H W;rw[if_pos ⟨by lia,by lia⟩] at A;rw[zy];simp only[bB];simp[A,hm]
theorem Ybx(most:Int)(H W:Nat)(h1:1<=H)(w1:1<=W)(hm:1<=most)(w:FV)(cs:List (Nat×Nat))(wr:nN w H W cs)(b:Bool)(st:List (Int×Int))(hl:st.length<=1000)(ng:¬ Yh most cs.length st) :
  run prog (n+6) "laid_along" [I most,I H,I W,.f w,.f (sq b (st.map ya))] h=.exc "NoStretches" h:=by
 have A:=Yk (n+4) h H W;rw[if_pos ⟨by lia,by lia⟩] at A;obtain⟨c,f,cm,mo,O⟩:=ZO h w H W cs wr;have O:=O n;have F:=Zt h (cs.map Za) [];have AS:=(MQ (n+4) (h++[.dead]) b st most cs.length hl).2 ng;have ln:∀ hh,yt true "len" [.f (.lst (cs.map Za))] hh=.ok (I (cs.length:Int)) hh:=λhh=>by simp[Qo,zo,zp,yi,Zl,qk,Qk,yo,Yl,ql,Qa]
 have lx:YL h "NoStretches" (h++[.dead])=.exc "NoStretches" h:=by
  unfold YL;rw[if_pos (bZ.app h _)];simp
 have m1:¬ most<1:=by lia
 generalize sq b (st.map ya)=sv at *;generalize FV.lst (cs.map Za)=cl at *;rw[zy];simp only[bB];simp at O F AS;simp[A,m1,cm,mo,O,F,ln,AS,lx]
theorem qcp(most:Int)(H W:Nat)(h1:1<=H)(h2:H<=1000)(w1:1<=W)(w2:W<=1000)(hm:1<=most)(w:FV)(cs:List (Nat×Nat))(wr:nN w H W cs)(b:Bool)(st:List (Int×Int))(hl:st.length<=1000)(g:Yh most cs.length st) :
  run prog (n+6) "laid_along" [I most,I H,I W,.f w,.f (sq b (st.map ya))] h=.ok (.f (yq most (zr (Zv H W) ((cs.map cZ).zip (Zp st))))) h:=by
 refine fi.eq λQ hQ=>?_;have A:=Yk (n+4) h H W;rw[if_pos ⟨by lia,by lia⟩] at A;obtain⟨c,f,cm,mo,O⟩:=ZO h w H W cs wr;have O:=O n;have F:=Zt h (cs.map Za) [];have AS:=(MQ (n+4) (h++[.dead]) b st most cs.length hl).1 g;have ln:∀ hh,yt true "len" [.f (.lst (cs.map Za))] hh=.ok (I (cs.length:Int)) hh:=λhh=>by simp[Qo,zo,zp,yi,Zl,qk,Qk,yo,Yl,ql,Qa]
 have m1:¬ most<1:=by lia
 have sR:∀ hh,i5 "seq" [.f (sq b (st.map ya))] hh=some (st.map (MV.f∘ya),[]):=λhh=>by
  have:=KG hh b st;simp only[yu,this.1,this.2,uh]
 have tq:∀ q:Int×Int,Yj (.f (ya q))=some [I q.1,I q.2]:=λq=>rfl;have el:=LL (most:=most) (N:=0) λq hq=>(g.1 q hq).1;rw[g.2] at el;obtain⟨_,hc,oQ,_⟩:=wr;have LO:=Yba (n+1) (h++[.dead,.lst ((Zp st).map (MV.f∘FV.int))]) most H W hm h1 h2 w1 w2 false ((cs.map cZ).zip (Zp st)) (λp hp=>by
  obtain⟨p1,p2⟩:=p;have z1:=uv hp;obtain⟨c',iz,e⟩:=Wd.mp z1.1;obtain⟨q,hq,e2⟩:=Qcn z1.2;have a:=hc c' iz;have b:=g.1 q hq;subst e;simp only[cZ] at *;rw[e2];exact⟨by lia,by lia⟩)
 have ZL:∀ xs:List Int,sH (.lB true) (.f (.lst (cs.map Za))) (.ref (h.length+1)) (h++[.dead,.lst (xs.map (MV.f∘FV.int))])=.ok (.f (sq false (((cs.map cZ).zip xs).map sD))) (h++[.dead,.lst (xs.map (MV.f∘FV.int))]):=λxs=>by
  have e1:Qa (h++[.dead,.lst (xs.map (MV.f∘FV.int))]) (.ref (h.length+1))=some (xs.map (MV.f∘FV.int)):=by
   have:=yf (h++[.dead]) [] (xs.map (MV.f∘FV.int));simpa[Qa] using this
  have e2:∀ hh,Qa hh (.f (.lst (cs.map Za)))=some (cs.map (MV.f∘Za)):=λhh=>by simp
  have e3:=Pa cs xs;simp only[sH,e1,e2,qc,e3];exact Zc ..
 generalize EI:sq b (st.map ya)=sv at *;have ZL:=ZL (Zp st);generalize hz:sq false (((cs.map cZ).zip (Zp st)).map sD)=zv at *;generalize Jv:FV.lst (cs.map Za)=cl at *;rw[zy];simp only[bB];simp at O F AS;simp[A,m1,cm,mo,O,F,ln,AS,sR];refine QN (Q:=λr=>fi (yc _ r) _) (e:=MV.f∘ya) st (λi σ hh=>∃(z7 z8:Option MV),hh=h++[.dead,.lst ((Zp (st.take i)).map (MV.f∘FV.int))]/\σ=[some (I most),some (I H),some (I W),some (.f w),some (.f sv),some (.f cl),some (.ref (h.length+1)),z7,z8]) ⟨none,none,by simp[Zp],rfl⟩ ?_ ?_
 ·rintro i q σ hh hq ⟨z7,z8,rfl,rfl⟩ Q hQ;have hm:=We hq;have E:Zp (st.take (i+1))=Zp (st.take i)++va q.2.toNat q.1:=by
   rw[Vj,hq,yM];simp[Zp]
  have lt:(Zp (st.take i)).length+q.2.toNat<=300:=by
   have e:st=st.take i++st.drop i:=(uE i st).symm;have e2:(Zp st).length=(Zp (st.take (i+1))).length+(Zp (st.drop (i+1))).length:=by
    rw[<- ue,<- yM,uE]
   rw[E,ue,vk] at e2
   lia
  rw[E] at hQ;generalize Zp (st.take i)=es at *;have g1:=(g.1 q hm).1;have BM:∀ hh,qh true .mul (.f (.lst [.int q.1])) (I q.2) hh=.ok (.f (ze false (va q.2.toNat q.1))) hh:=λhh=>by
   have c:-(2^63)<=q.2/\q.2<2^63/\1*q.2.toNat<=aD:=⟨by lia,by lia,by rw[Yb];lia⟩;have e:(va q.2.toNat [MV.f (.int q.1)]).flatten=((va q.2.toNat q.1).map FV.int).map MV.f:=by
    rw[Wr];simp
   unfold qh;simp only[yd,listOf,qc,Va,Xl,Vc,ui,Xt];rw[if_pos c,e,Zc];rfl
  have OK:∀ M,Ze (h++[.dead,.lst M]) (h.length+1)=some M:=λM=>by
   have:=yf (h++[.dead]) [] M;simpa using this
  have sc1:∀ M ys,Zd (h++[.dead,.lst M]) (h.length+1) ys=h++[.dead,.lst ys]:=λM ys=>by
   have:=qg (h++[.dead]) [] M ys;simpa using this
  have EX:l0 "extend" (.ref (h.length+1)) [.f (ze false (va q.2.toNat q.1))] (h++[.dead,.lst (es.map (MV.f∘FV.int))])=.ok (.f .bh) (h++[.dead,.lst ((es++va q.2.toNat q.1).map (MV.f∘FV.int))]):=by
   show l0 "extend" (.ref (h.length+1)) [.f (.lst ((va q.2.toNat q.1).map FV.int))] _=_;rw[ZK,OK,qc,if_pos (by rw[Yb];simp;lia),sc1];simp
  have hQ:=λz7 z8=>hQ _ _ ⟨z7,z8,rfl,rfl⟩;generalize (es++va q.2.toNat q.1).map (MV.f∘FV.int)=M2 at *;generalize es.map (MV.f∘FV.int)=M1 at *;generalize ze false (va q.2.toNat q.1)=rv at *;simp[Qh,tq,OK,BM,EX,Zm];exact hQ _ _
 ·rintro σ hh ⟨z7,z8,rfl,rfl⟩;rw[Vi];generalize (Zp st).map (MV.f∘FV.int)=M at *;generalize yq most (zr (Zv H W) ((cs.map cZ).zip (Zp st)))=pv at *;have lv:ym h (.f pv) (h++[.dead,.lst M])=.ok (.f pv) h:=KC h [.dead,.lst M] pv;simp[ZL,LO,lv];exact hQ _ _ ⟨rfl,rfl⟩
end
end MP
end
section
namespace MP
open PySem
section
variable (n:Nat) (h:MH)
theorem Qcw(a0 a1 a2 a3 a4)(pv)(R:run prog (n+6) "laid_along" [a0,a1,a2,a3,a4] h=.ok (.f pv) h):run prog (n+7) "_law_told" [a0,a1,a2,a3,a4] h=.ok (.f (.tup [.str "laid",pv])) h:=by
 rw[Q6];simp only[cW];simp[R,Qi,Zm]
theorem FG(a0 a1 a2 a3 a4)(c)(s)(hs:prog.word "_law_word" c=some s)(R:run prog (n+6) "laid_along" [a0,a1,a2,a3,a4] h=.exc c h):run prog (n+7) "_law_told" [a0,a1,a2,a3,a4] h=.ok (.f (.tup [.str "no",.str s])) h:=by
 rw[Q6];simp only[cW];simp[R,hs]
theorem RG(most)(a1 a2 a3 a4)(R)(hl:R.length<=1000)(hw:∀ r∈R,r.length<=1000)(RL:run prog (n+6) "laid_along" [I most,a1,a2,a3,a4] h=.ok (.f (yq most R)) h) :
  run prog (n+8) "_law_laid" [I most,a1,a2,a3,a4,.f (ye true true R)] h=.ok (B true) h:=by
 have T:=Qcw n h _ _ _ _ _ _ RL;have S1:=zH (n+6) h 1 (.int most) (by simp[jY]);have S2:=zH (n+4) h 3 (ye true true R) (Qck true true R hl hw);have p1:∀ hh,nM prog.jM "most" (.f (yq most R)) hh=some (I most):=λhh=>by simp[yq]
 have p2:∀ hh,nM prog.jM "rows" (.f (yq most R)) hh=some (.f (ye true true R)):=λhh=>by simp[yq]
 have i1:∀ hh,YN prog.subs hh (.f (yq most R)) "Picture"=some true:=λhh=>by simp[yq]
 have q0:∀ hh pv,Qa hh (.f (.tup [.str "laid",pv]))=some [.f (.str "laid"),.f pv]:=λhh pv=>rfl;have J5:∀ pv,dR [.f (.str "laid"),.f pv] 0=some (.f (.str "laid")):=λpv=>rfl;have J4:∀ pv,dR [.f (.str "laid"),.f pv] 1=some (.f pv):=λpv=>rfl;have ek:ly (.str (jk "laid")) (.str (jk "laid"))=some true:=by decide +kernel
 generalize yq most R=pv at *;generalize ye true true R=rv at *;rw[QaS];simp only[dE];simp[T,q0,J5,J4,i1,p1,p2,S1,S2,ek]
theorem ybg(most:Int)(rows:List (List Int))(H W:Nat)(d:Drawn most rows H W)(cs:List (Nat×Nat))(hc:∀ c∈cs,c.1<H/\c.2<W)(oQ:cs.length<=300) :
  run prog (n+1) "_law_counted" [.f (ye false false rows),.f (.lst (cs.map Za))] h=.ok (.f (.lst ((dk (di rows cs)).map ya))) h:=by
 refine fi.eq λQ hQ=>?_;have it:∀ hh,i5 "seq" [.f (.lst (cs.map Za))] hh=some (cs.map (MV.f∘Za),[]):=λhh=>by
  have q:Qa hh (.f (.lst (cs.map Za)))=some (cs.map (MV.f∘Za)):=by simp
  have g:qe hh (.f (.lst (cs.map Za)))=[]:=rfl;simp only[yu,q,uh,g]
 have qr:∀ hh,Qa hh (.f (ye false false rows))=some (rows.map (MV.f∘ze false)):=λhh=>by simp[ye]
 have RC:∀ c∈cs,(∃ r,dR (rows.map (MV.f∘ze false)) (c.1:Int)=some (.f (ze false r))/\(∀ hh,Qa hh (.f (ze false r))=some (r.map (MV.f∘FV.int)))/\dR (r.map (MV.f∘FV.int)) (c.2:Int)=some (I (fX rows (cZ c))))/\0<=fX rows (cZ c)/\fX rows (cZ c)<=most:=λc nH=>by
  have n9:=hc c nH;obtain⟨r,e1,e2,q⟩:=Di d (p:=cZ c) ⟨by simp[cZ],by simp[cZ];lia,by simp[cZ],by simp[cZ];lia⟩;refine⟨⟨r,?_,λhh=>by simp[ze],?_⟩,q⟩
  ·rw[Qr,Xc,show rows[c.1]?=some r by simpa[cZ] using e1];rfl
  ·rw[Qr,Xc,show r[c.2]?=some (fX rows (cZ c)) by simpa[cZ] using e2];rfl
 have tc:∀ c:Nat×Nat,Yj (.f (Za c))=some [I (c.1:Int),I (c.2:Int)]:=λc=>rfl;generalize B4:ye false false rows=rv at *;generalize Jv:FV.lst (cs.map Za)=OJ at *;rw[yap];simp only[cj];simp[it];refine QN (Q:=λr=>fi (yc _ r) _) (e:=MV.f∘Za) cs (λi σ hh=>∃(z3 z4 z5:Option MV),hh=h++[.lst (((dk (di rows (cs.take i))).map ya).map .f)]/\σ=[some (.f rv),some (.f OJ),some (.ref h.length),z3,z4,z5]) ⟨none,none,none,by simp[di,dk],rfl⟩ ?_ ?_
 ·rintro i c σ hh Cj ⟨z3,z4,z5,rfl,rfl⟩ Q hQ;have nH:=We Cj;obtain⟨⟨r,ra,rq,rc⟩,_⟩:=RC c nH;have E:dk (di rows (cs.take (i+1)))=Z7 (dk (di rows (cs.take i))) (fX rows (cZ c)):=by
   rw[Vj,Cj];simp only[di,wB,ud,Va,Xl];exact HK ..
  have rl:=(Kx (most:=most) (di rows (cs.take i)) (λx hx=>by
   obtain⟨c',iz,rfl⟩:=Wd.mp hx;exact(RC c' (Um iz)).2)).2.2
  have el:(dk (di rows (cs.take i))).length<=300:=by
   have:(di rows (cs.take i)).length<=300:=by simp[di];lia
   lia
  rw[E] at hQ;generalize dk (di rows (cs.take i))=st at *;generalize fX rows (cZ c)=x at *;have ci:∀ M,Ze (h++[.lst M]) h.length=some M:=λM=>yf h [] M;have sP:∀ M ys,Zd (h++[.lst M]) h.length ys=h++[.lst ys]:=λM ys=>qg h [] M ys;have nF:∀ M,Qa (h++[.lst M]) (.ref h.length)=some M:=ci;have ll:∀ M,yt true "len" [.ref h.length] (h++[.lst M])=.ok (I (M.length:Int)) (h++[.lst M]):=λM=>by simp only[Qo,zo,zp,yi,Zl,qk,Qk,yo,Yl,ql,nF,qc]
  have hQ:=λz3 z4 z5=>hQ _ _ ⟨z3,z4,z5,rfl,rfl⟩;have s0:∀ hh (q:Int×Int),Qa hh (.f (ya q))=some [I q.1,I q.2]:=λhh q=>rfl;have q0:∀ q:Int×Int,dR [I q.1,I q.2] 0=some (I q.1):=λq=>rfl;have q1:∀ q:Int×Int,dR [I q.1,I q.2] 1=some (I q.2):=λq=>rfl
  -- pf last of a list
  have la:∀(a:List (Int×Int)) (q:Int×Int),dR (((a++[q]).map ya).map MV.f) ((((a++[q]).map ya).map MV.f).length-1:Int)=some (.f (ya q))/\jX (((a++[q]).map ya).map MV.f).length ((((a++[q]).map ya).map MV.f).length-1:Int)=some a.length:=λa q=>by
   have e:((((a++[q]).map ya).map MV.f).length-1:Int)=(a.length:Int):=by simp
   rw[e];refine⟨?_,?_⟩
   ·rw[Qr];simp
   ·unfold jX;rw[if_pos (by lia),if_pos (by simp;lia)];simp
  have se:∀(a:List (Int×Int)) (q p:Int×Int),(((a++[q]).map ya).map MV.f).set a.length (.f (ya p))=((a++[p]).map ya).map MV.f:=λa q p=>by
   rw[ud,ud,Vx _ _ (by simp)];simp
  have ap:∀(a:List (Int×Int)) (p:Int×Int),(a.map ya).map MV.f++[.f (ya p)]=((a++[p]).map ya).map MV.f:=λa p=>by simp
  have lA:=la st (x,0);have seA:=se st (x,0) (x,0+1);have apA:=ap st (x,0);have M9:((st.map ya).map MV.f).length<aD:=by rw[Yb];simp;lia
  have nz:(((st++[(x,0)]).map ya).map MV.f).length=st.length+1:=by simp
  have eA:ya (x,0)=.tup [.int x,.int 0]:=rfl;have eB:ya (x,0+1)=.tup [.int x,.int 1]:=rfl;have sA:=λhh=>s0 hh (x,0)
  rcases Wy st with rfl|⟨a,q,rfl⟩
  ·rw[yF] at hQ;have hQ:∀ z3 z4 z5,Q [some (MV.f rv),some (MV.f OJ),some (MV.ref h.length),z3,z4,z5] (h++[Cell.lst [.f (.tup [.int x,.int 1])]]):=hQ;have l1:=ll [];have l2:=ll [.f (.tup [.int x,.int 0])];have t0:Qa (h++[Cell.lst [.f (.tup [.int x,.int 0])]]) (.f (.tup [.int x,.int 0]))=some [I x,I 0]:=rfl;have t1:dR [I x,I 0] 1=some (I 0):=rfl;have t2:dR [MV.f (.tup [.int x,.int 0])] 0=some (.f (.tup [.int x,.int 0])):=rfl;have t3:jX 1 0=some 0:=rfl;simp at l1 l2;simp[Qh,tc,qr,ra,rq,rc,l1,ci,Yb,sP,l2,nF,t0,t1,t2,t3,Ys,qx];exact hQ _ _ _
  ·rw[xy] at *;rw[F3] at hQ;have lq:=la a q;have sq0:=se a q (x,q.2+1);have lM:(((a++[q]).map ya).map MV.f).length=a.length+1:=by simp
   have v8:((a.length:Int)+1==0)=false:=by simp
   have sQ:=λhh=>s0 hh q;have N5:=q0 q;have N4:=q1 q;by_cases c:q.1=x
   ·rw[if_pos c,<- sq0] at hQ;generalize ((a++[q]).map ya).map MV.f=M at *;have l1:=ll M;rw[lM] at l1 lq;push_cast at l1 lq;simp at lq;simp[Qh,tc,qr,ra,rq,rc,l1,v8,nF,lq,sQ,N5,N4,c,ci,sP,lM,Ys,qx];exact hQ _ _ _
   ·rw[if_neg c] at hQ;rw[show a++[q]++[(x,1)]=a++[q]++[(x,0+1)] from rfl,<- seA] at hQ;rw[<- apA] at hQ lA nz;generalize ((a++[q]).map ya).map MV.f=M at *;have l1:=ll M;have l2:=ll (M++[.f (ya (x,0))]);rw[lM] at l1 lq;rw[nz] at l2 lA;push_cast at l1 lq l2 lA;simp at lq lA;have sA':∀ hh,Qa hh (.f (.tup [.int x,.int 0]))=some [I x,I 0]:=λhh=>rfl;have tA:dR [I x,I 0] 1=some (I 0):=rfl;have lN:(M++[MV.f (ya (x,0))]).length=a.length+2:=by simp[lM]
    rw[eA] at *;rw[eB] at *;generalize hN:M++[MV.f (.tup [.int x,.int 0])]=NN at *;simp at l2 hQ;rw[lM] at M9;have i2:(a.length:Int)+2-1=a.length+1:=by lia
    simp[Qh,tc,qr,ra,rq,rc,l1,v8,nF,lq,sQ,N5,N4,c,ci,sP,lM,M9,hN,l2,i2,lA,sA',tA,lN,Ys,qx];exact hQ _ _ _
 ·rintro σ hh ⟨z3,z4,z5,rfl,rfl⟩;rw[Vi];have F:=Zt h ((dk (di rows cs)).map ya) [];generalize (dk (di rows cs)).map ya=xs at *;have lv:ym h (.f (.lst xs)) (h++[.dead])=.ok (.f (.lst xs)) h:=KC h [.dead] _;simp[F,lv];exact hQ _ _ ⟨rfl,rfl⟩
end
end MP
end
section
namespace MP
open PySem
theorem DF{st:List (Int×Int)}{k:Nat}{q:Int×Int}(h:st[k]?=some q):(st.map (·.2)).sum=((st.take k).map (·.2)).sum+q.2+((st.drop (k+1)).map (·.2)).sum:=by
 obtain⟨hl,rfl⟩:=xa.mp h;have e:st=st.take k++st[k]::st.drop (k+1):=by simp
 have:(st.map (·.2)).sum=((st.take k++st[k]::st.drop (k+1)).map (·.2)).sum:=by rw[<- e]
 rw[this];simp only[ud,Va,Xm,xp]
 lia
theorem qcB{most:Int}{N:Nat}{st:List (Int×Int)}{k:Nat}{q p:Int×Int}(g:Yh most N st)(h:st[k]?=some q)(b:p.2<1\/p.1<0\/most<p.1\/p.2≠q.2):¬ Yh most N (st.set k p):=by
 obtain⟨hl,hq⟩:=xa.mp h;intro g';have hp:=g'.1 p (List.mem_set hl p);have e:=g'.2;rw[List.set_eq_take_append_cons_drop,if_pos hl] at e;simp only[ud,Va,Xm,xp] at e;have:=DF h;have:=g.2
 lia
theorem Zcz{most:Int}{N:Nat}{st:List (Int×Int)}{k:Nat}{q:Int×Int}(g:Yh most N st)(h:st[k]?=some q):¬ Yh most N (st.take k++q::st.drop k):=by
 obtain⟨hl,hq⟩:=xa.mp h;intro g';have hp:=g.1 q (We h);have e:=g'.2;have e2:st.drop k=q::st.drop (k+1):=by rw[wq hl,hq]
 rw[e2] at e;simp only[ud,Va,Xm,xp] at e;have:=DF h;have:=g.2
 lia
theorem zcG{most:Int}{N:Nat}{st:List (Int×Int)}{k:Nat}{q:Int×Int}(g:Yh most N st)(h:st[k]?=some q):¬ Yh most N (st.take k++st.drop (k+1)):=by
 intro g';have hp:=g.1 q (We h);have e:=g'.2;simp only[ud,Xm] at e;have:=DF h;have:=g.2
 lia
theorem Yb9(most m:Int)(q:Int×Int)(hm:0<=m)(IG:m<1999999973)(hq:1<=q.2)(Iq:q.2<=300)(c:m%9<7) :
  ∃ p:Int×Int,dR [.f (.tup [.int q.1,.int 0]),.f (.tup [.int q.1,.int (-1-m/100%50)]),.f (.tup [.int q.1,.int (q.2+1)]),.f (.tup [.int q.1,.int (100000000000000000000000000000-m)]),.f (.tup [.int (-1-m/100%9),.int q.2]),.f (.tup [.int (most+1),.int q.2]),.f (.tup [.int (most+(100000000000000000000000000000-m)),.int q.2])] (m%9)=some (.f (ya p))/\(p.2<1\/p.1<0\/most<p.1\/p.2≠q.2):=by
 have b1:=mod_lt (m/100) 50 (by decide);have b2:=mod_lt (m/100) 9 (by decide);have b3:=mod_lt m 9 (by decide);have d:m%9=0\/m%9=1\/m%9=2\/m%9=3\/m%9=4\/m%9=5\/m%9=6:=by lia
 rcases d with e|e|e|e|e|e|e <;> rw[e]
 ·exact⟨(q.1,0),rfl,by simp⟩
 ·exact⟨(q.1,-1-m/100%50),rfl,.inl (by simp;lia)⟩
 ·exact⟨(q.1,q.2+1),rfl,.inr (.inr (.inr (by simp only;lia)))⟩
 ·exact⟨(q.1,100000000000000000000000000000-m),rfl,.inr (.inr (.inr (by simp;lia)))⟩
 ·exact⟨(-1-m/100%9,q.2),rfl,.inr (.inl (by simp;lia))⟩
 ·exact⟨(most+1,q.2),rfl,.inr (.inr (.inl (by simp;lia)))⟩
 ·exact⟨(most+(100000000000000000000000000000-m),q.2),rfl,.inr (.inr (.inl (by simp;lia)))⟩
section
variable (n:Nat) (h:MH)
theorem ybW(ns:List Int)(k:Int)(hk:0<=k)(mQ:k<900000)(most:Int)(N:Nat)(hN:N<=300)(st:List (Int×Int))(hl:st.length<=300)(g:Yh most N st) :
  ∃ ps:List (Int×Int),¬ Yh most N ps/\ps.length<=301/\run prog (n+2) "_law_wrong" [.f (.eZ ns),.ref 0,I most,.f (.lst (st.map ya))] (atC k::h)=.ok (.f (.lst (ps.map ya))) (atC (k+1)::h):=by
 suffices fi (run prog (n+2) "_law_wrong" [.f (.eZ ns),.ref 0,I most,.f (.lst (st.map ya))] (atC k::h)) λv h'=>∃ ps:List (Int×Int),¬ Yh most N ps/\ps.length<=301/\v=.f (.lst (ps.map ya))/\h'=atC (k+1)::h by
  obtain⟨v,h',e,ps,p1,p2,rfl,rfl⟩:=this;exact⟨ps,p1,p2,e⟩
 refine fi.of λQ hQ=>?_;have N0:=ZJ n h ns k hk (by lia);have hd:=Dc ns (k+1);generalize mH ns (k+1)=m at N0 hd;have q1:∀ hh,Qa hh (.f (.lst (st.map ya)))=some (st.map (MV.f∘ya)):=λhh=>by simp
 have bl:∀ hh,yt false "list" [.f (.lst (st.map ya))] hh=.ok (.ref hh.length) (hh++[.lst (st.map (MV.f∘ya))]):=λhh=>by
  simp only[Qo,zo,zp,yi,Zl,qk,Qk,yo,Yl,ql,q1,qc,Yq]
 have cl:∀(k:Int) M,Ze (atC k::(h++[.lst M])) (h.length+1)=some M:=λk M=>yf (atC k::h) [] M;have sc:∀(k:Int) M ys,Zd (atC k::(h++[.lst M])) (h.length+1) ys=atC k::(h++[.lst ys]):=λk M ys=>qg (atC k::h) [] M ys;have nF:∀(k:Int) M,Qa (atC k::(h++[.lst M])) (.ref (h.length+1))=some M:=cl;have ll:∀(k:Int) M,yt true "len" [.ref (h.length+1)] (atC k::(h++[.lst M]))=.ok (I (M.length:Int)) (atC k::(h++[.lst M])):=λk M=>by simp only[Qo,zo,zp,yi,Zl,qk,Qk,yo,Yl,ql,nF,qc]
 have OP:=bl (atC (k+1)::h);simp at OP;have l1:=ll (k+1) (st.map (MV.f∘ya));have GR:=nF (k+1) (st.map (MV.f∘ya));have E3:=cl (k+1) (st.map (MV.f∘ya));have GV:=sc (k+1) (st.map (MV.f∘ya));rw[wc] at l1;have fr:∀ ps:List (Int×Int),qN (.ref (h.length+1)) (atC (k+1)::(h++[.lst ((ps.map ya).map MV.f)]))=.ok (.f (.lst (ps.map ya))) (atC (k+1)::(h++[.dead])):=λps=>Zt (atC (k+1)::h) (ps.map ya) [];have fin:=λ(ps:List (Int×Int)) p1 p2=>hQ (.f (.lst (ps.map ya))) _ ⟨ps,p1,p2,rfl,rfl⟩;by_cases c0:st=[]
 ·subst c0;have f1:=fin [(0,1)] (λg'=>by have a:=g.2;have b:=g'.2;simp at a b;lia) (by simp);rw[Zy];simp only[bC];simp at l1;simp[N0,OP,l1,Zm];exact f1
 ·have hp:0<st.length:=Wo.mpr c0;have bK:=mod_lt (m/9) (st.length:Int) (by lia);obtain⟨K,hK⟩:=Vn bK.1;have hKl:K<st.length:=by lia
  obtain⟨q,hq⟩:∃ q,st[K]?=some q:=⟨st[K],by simp[hKl]⟩;have gq:=g.1 q (We hq);have HQ:q.2<=300:=by
   have s1:=DF hq;have s2:∀ l:List (Int×Int),(∀ x∈l,x∈st)->0<=(l.map (·.2)).sum:=λl=>by
    induction l with
    |nil=>intro _;simp
    |cons x l ih =>
     intro hx;have a:=ih λy hy=>hx y (by simp[hy]);have b:=(g.1 x (hx x (by simp))).1;simp only[Va,xp];lia
   have a:=s2 (st.take K) λx hx=>Um hx;have b:=s2 (st.drop (K+1)) λx hx=>List.mem_of_mem_drop hx;have:=g.2
   lia
  have v8:((st.length:Int)==0)=false:=by simp;lia
  have mL:∀ hh,qh true .mod (I (m/9)) (I (st.length:Int)) hh=.ok (I (K:Int)) hh:=λhh=>by rw[Zg _ _ _ (by lia),hK]
  have pw:∀ hh,qh true .pow (I 10) (I 29) hh=.ok (I 100000000000000000000000000000) hh:=λhh=>K2 true 10 29 (by decide);have ct:=λ(xs ys:List FV) hh c=>qcn xs ys hh c;have aK:dR (st.map (MV.f∘ya)) (K:Int)=some (.f (ya q)):=by rw[Qr,Xc,hq];rfl
  have tq:Yj (.f (ya q))=some [I q.1,I q.2]:=rfl;have ix:jX (st.map (MV.f∘ya)).length (K:Int)=some K:=by
   rw[wc];unfold jX;rw[if_pos (by lia),if_pos (by lia)];simp
  have gK:(st.map (MV.f∘ya))[K]?=some (.f (ya q)):=by rw[Xc,hq];rfl
  have kb:(K:Int)<9223372036854775808:=by lia
  have sz:(st.map (MV.f∘ya)).length<aD:=by rw[Yb,wc];lia
  have lM:(st.map (MV.f∘ya)).length=st.length:=wc ..;have seE:∀ p:Int×Int,(st.map (MV.f∘ya)).set K (.f (ya p))=((st.set K p).map ya).map MV.f:=λp=>by rw[Ue,List.map_set];rfl
  have inE:YI (st.map (MV.f∘ya)) (K:Int) (.f (ya q))=((st.take K++q::st.drop K).map ya).map MV.f:=by
   have:=Za1 (MV.f∘ya) st (K:Int) q;have e:oW st.length 0 (some (K:Int))=K:=by simp[oW];lia
   rw[e] at this;rw[Ue];exact this
  have poE:(st.map (MV.f∘ya)).take K++(st.map (MV.f∘ya)).drop (K+1)=((st.take K++st.drop (K+1)).map ya).map MV.f:=by simp
  by_cases c7:m%9<7
  ·obtain⟨p,ap,bp⟩:=Yb9 most m q hd.1 hd.2 gq.1 HQ c7;have f1:=fin _ (qcB g hq bp) (by rw[kn];lia);have F1:=fr (st.set K p);rw[<- seE p] at F1;generalize hM:st.map (MV.f∘ya)=M at *;generalize Ow:FV.lst ((st.set K p).map ya)=rv at *;generalize EI:FV.lst (st.map ya)=sv at *;generalize ya q=cq at *;generalize ya p=cp at *;rw[Zy];simp only[bC];simp[N0,q1,l1,v8,mL,GR,aK,tq,pw,Zm,ct,c7,ap,E3,ix,GV,F1,Zg,yg,QU,Ys,qx];exact f1
  ·by_cases c8:m%9=7
   ·have f1:=fin _ (Zcz g hq) (by simp;lia);have F1:=fr (st.take K++q::st.drop K);rw[<- inE] at F1;have cqe:ya q=.tup [.int q.1,.int q.2]:=rfl;rw[cqe] at *;generalize hM:st.map (MV.f∘ya)=M at *;generalize Ow:FV.lst ((st.take K++q::st.drop K).map ya)=rv at *;generalize EI:FV.lst (st.map ya)=sv at *;rw[Zy];simp only[bC];simp[N0,q1,l1,v8,mL,GR,aK,pw,Zm,ct,c8,E3,sz,kb,GV,F1,Zg,yg,QU,Ys,qx];exact f1
   ·have f1:=fin _ (zcG g hq) (by simp;lia);have F1:=fr (st.take K++st.drop (K+1));rw[<- poE] at F1;have PO:l0 "pop" (.ref (h.length+1)) [I (K:Int)] (atC (k+1)::(h++[.lst (st.map (MV.f∘ya))]))=.ok (.f (ya q)) (atC (k+1)::(h++[.lst ((st.map (MV.f∘ya)).take K++(st.map (MV.f∘ya)).drop (K+1))])):=by
     rw[Mb,E3,qc,ix,qc,gK,qc,if_pos ⟨by lia,by lia⟩,GV]
    generalize (st.map (MV.f∘ya)).take K++(st.map (MV.f∘ya)).drop (K+1)=P at *;generalize hM:st.map (MV.f∘ya)=M at *;generalize Ow:FV.lst ((st.take K++st.drop (K+1)).map ya)=rv at *;generalize EI:FV.lst (st.map ya)=sv at *;generalize ya q=cq at *;rw[Zy];simp only[bC];simp[N0,q1,l1,v8,mL,GR,aK,tq,pw,Zm,ct,c7,c8,E3,PO,F1,-Mb,Zg,yg,QU,Ys,qx];exact f1
end
end MP
end
section
namespace MP
open PySem
theorem RO :∀{st:List (Int×Int)},(∀ q∈st,1<=q.2)->(Qs m st).length<=2*st.length
 |[],_=>by simp[Qs]
 |q::st,h=>by
  have a:=RO (m:=m) (st:=st) λp hp=>h p (by simp[hp]);have b:=(YW (m:=m) (h q (by simp))).2.2.2;simp only[Qs,Xk,ue,Vc] at *
  lia
section
variable (n:Nat) (h:MH)
theorem qbE(most:Int)(N:Nat)(st:List (Int×Int))(hl:st.length<=300)(g:Yh most N st)(m:Int) :
  run prog (n+1) "_law_parted" [.f (.lst (st.map ya)),I m] h=.ok (.f (sq true ((Qs m st).map ya))) h:=by
 refine fi.eq λQ hQ=>?_;have it:∀ hh,i5 "seq" [.f (.lst (st.map ya))] hh=some (st.map (MV.f∘ya),[]):=λhh=>by
  have:=KG hh false st;have e:sq false (st.map ya)=.lst (st.map ya):=rfl;rw[e] at this;simp only[yu,this.1,this.2,uh]
 have tq:∀ q:Int×Int,Yj (.f (ya q))=some [I q.1,I q.2]:=λq=>rfl;have cl:∀ M,Ze (h++[.lst M]) h.length=some M:=λM=>yf h [] M;have sc:∀ M ys,Zd (h++[.lst M]) h.length ys=h++[.lst ys]:=λM ys=>qg h [] M ys;generalize EI:FV.lst (st.map ya)=sv at *;rw[Yaw];simp only[cJ];simp[it];refine QN (Q:=λr=>fi (yc _ r) _) (e:=MV.f∘ya) st (λi σ hh=>∃(z3 z4 z5:Option MV),hh=h++[.lst (((Qs m (st.take i)).map ya).map .f)]/\σ=[some (.f sv),some (I m),some (.ref h.length),z3,z4,z5]) ⟨none,none,none,by simp[Qs],rfl⟩ ?_ ?_
 ·rintro i q σ hh hq ⟨z3,z4,z5,rfl,rfl⟩ Q hQ;have gq:=(g.1 q (We hq)).1;have E:Qs m (st.take (i+1))=Qs m (st.take i)++sx m q:=by
   rw[Vj,hq];simp[Qs]
  have pl:=RO (m:=m) (st:=st.take i) λx hx=>(g.1 x (Um hx)).1;have sl:(st.take i).length<=300:=by simp;lia
  have hQ:=λz3 z4 z5=>hQ _ _ ⟨z3,z4,z5,rfl,rfl⟩;rw[E] at hQ;generalize Qs m (st.take i)=ps at *;have mm:∀ hh,qh true .mod (I m) (I q.2) hh=.ok (I (m%q.2)) hh:=λhh=>Zg _ _ _ (by lia);have z1:((ps.map ya).map MV.f).length<aD:=by rw[Yb];simp;lia
  have z2:((ps.map ya).map MV.f++[MV.f (.tup [.int q.1,.int (1+m%q.2)])]).length<aD:=by rw[Yb];simp;lia
  unfold sx at hQ;by_cases c:1+m%q.2<q.2
  ·rw[if_pos c] at hQ;have e2:((ps++[(q.1,1+m%q.2),(q.1,q.2-(1+m%q.2))]).map ya).map MV.f=(ps.map ya).map MV.f++[.f (.tup [.int q.1,.int (1+m%q.2)])]++[.f (.tup [.int q.1,.int (q.2-(1+m%q.2))])]:=by simp
   rw[e2] at hQ;generalize (ps.map ya).map MV.f=M at *;generalize hM2:M++[MV.f (.tup [.int q.1,.int (1+m%q.2)])]=M2 at *;simp[Qh,tq,mm,cl,sc,z1,z2,c,hM2,Ys,qx];exact hQ _ _ _
  ·rw[if_neg c] at hQ;have e2:((ps++[(q.1,1+m%q.2)]).map ya).map MV.f=(ps.map ya).map MV.f++[.f (.tup [.int q.1,.int (1+m%q.2)])]:=by simp
   rw[e2] at hQ;generalize (ps.map ya).map MV.f=M at *;simp[Qh,tq,mm,cl,sc,z1,c,Ys,qx];exact hQ _ _ _
 ·rintro σ hh ⟨z3,z4,z5,rfl,rfl⟩;rw[Vi];have e3:sq true ((Qs m st).map ya)=.tup ((Qs m st).map ya):=rfl;rw[e3] at hQ;generalize (Qs m st).map ya=xs at *;have nF:∀ M,Qa (h++[.lst M]) (.ref h.length)=some M:=cl;simp[nF];exact hQ _ _ ⟨rfl,rfl⟩
end
end MP
end
section
namespace MP
open PySem
theorem QcD(GA CW:Nat)(m y:Int)(hm:0<=m)(hy:0<=y)(hy3:y<3):∃ a b:Int,dR [.f (.tup [.int 0,.int CW]),.f (.tup [.int GA,.int (-(m%5))]),.f (.tup [.int (-1),.int 0])] y=some (.f (.tup [.int a,.int b]))/\¬(1<=a/\1<=b):=by
 have b:=mod_lt m 5 (by decide);have d:y=0\/y=1\/y=2:=by lia
 rcases d with rfl|rfl|rfl
 ·exact⟨_,_,rfl,by lia⟩
 ·exact⟨_,_,rfl,by lia⟩
 ·exact⟨_,_,rfl,by lia⟩
section
variable (n:Nat) (h:MH)
theorem zb4(most a b)(no:¬(1<=a/\1<=b))(w sv):run prog (n+7) "_law_told" [I most,I a,I b,w,sv] h=.ok (.f (.tup [.str "no",.str "out"])) h :=
 FG n h (I most) (I a) (I b) w sv "OutOfPicture" "out" QaF (za3 n h most a b no w sv)
theorem QbV(most:Int)(H W:Nat)(h1:1<=H)(w1:1<=W)(hm:most<1)(w sv:MV):run prog (n+7) "_law_told" [I most,I H,I W,w,sv] h=.ok (.f (.tup [.str "no",.str "picture"])) h :=
 FG n h (I most) (I H) (I W) w sv "NoPicture" "picture" Qbo (Za2 n h most H W h1 w1 hm w sv)
theorem zcA(most:Int)(H W:Nat)(h1:1<=H)(w1:1<=W)(hm:1<=most)(w:FV)(cs:List (Nat×Nat))(wr:nN w H W cs)(st:List (Int×Int))(hl:st.length<=1000)(ng:¬ Yh most cs.length st):run prog (n+7) "_law_told" [I most,I H,I W,.f w,.f (.lst (st.map ya))] h=.ok (.f (.tup [.str "no",.str "stretches"])) h :=
 FG n h (I most) (I H) (I W) (.f w) (.f (.lst (st.map ya))) "NoStretches" "stretches" ZaP (Ybx n h most H W h1 w1 hm w cs wr false st hl ng)
theorem ybr(ns:List Int)(k:Int)(hk:0<=k)(mQ:k<800000)(most:Int)(hm:1<=most)(rows:List (List Int))(H W:Nat)(h1:1<=H)(w1:1<=W)(d:Drawn most rows H W)(w:FV)(cs:List (Nat×Nat))(wr:nN w H W cs)(st:List (Int×Int))(hl:st.length<=300)(g:Yh most cs.length st) :
  run prog (n+8) "_law_refused" [.f (.eZ ns),.ref 0,I most,.f (ye false false rows),.f w,.f (.lst (st.map ya))] (atC k::h)=.ok (B true) (atC (k+2)::h):=by
 refine fi.eq λQ hQ=>?_;have N0:=ZJ (n+6) h ns k hk (by lia);have hd:=Dc ns (k+1);generalize mH ns (k+1)=m at N0 hd;obtain⟨ps,ng,pl,WR⟩:=ybW (n+5) h ns (k+1) (by lia) (by lia) most cs.length wr.2.2.1 st hl g;rw[show k+1+1=k+2 by lia] at WR;obtain⟨r0,rs,e0,mj,hrs⟩:=d.cons h1;have lr:∀ hh,yt true "len" [.f (ye false false rows)] hh=.ok (I (H:Int)) hh:=λhh=>by
  have:=d.len;simp[Qo,zo,zp,yi,Zl,qk,Qk,yo,Yl,ql,ye,sq,this]
 have qr:∀ hh,Qa hh (.f (ye false false rows))=some (rows.map (MV.f∘ze false)):=λhh=>by simp[ye]
 have a0:dR (rows.map (MV.f∘ze false)) 0=some (.f (ze false r0)):=by
  have:=Qr (rows.map (MV.f∘ze false)) 0;rw[e0] at this ⊢;exact this
 have lr0:∀ hh,yt true "len" [.f (ze false r0)] hh=.ok (I (W:Int)) hh:=λhh=>by simp[Qo,zo,zp,yi,Zl,qk,Qk,yo,Yl,ql,ze,sq,mj]
 have T1:=zcA n (atC (k+2)::h) most H W h1 w1 hm w cs wr ps (by lia) ng;have T2:=λ(a b:Int)(no:¬(1<=a/\1<=b)) sv=>zb4 n (atC (k+2)::h) 0 a b no (.f w) sv;have T3:=λ(x:Int)(hx:x<1) sv=>QbV n (atC (k+2)::(h++[.dead])) x H W h1 w1 hx (.f w) sv;have k1:ly (.tup [.str (jk "no"),.str (jk "stretches")]) (.tup [.str (jk "no"),.str (jk "stretches")])=some true:=by decide +kernel
 have k2:ly (.tup [.str (jk "no"),.str (jk "out")]) (.tup [.str (jk "no"),.str (jk "out")])=some true:=by decide +kernel
 have k3:ly (.tup [.str (jk "no"),.str (jk "picture")]) (.tup [.str (jk "no"),.str (jk "picture")])=some true:=by decide +kernel
 obtain⟨c,f,cm,mo,O⟩:=ZO (atC (k+2)::h) w H W cs wr;have O:=O (n+2);have F:=Zt (atC (k+2)::h) (cs.map Za) [];have ln:∀ hh,yt true "len" [.f (.lst (cs.map Za))] hh=.ok (I (cs.length:Int)) hh:=λhh=>by simp[Qo,zo,zp,yi,Zl,qk,Qk,yo,Yl,ql,Qa]
 have b3:=mod_lt (m/147) 3 (by decide);have b5:=mod_lt (m/9) 5 (by decide);obtain⟨a,b,ab,no⟩:=QcD H W m (m/147%3) hd.1 b3.1 b3.2;have T2:=T2 a b no;have q2:∀ hh,Qa hh (.f (.tup [.int a,.int b]))=some [I a,I b]:=λhh=>rfl;have J5:dR [I a,I b] 0=some (I a):=rfl;have J4:dR [I a,I b] 1=some (I b):=rfl;obtain⟨bl,hbl⟩:∃ bl,∀ hh,ZM true (.f (.lst [.tup [.int 0,.int (cs.length:Int)]])) none (some (cs.length:Int)) hh=.ok (.f (.lst bl)) hh:=⟨_,λhh=>by
  simp only[ZM,Yj,Qa,qc,oy];rw[<- List.map_drop,<- wx];exact Zc ..⟩
 generalize ye false false rows=rv at *;generalize FV.lst (st.map ya)=dv at *;generalize FV.lst (ps.map ya)=pv at *;generalize FV.lst (cs.map Za)=cv at *;simp at O F;rw[zao];simp only[cg];simp[N0,lr,qr,a0,lr0,WR,T1,k1,Zm,ab,q2,J5,J4,T2,k2,cm,mo,O,F,ln,hbl,Zg,yg,QU];have E:[MV.f (FV.tup [FV.int 0,FV.lst bl]),MV.f (FV.tup [FV.int (-1),FV.lst bl]),MV.f (FV.tup [FV.int 0,pv]),MV.f (FV.tup [FV.int (-(m/9%5)),pv])]=([(0,FV.lst bl),(-1,FV.lst bl),(0,pv),(-(m/9%5),pv)]:List (Int×FV)).map λp=>MV.f (.tup [.int p.1,p.2]):=rfl;have lo:∀ p∈([(0,FV.lst bl),(-1,FV.lst bl),(0,pv),(-(m/9%5),pv)]:List (Int×FV)),p.1<1:=λp hp=>by
  simp only[Wb,Ud,or_false] at hp
  rcases hp with rfl|rfl|rfl|rfl <;> simp <;> lia
 rw[E];generalize ([(0,FV.lst bl),(-1,FV.lst bl),(0,pv),(-(m/9%5),pv)]:List (Int×FV))=ys at *;have tp:∀ p:Int×FV,Yj (.f (.tup [.int p.1,p.2]))=some [I p.1,.f p.2]:=λp=>rfl;refine QN (Q:=λr=>fi (yc _ r) _) (e:=λp:Int×FV=>MV.f (.tup [.int p.1,p.2])) ys (λi σ hh=>∃ iC j0:Option MV,hh=atC (k+2)::(h++[.dead])/\σ=[some (MV.f (FV.eZ ns)),some (MV.ref 0),some (I most),some (MV.f rv),some (MV.f w),some (MV.f dv),some (I m),some (I ↑H),some (I ↑W),some (MV.f pv),some (MV.f (FV.tup [FV.int a,FV.int b])),some (I ↑cs.length),some (MV.f (FV.lst bl)),iC,j0]) ⟨none,none,rfl,rfl⟩ ?_ ?_
 ·rintro i p σ hh hp ⟨iC,j0,rfl,rfl⟩ Q hQ;have t3:=T3 p.1 (lo p (We hp)) (.f p.2);simp[Qh,t3,k3];exact hQ _ _ ⟨_,_,rfl,rfl⟩
 ·rintro σ hh ⟨iC,j0,rfl,rfl⟩;simp;exact hQ _ _ ⟨rfl,rfl⟩
end
end MP
end
section
namespace MP
open PySem
section
variable (n:Nat) (h:MH)
theorem zaR(w:FV)(ms:List (Nat×Nat))(hl:ms.length<=1000):run prog (n+1) "MaskedWay.__init__" [.ref h.length,.f w,.f (.lst (ms.map Za))] (h++[.obj "MaskedWay" []]) =
  .ok (.f .bh) (h++[.obj "MaskedWay" [("way",.f w),("mask",.f (.cE ((ms.map cZ).foldl Yo [])))]]):=by
 have it:∀ hh,i5 "seq" [.f (.lst (ms.map Za))] hh=some (ms.map λc=>MV.f (Za c),[]):=λhh=>by
  have q:Qa hh (.f (.lst (ms.map Za)))=some (ms.map λc=>MV.f (Za c)):=by simp[Xf]
  have g:qe hh (.f (.lst (ms.map Za)))=[]:=rfl;simp only[yu,q,uh,g]
 have sz:ms.length<=aD:=by rw[Yb];lia
 have mm:∀ l:List (Nat×Nat),(l.map λc=>MV.f (.tup [Za c,.bl true])).mapM vZ=some (l.map cZ):=by
  intro l
  induction l with
  |nil=>rfl
  |cons c l ih =>
   have e:vZ (MV.f (.tup [Za c,.bl true]))=some (cZ c):=rfl;rw[Va,uq,e,ih];rfl
 have mo:∀ g:MH,Fb (.ref g.length) (g++[.lst (ms.map λc=>MV.f (.tup [Za c,.bl true]))])=.ok (.f (.cE ((ms.map cZ).foldl Yo []))) (g++[.lst (ms.map λc=>MV.f (.tup [Za c,.bl true]))]):=λg=>by
  have cl:=yf g [] (ms.map λc=>MV.f (.tup [Za c,.bl true]));simp only[Fb,cl,qc,mm];rw[if_pos (by rw[wc];lia)]
 have t:=bZ.obj h "MaskedWay" [("way",w),("mask",.cE ((ms.map cZ).foldl Yo []))] [.lst (ms.map λc=>MV.f (.tup [Za c,.bl true]))];have m1:=mo (h++[.obj "MaskedWay" [("way",.f w)]]);generalize (ms.map cZ).foldl Yo []=ks at *;generalize oQ:FV.lst (ms.map Za)=cl at *;rw[zQ];simp only[bj];simp[it,MP.stM];rw[Qv (e:=λc=>MV.f (Za c)) (g:=λc=>MV.f (.tup [Za c,.bl true])) ms [] none (by simpa using sz) (λc _ z=>⟨some (.f (Za c)),by simp[zk,Qi,Zm]⟩)];simp only[Vf,R.aH,F4];generalize (ms.map λc=>MV.f (.tup [Za c,.bl true]))=M at *;have tk:∀(a b:Cell),(h++[a,b]).take (h.length+1)=h++[a]:=λa b=>by rw[show h++[a,b]=(h++[a])++[b] by simp,xD (by simp)]
 simp at m1 t;simp[m1,ym,t,tk]
theorem F2(w:FV)(ms:List (Nat×Nat))(hl:ms.length<=1000):ZP prog (run prog (n+1)) true "MaskedWay" [.f w,.f (.lst (ms.map Za))] h=.ok (.f (YB w ((ms.map cZ).foldl Yo []))) h:=by
 have R:=zaR n h w ms hl;generalize (ms.map cZ).foldl Yo []=ks at *;generalize FV.lst (ms.map Za)=cl at *;simp[ZP,R,bZ.app,YB,Zm]
end
theorem Y9:∀{l m:List (Nat×Nat)},l.Nodup->l ⊆ m->l.length<=m.length
 |[],m,_,_=>by simp
 |a::l,m,nd,hs=>by
  rw[Vh] at nd;have ha:a∈m:=hs Ug;have ih:=Y9 (m:=m.erase a) nd.2 λx hx=>(List.mem_erase_of_ne λe=>nd.1 (by rw[<- e];exact hx)).mpr (hs (Vd _ hx));rw[List.length_erase_of_mem ha] at ih;have:=List.length_pos_of_mem ha;simp only[Vc];lia
theorem Qb2(H W:Nat)(p:Nat×Nat)(h:p.1<H/\p.2<W):p∈Zi H W:=by
 obtain⟨a,b⟩:=p;simp[Zi];exact h
def jU(c:String)(H W:Nat)(cs:List (Nat×Nat)):Prop:=w6 c/\∃ f,prog.meths c "order"=some f/\(∀ n h,run prog (n+4) f [.f (zj c),I H,I W] h=.ok (.ref h.length) (h++[.lst ((cs.map Za).map .f)]))/\(∀ p∈cs,p.1<H/\p.2<W)/\cs.length<=300/\cs.Nodup
section
variable (H W:Nat) (h1:1<=H) (h2:1<=W) (hH:H<=7) (hW:W<=7)
include h1 h2 hH hW
theorem qcc(c)(hc:w6 c):∃ cs,jU c H W cs:=by
 have uN:H*W<=7*7:=UE hH hW
 rcases hc with rfl|rfl|rfl|rfl
 ·exact⟨Zi H W,.inl rfl,"Way.order",rfl,λn h=>ZaN (n+2) h _ H W h1 h2 (by lia) (by lia) (by lia),λp hp=>DE hp,by rw[zF];lia,zX H W h2⟩
 ·exact⟨qU H W,.inr (.inl rfl),"FroWay.order",rfl,λn h=>yaO (n+2) h _ H W h1 h2 (by lia) (by lia) (by lia),λp hp=>YcF hp,by rw[PH];lia,Qbu H W h2⟩
 ·exact⟨ZW H W,.inr (.inr (.inl rfl)),"ColumnWay.order",rfl,λn h=>qaP (n+2) h _ H W h1 h2 (by lia) (by lia) (by lia),λp hp=>ycH hp,by rw[Yct];lia,qby H W h1⟩
 ·obtain⟨k,hk,O⟩:=QaD (.f (zj "FoldedWay")) H W h1 h2 (by lia) (by lia);have nd:((Zj k).filter λc=>decide (c.1<H)&&decide (c.2<W)).Nodup:=(PR k).filter _;have i6:∀ p∈(Zj k).filter λc=>decide (c.1<H)&&decide (c.2<W),p.1<H/\p.2<W:=λp hp=>by
   have:=(uy.mp hp).2;simpa using this
  refine⟨_,.inr (.inr (.inr rfl)),"FoldedWay.order",rfl,λn h=>O (n+1) h,i6,?_,nd⟩;have sub:((Zj k).filter λc=>decide (c.1<H)&&decide (c.2<W)) ⊆ Zi H W:=λp hp=>by
   have:=i6 p hp;exact Qb2 H W p this
  have:=Y9 nd sub;rw[zF] at this
  lia
end
theorem jU.Gw    (p:jU c H W cs):nN (zj c) H W cs:=by
 obtain⟨_,f,mo,O,r⟩:=p;exact⟨⟨c,[],[],f,rfl,by simp,mo,λn h=>O (n+1) h⟩,r⟩
theorem jU.oi    (p:jU c H W cs)(k:List (Int×Int))(Ks:List (List (Int×Int)))(ok:vK (k::Ks)):∃ uT,nN (qm (k::Ks) (zj c)) H W uT:=by
 obtain⟨hc,f,mo,O,i6,hl,nd⟩:=p;refine⟨cs.filter λc=>decide (cZ c∉mC (k::Ks)),⟨⟨"MaskedWay",["way","mask"],_,"MaskedWay.order",rfl,by decide,rfl,λn h=>?_⟩,λc hc=>i6 c (uy.mp hc).1,xf (List.length_filter_le _ _) hl,nd.filter _⟩⟩;exact Zax n h c f hc mo H W cs (by lia) (λh=>O n h) (k::Ks) ok
end MP
end
section
namespace MP
open PySem
theorem Lc{ms:List (Nat×Nat)}(nr:∀ c∈ms,c.1<=7/\c.2<=7)(hl:ms.length<=300):((ms.map cZ).foldl Yo []).all ZY=true/\((ms.map cZ).foldl Yo []).Nodup/\((ms.map cZ).foldl Yo []).length<=1000:=by
 refine⟨?_,LY _ _ (by simp),?_⟩
 ·rw[Vl];intro x hx
  rcases(NS (ms.map cZ) [] x).mp hx with z|z
  ·cases z
  ·obtain⟨c,hc,rfl⟩:=Wd.mp z;have:=nr c hc;simp[ZY,cZ];lia
 ·have:=HE (ms.map cZ) [];simp at this;lia
section
variable (n:Nat) (h:MH)
theorem QcM(x:Int)(hx:0<=x):∃ c,w6 c/\dR [.f (zj "Way"),.f (zj "FroWay"),.f (zj "ColumnWay"),.f (zj "FoldedWay")] (x%4)=some (.f (zj c)):=by
 have b:=mod_lt x 4 (by decide);have d:x%4=0\/x%4=1\/x%4=2\/x%4=3:=by lia
 rcases d with e|e|e|e <;> rw[e]
 ·exact⟨"Way",.inl rfl,rfl⟩
 ·exact⟨"FroWay",.inr (.inl rfl),rfl⟩
 ·exact⟨"ColumnWay",.inr (.inr (.inl rfl)),rfl⟩
 ·exact⟨"FoldedWay",.inr (.inr (.inr rfl)),rfl⟩
theorem YcL(ns:List Int)(k:Int)(hk:0<=k)(mQ:k<800000)(H W:Nat)(h1:1<=H)(w1:1<=W)(h7:H<=7)(w7:W<=7) :
  ∃ w cs kk,nN w H W cs/\k<=kk/\kk<=k+50/\run prog (n+2) "_law_way" [.f (.eZ ns),.ref 0,I H,I W] (atC k::h)=.ok (.f w) (atC kk::h):=by
 suffices fi (run prog (n+2) "_law_way" [.f (.eZ ns),.ref 0,I H,I W] (atC k::h)) λv h'=>∃ w cs kk,nN w H W cs/\k<=kk/\kk<=k+50/\v=.f w/\h'=atC kk::h by
  obtain⟨v,h',e,w,cs,kk,p1,p2,p3,rfl,rfl⟩:=this;exact⟨w,cs,kk,p1,p2,p3,e⟩
 refine fi.of λQ hQ=>?_;have uN:H*W<=7*7:=UE h7 w7;have N0:=ZJ n h ns k hk (by lia);have hd:=Dc ns (k+1);generalize mH ns (k+1)=m at N0 hd;obtain⟨c,hc,ac⟩:=QcM m hd.1;obtain⟨cs,pw⟩:=qcc H W h1 w1 h7 w7 c hc;have mk:∀ c hh,(prog.meths c "__init__"=none)->ZP prog (run prog (n+1)) true c [] hh=.ok (.f (zj c)) hh:=λc hh hi=>Zcv hh _ c hi;have m1:=λhh=>mk "Way" hh rfl;have m2:=λhh=>mk "FroWay" hh rfl;have m3:=λhh=>mk "ColumnWay" hh rfl;have m4:=λhh=>mk "FoldedWay" hh rfl;rw[za9];simp only[eG];by_cases c3:m/4%3=0
 ·have f1:=hQ (.f (zj c)) _ ⟨zj c,cs,k+1,pw.Gw,by lia,by lia,rfl,rfl⟩;generalize zj c=wv at *;simp[N0,m1,m2,m3,m4,Zm,ac,c3,Zg,yg,QU];exact f1
 ·have cl:∀(k:Int) M,Ze (atC k::(h++[.lst M])) (h.length+1)=some M:=λk M=>yf (atC k::h) [] M;have sc:∀(k:Int) M ys,Zd (atC k::(h++[.lst M])) (h.length+1) ys=atC k::(h++[.lst ys]):=λk M ys=>qg (atC k::h) [] M ys;generalize Om:zj c=wv at *;simp[N0,m1,m2,m3,m4,Zm,ac,c3,Zo _ (H:Int) (by lia),Zg,yg,QU];refine yx (Q:=λr=>fi (yc _ r) _) H (λi σ hh=>∃(ms:List (Nat×Nat)) (kk:Int) (z7 z8 z9:Option MV),(∀ c∈ms,c.1<H/\c.2<W)/\ms.length<=2*(i*W)/\kk=k+1+(i*W:Nat)/\hh=atC kk::(h++[.lst ((ms.map Za).map .f)]) /\
   σ=[some (.f (.eZ ns)),some (.ref 0),some (I H),some (I W),some (I m),some (.f wv),some (.ref (h.length+1)),z7,z8,z9]) ⟨[],k+1,none,none,none,by simp,by simp,by simp,by simp,rfl⟩ ?_ ?_
  ·rintro i σ hh hi ⟨ms,kk,z7,z8,z9,jE,wL,sg,rfl,rfl⟩ Q hQ;simp[Qh,Zo _ (W:Int) (by lia)];refine yx (Q:=λr=>Nx r _) W (λj σ hh=>∃(ms:List (Nat×Nat)) (kk:Int) (z8 z9:Option MV),(∀ c∈ms,c.1<H/\c.2<W)/\ms.length<=2*(i*W+j)/\kk=k+1+(i*W+j:Nat)/\hh=atC kk::(h++[.lst ((ms.map Za).map .f)]) /\
    σ=[some (.f (.eZ ns)),some (.ref 0),some (I H),some (I W),some (I m),some (.f wv),some (.ref (h.length+1)),some (I i),z8,z9]) ⟨ms,kk,z8,z9,jE,by lia,by lia,by simp,rfl⟩ ?_ ?_
   ·rintro j σ hh hj ⟨ms,kk,z8,z9,jE,wL,sg,rfl,rfl⟩ Q hQ;have hb:i*W+j<=49:=by
     have:(i+1)*W<=H*W:=Wu _ hi;rw[Ws] at this
     lia
    have N:=ZJ n (h++[.lst ((ms.map Za).map .f)]) ns kk (by lia) (by lia);generalize mH ns (kk+1)=y at N;have e1:∀ l:List (Nat×Nat),(l.map Za).map MV.f++[.f (.tup [.int i,.int j])]=((l++[(i,j)]).map Za).map MV.f:=λl=>by simp
    have s0:((ms.map Za).map MV.f).length<aD:=by rw[Yb];simp;lia
    have s1:(((ms++[(i,j)]).map Za).map MV.f).length<aD:=by rw[Yb];simp;lia
    have i1:∀ l:List (Nat×Nat),(∀ c∈l,c.1<H/\c.2<W)->∀ c∈l++[(i,j)],c.1<H/\c.2<W:=λl hl c hc=>by
     rcases vf.mp hc with hc|hc
     ·exact hl c hc
     ·simp at hc;subst hc;exact⟨hi,hj⟩
    have q0:=λz8 z9=>hQ _ _ ⟨ms,kk+1,z8,z9,jE,by lia,by lia,rfl,rfl⟩;have q1:=λz8 z9=>hQ _ _ ⟨ms++[(i,j)],kk+1,z8,z9,i1 ms jE,by simp;lia,by lia,rfl,rfl⟩;have q2:=λz8 z9=>hQ _ _ ⟨ms++[(i,j)]++[(i,j)],kk+1,z8,z9,i1 _ (i1 ms jE),by simp;lia,by lia,rfl,rfl⟩;have e2:=e1 (ms++[(i,j)]);have e1:=e1 ms;generalize ((ms++[(i,j)]++[(i,j)]).map Za).map MV.f=M2 at *;generalize ((ms++[(i,j)]).map Za).map MV.f=M1 at *;generalize (ms.map Za).map MV.f=M0 at *;by_cases a:y%4=0\/m/12%9=0
    ·by_cases b:y%40=0
     ·rcases a with a|a
      ·simp[Qh,N,a,cl,s0,sc,e1,b,s1,e2,Zg,yg,QU];exact q2 _ _
      ·by_cases a':y%4=0
       ·simp[Qh,N,a',cl,s0,sc,e1,b,s1,e2,Zg,yg,QU];exact q2 _ _
       ·simp[Qh,N,a',a,cl,s0,sc,e1,b,s1,e2,Zg,yg,QU];exact q2 _ _
     ·rcases a with a|a
      ·simp[Qh,N,a,cl,s0,sc,e1,b,Zg,yg,QU];exact q1 _ _
      ·by_cases a':y%4=0
       ·simp[Qh,N,a',cl,s0,sc,e1,b,Zg,yg,QU];exact q1 _ _
       ·simp[Qh,N,a',a,cl,s0,sc,e1,b,Zg,yg,QU];exact q1 _ _
    ·rw[not_or] at a;have b:¬ y%40=0:=λb=>a.1 (by lia);simp[Qh,N,a.1,a.2,b,Zg,yg,QU];exact q0 _ _
   ·rintro σ hh ⟨ms,kk,z8,z9,jE,wL,sg,rfl,rfl⟩;simp;have:=hQ _ _ ⟨ms,kk,some (I i),z8,z9,jE,by rw[Ws];lia,by rw[sg,Ws];lia,rfl,rfl⟩;simpa using this
  ·rintro σ hh ⟨ms,kk,z7,z8,z9,jE,wL,sg,rfl,rfl⟩;have n7:∀ c∈ms,c.1<=7/\c.2<=7:=λc hc=>by have:=jE c hc;lia
   have hml2:ms.length<=98:=by lia
   have kb:k<=kk/\kk<=k+50:=by lia
   have FR:=Zt (atC kk::h) (ms.map Za) [];have c6:=cl kk ((ms.map Za).map MV.f);by_cases c8:m/108%3=0
   ·have o1:=Lc (ms:=ms.take 2) (λc hc=>n7 c (Um hc)) (by simp;lia);have o2:=Lc n7 (by lia);obtain⟨uT,wr⟩:=pw.oi ((ms.map cZ).foldl Yo []) [((ms.take 2).map cZ).foldl Yo []] ⟨by simp,λk hk=>by
     simp only[Wb,Ud,or_false] at hk
     rcases hk with rfl|rfl
     ·exact o2
     ·exact o1⟩
    have f1:=hQ _ _ ⟨_,uT,kk,wr,kb.1,kb.2,rfl,rfl⟩;have SL:ZM true (.ref (h.length+1)) none (some 2) (atC kk::(h++[.lst ((ms.map Za).map MV.f)]))=.ok (.f (.lst ((ms.take 2).map Za))) (atC kk::(h++[.lst ((ms.map Za).map MV.f)])):=by
     have nF:Qa (atC kk::(h++[.lst ((ms.map Za).map MV.f)])) (.ref (h.length+1))=some ((ms.map Za).map MV.f):=c6;have cu:oy ((ms.map Za).map MV.f) none (some 2)=((ms.take 2).map Za).map MV.f:=by
      simp only[oy,oW,uA,Vy];rw[if_neg (by decide),<- wx,<- wx]
      congr 2
      simp only[wc];exact List.take_eq_take_iff.mpr (by simp)
     simp only[ZM,Yj,nF,qc,cu];exact Zc ..
    have M1:=F2 n (atC kk::(h++[.lst ((ms.map Za).map MV.f)])) wv (ms.take 2) (by simp;lia);have M2:=F2 n (atC kk::(h++[.dead])) (YB wv (((ms.take 2).map cZ).foldl Yo [])) ms (by lia);have e0:qm [(ms.map cZ).foldl Yo [],((ms.take 2).map cZ).foldl Yo []] (zj c)=YB (YB wv (((ms.take 2).map cZ).foldl Yo [])) ((ms.map cZ).foldl Yo []):=by rw[<- Om];rfl
    rw[e0] at f1;generalize YB (YB wv (((ms.take 2).map cZ).foldl Yo [])) ((ms.map cZ).foldl Yo [])=w2 at *;generalize YB wv (((ms.take 2).map cZ).foldl Yo [])=w1 at *;generalize FV.lst ((ms.take 2).map Za)=l1 at *;generalize FV.lst (ms.map Za)=l2 at *;generalize (ms.map Za).map MV.f=M at *;simp at FR;simp[c8,SL,M1,FR,M2,Zg,yg,QU];exact f1
   ·have o2:=Lc (ms:=ms++[(H,0)]) (λc hc=>by
     rcases vf.mp hc with hc|hc
     ·exact n7 c hc
     ·simp at hc;subst hc;simp;lia) (by simp;lia)
    obtain⟨uT,wr⟩:=pw.oi (((ms++[(H,0)]).map cZ).foldl Yo []) [] ⟨by simp,λk hk=>by
     simp only[Wb,Ud,or_false] at hk;subst hk;exact o2⟩
    have f1:=hQ _ _ ⟨_,uT,kk,wr,kb.1,kb.2,rfl,rfl⟩;have BA:qh true .add (.ref (h.length+1)) (.f (.lst [.tup [.int H,.int 0]])) (atC kk::(h++[.lst ((ms.map Za).map MV.f)]))=.ok (.f (.lst ((ms++[(H,0)]).map Za))) (atC kk::(h++[.lst ((ms.map Za).map MV.f)])):=by
     have lo:listOf (atC kk::(h++[.lst ((ms.map Za).map MV.f)])) (.ref (h.length+1))=some ((ms.map Za).map MV.f):=c6;have lo2:∀ hh,listOf hh (.f (.lst [.tup [.int H,.int 0]]))=some [.f (.tup [.int H,.int 0])]:=λhh=>rfl;have ee:(ms.map Za).map MV.f++[.f (.tup [.int H,.int 0])]=((ms++[(H,0)]).map Za).map MV.f:=by simp
     unfold qh;simp only[yd,Yj,lo,lo2,qc];rw[if_pos (by rw[Yb];simp;lia),ee];exact Zc ..
    have M1:=F2 n (atC kk::(h++[.lst ((ms.map Za).map MV.f)])) wv (ms++[(H,0)]) (by simp;lia);have e0:qm [((ms++[(H,0)]).map cZ).foldl Yo []] (zj c)=YB wv (((ms++[(H,0)]).map cZ).foldl Yo []):=by rw[<- Om];rfl
    rw[e0] at f1;generalize YB wv (((ms++[(H,0)]).map cZ).foldl Yo [])=w1 at *;generalize FV.lst ((ms++[(H,0)]).map Za)=l2 at *;generalize (ms.map Za).map MV.f=M at *;simp[c8,Zm,BA,M1,Zg,yg,QU];exact f1
end
end MP
end
section
namespace MP
open PySem
noncomputable abbrev bQ:List MS:=bx.body
section
variable (n:Nat) (h:MH)
theorem zcs   (e:Ze h a=some xs)(t:String):YN prog.subs h (.ref a) t=some (decide (t="list")):=by
 unfold Ze at e;split at e
 ·next w=>simp[YN,w]
 ·cases e
theorem yba(d:Nat)(a:Nat)(xs:List FV)(e:Ze h a=some (xs.map .f))(hl:xs.length<=aD)(hq:∀ x∈xs,jY d x=true):run prog (n+d+1) "_law_same" [.ref a,.f (.lst xs)] h=.ok (B true) h:=by
 have i1:=zcs h e;have gr:qe h (.ref a)=[(a,xs.map .f)]:=by simp[qe,e]
 have zs:wF (λp:MV×MV=>Qi [p.1,p.2]) ((xs.map MV.f).zip (xs.map MV.f))=xs.map λi=>MV.f (.tup [i,i]):=by
  rw[Fu,Ue,Ue];rfl
 have gk:=ybp e;have q:Qa h (.f (.lst xs))=some (xs.map .f):=rfl;have ln:(xs.map MV.f).length=xs.length:=by simp
 have iv:∀ t,YN prog.subs h (.f (.lst xs)) t=some (decide (t="list")):=λt=>rfl;have nn:qw (.f (.lst xs))=false:=rfl;have gq:qe h (.f (.lst xs))=[]:=rfl;generalize hv:FV.lst xs=v at *;generalize hm:xs.map MV.f=M at *;rw[Z9];simp only[cX];simp[nn,i1,iv,e,q,gr,gq,ln,zs,MP.stM];rw[P8 gk (e:=λi=>MV.f (.tup [i,i])) (g:=λ_=>B true) (caps:=[]) xs [] none none (by simpa using hl) (λi hi z w=>⟨some (.f i),some (.f i),by simp[zk,zH n h d i (hq i hi)]⟩)];simp[Xf]
theorem yco(q):jY 2 (ya q)=true:=by simp[jY,Yb]
theorem L6(st:List (Int×Int))(hl:st.length<=1000):jY 3 (.lst (st.map ya))=true:=by
 have:st.length<=aD:=by rw[Yb];lia
 simp[jY,this];intro a b _;simp[Yb]
structure One (most:Int) (rows:List (List Int)) (H W:Nat) (w:FV) (cs:List (Nat×Nat)):Prop where
 d:Drawn most rows H W
 hm:1<=most
 h1:1<=H
 h7:H<=7
 w1:1<=W
 w7:W<=7
 wr:nN w H W cs
theorem One.dk      (o:One most rows H W w cs):Yh most cs.length (dk (di rows cs))/\Zp (MP.dk (di rows cs))=di rows cs/\(MP.dk (di rows cs)).length<=300:=by
 have b:∀ s∈di rows cs,0<=s/\s<=most:=λs hs=>by
  obtain⟨c,hc,rfl⟩:=Wd.mp hs;have n9:=o.wr.2.1 c hc;obtain⟨r,_,_,q⟩:=Di o.d (p:=cZ c) ⟨by simp[cZ],by simp[cZ];lia,by simp[cZ],by simp[cZ];lia⟩;exact q
 have:=Kx (di rows cs) b;have l:(di rows cs).length=cs.length:=by simp[di]
 rw[l] at this;exact⟨this.1,this.2.1,xf this.2.2 o.wr.2.2.1⟩
theorem One.laid      (o:One most rows H W w cs)(b:Bool)(st:List (Int×Int))(hl:st.length<=1000)(g:Yh most cs.length st)(e:Zp st=di rows cs) :
  run prog (n+6) "laid_along" [I most,I H,I W,.f w,.f (sq b (st.map ya))] h=.ok (.f (yq most (Zn rows cs H W))) h:=by
 have:=qcp n h most H W o.h1 (by have:=o.h7;lia) o.w1 (by have:=o.w7;lia) o.hm w cs o.wr b st hl g;rw[e,di,Zv,ybq rows H W cs o.wr.2.1 o.wr.2.2.2] at this;exact this
theorem Yb8(rows:List (List Int))(cs:List (Nat×Nat))(H W:Nat):(Zn rows cs H W).length=H/\∀ r∈Zn rows cs H W,r.length=W:=by
 refine⟨by simp[Zn],λr hr=>?_⟩;obtain⟨i,_,rfl⟩:=Wd.mp hr;simp
end
end MP
end
section
namespace MP
open PySem
theorem Pf:∀ st:List (Int×Int),mY (st.map ya) (st.map ya)=true
 |[]=>rfl
 |q::st=>by
  have:=Pf st;simp[mY,fO,this]
theorem Yb1(st:List (Int×Int)):ly (.lst (st.map ya)) (.lst (st.map ya))=some true:=by
 have d:cF 8 (.lst (st.map ya))=true:=by
  simp only[cF,Vl];intro x hx;obtain⟨q,_,rfl⟩:=Wd.mp hx;rfl
 unfold ly;rw[if_pos ⟨d,d⟩];simp[fO,Pf]
section
variable (n:Nat)
noncomputable def rL(ns:List Int)(m:Int)(H W:Nat)(most:Int)(rows:List (List Int))(w:FV)(cs:List (Nat×Nat))(l7 o8 iC j0:Option MV):aI :=
 [some (.f (.eZ ns)),some (.ref 0),some (I m),some (I H),some (I W),some (I most),some (.f (ye false false rows)),some (.f (yq most rows)),some (.f w),some (.f (.lst (cs.map Za))),some (.f (.lst ((dk (di rows cs)).map ya))),l7,o8,iC,j0]
theorem Bf(ns:List Int)(m most:Int)(rows:List (List Int))(H W:Nat)(w:FV)(cs:List (Nat×Nat))(o:One most rows H W w cs)(l7 iC j0:Option MV)(a:Nat)(g0:MH)(kk:Int)(hk:0<=kk)(mQ:kk<800000)(ca:∀ x,Ze (atC x::g0) a=some ((Zn rows cs H W).map (MV.f∘ze true))) :
  ∃ g',Qb prog (run prog (n+8)) (bQ.drop 17) (rL ns m H W most rows w cs l7 (some (.ref a)) iC j0) (atC kk::g0)=.ret (B true) (atC (kk+2)::g'):=by
 obtain⟨g1,g2,g3⟩:=o.dk;obtain⟨p1,p2,p3⟩:=Zcf (m:=m/9) g1;obtain⟨kl,kw⟩:=Yb8 rows cs H W;have rZ:(Zn rows cs H W).length<=1000:=by rw[kl];have:=o.h7;lia
 have nV:∀ r∈Zn rows cs H W,r.length<=1000:=λr hr=>by rw[kw r hr];have:=o.w7;lia
 have L1:=λhh=>RG n hh most (I H) (I W) (.f w) (.f (.lst ((dk (di rows cs)).map ya))) _ rZ nV (o.laid n hh false _ (by lia) g1 g2);have L2:=λhh=>RG n hh most (I H) (I W) (.f w) (.f (sq true ((Qs (m/9) (dk (di rows cs))).map ya))) _ rZ nV (o.laid n hh true _ (by lia) p1 (by rw[p2];exact g2));have PA:=λhh=>qbE (n+7) hh most cs.length _ g3 g1 (m/9);have RF:=ybr n g0 ns kk hk mQ most o.hm rows H W o.h1 o.w1 o.d w cs o.wr _ g3 g1;have ST:=qL (n+2) (atC (kk+2)::g0) most rows H W o.d o.h1 w cs o.wr;have FR:=Zt (atC (kk+2)::g0) ((dk (di rows cs)).map ya) [];have SM:=λhh=>zH (n+5) hh 3 _ (L6 (dk (di rows cs)) (by lia));have EQ:=Yb1 (dk (di rows cs));have bt:∀ x,yt true "tuple" [.ref a] (atC x::g0)=.ok (.f (ye true true (Zn rows cs H W))) (atC x::g0):=λx=>by
  have q:Qa (atC x::g0) (.ref a)=some ((Zn rows cs H W).map (MV.f∘ze true)):=ca x;have e:Qi ((Zn rows cs H W).map (MV.f∘ze true))=.f (ye true true (Zn rows cs H W)):=by
   have:=Yy ((Zn rows cs H W).map (ze true));rw[Ue] at this;simp only[Qi,this];rfl
  simp only[Qo,zo,zp,yi,Zl,qk,Qk,yo,Yl,ql,q,qc,e]
 have ls:∀ hh,yt true "list" [.f (.lst ((dk (di rows cs)).map ya))] hh=.ok (.f (.lst ((dk (di rows cs)).map ya))) hh:=λhh=>by
  have q:Qa hh (.f (.lst ((dk (di rows cs)).map ya)))=some (((dk (di rows cs)).map ya).map MV.f):=rfl;simp only[Qo,zo,zp,yi,Zl,qk,Qk,yo,Yl,ql,q,qc];exact Zc ..
 simp only[bQ,bx,uF,uA];unfold rL;generalize ye true true (Zn rows cs H W)=kv at *;generalize sq true ((Qs (m/9) (dk (di rows cs))).map ya)=pv at *;generalize IU:FV.lst ((dk (di rows cs)).map ya)=dv at *;generalize ((dk (di rows cs)).map ya).map MV.f=M at *;generalize yq most rows=pc at *;generalize ye false false rows=rv at *;generalize FV.lst (cs.map Za)=cv at *;refine⟨g0++[.dead],?_⟩;simp at ST FR;simp[ls,bt,L1,EQ,PA,L2,RF,ST,FR,SM,-yt,Zg,yg,QU]
end
end MP
end
section
namespace MP
open PySem
theorem PF(c:Nat×Nat):∀ cs:List (Nat×Nat),((cs.map Za).any λy=>fO y (Za c))=decide (c∈cs)
 |[]=>by simp
 |p::cs=>by
  have ih:=PF c cs;rw[Va,WF,ih];have e:fO (Za p) (Za c)=decide (p=c):=by
   obtain⟨a,b⟩:=p;obtain⟨x,y⟩:=c;simp[fO,mY];by_cases q:a=x <;> by_cases q2:b=y <;> simp[q,q2] <;> lia
  rw[e];by_cases q:p=c
  ·simp[q]
  ·have:¬ c=p:=λz=>q z.symm;simp[q,this]
theorem qcw(r c:Nat)(cs:List (Nat×Nat))(hh:MH):ZH .i6 (.f (.tup [.int r,.int c])) (.f (.lst (cs.map Za))) hh=some (decide ((r,c)∈cs)):=by
 have e0:(FV.tup [.int r,.int c])=Za (r,c):=rfl;rw[e0];have e3:QP hh (.f (Za (r,c)))=some (Za (r,c)):=rfl;have e4:Qa hh (.f (.lst (cs.map Za)))=some ((cs.map Za).map MV.f):=rfl;have e1:((cs.map Za).map MV.f).mapM (QP hh)=some (cs.map Za):=E9 ..;have e2:tN (Za (r,c)) (cs.map Za)=some (decide ((r,c)∈cs)):=by
  unfold tN;rw[if_pos ⟨rfl,by simp only[Vl];intro x hx;obtain⟨q,_,rfl⟩:=Wd.mp hx;rfl⟩,PF]
 simp only[ZH,e3,e4,wm,e1,e2]
section
variable (n:Nat)
theorem Bg(ns:List Int)(m most:Int)(rows:List (List Int))(H W:Nat)(w:FV)(cs:List (Nat×Nat))(o:One most rows H W w cs)(l7 o8 iC j0:Option MV)(g0:MH)(kk:Int)(hk:0<=kk)(mQ:kk<800000) :
  ∃ g',Qb prog (run prog (n+8)) (bQ.drop 15) (rL ns m H W most rows w cs l7 o8 iC j0) (atC kk::g0)=.ret (B true) (atC (kk+2)::g'):=by
 have h7:=o.h7;have w7:=o.w7;have sE:∀ iC j0,∃ g',Qb prog (run prog (n+8)) (bQ.drop 17) (rL ns m H W most rows w cs l7 (some (.ref (g0.length+1))) iC j0) (atC kk::(g0++[.lst ((Zn rows cs H W).map (MV.f∘ze true))]))=.ret (B true) (atC (kk+2)::g'):=λiC j0 =>
  Bf n ns m most rows H W w cs o l7 iC j0 (g0.length+1) (g0++[.lst ((Zn rows cs H W).map (MV.f∘ze true))]) kk hk mQ λx=>by
   have:=yf (atC x::g0) [] ((Zn rows cs H W).map (MV.f∘ze true));exact this
 have e15:bQ.drop 15=bQ[15]::bQ[16]::bQ.drop 17:=rfl;have qr:∀ hh,Qa hh (.f (ye false false rows))=some (rows.map (MV.f∘ze false)):=λhh=>by simp[ye]
 have RC:∀ r c:Nat,r<H->c<W->∃ rr,dR (rows.map (MV.f∘ze false)) (r:Int)=some (.f (ze false rr))/\(∀ hh,Qa hh (.f (ze false rr))=some (rr.map (MV.f∘FV.int)))/\dR (rr.map (MV.f∘FV.int)) (c:Int)=some (I (fX rows (cZ (r,c)))):=λr c hr hc=>by
  obtain⟨rr,e1,e2,q⟩:=Di o.d (p:=cZ (r,c)) ⟨by simp[cZ],by simp[cZ];lia,by simp[cZ],by simp[cZ];lia⟩;refine⟨rr,?_,λhh=>by simp[ze],?_⟩
  ·rw[Qr,Xc,show rows[r]?=some rr by simpa[cZ] using e1];rfl
  ·rw[Qr,Xc,show rr[c]?=some (fX rows (cZ (r,c))) by simpa[cZ] using e2];rfl
 have IV:=qcw;have bi:∀(b:Bool) hh,yt true "int" [.f (.bl b)] hh=.ok (I (if b then 1 else 0)) hh:=λb hh=>rfl;have bm:∀(x:Int)(b:Bool) hh,qh true .mul (I x) (I (if b then 1 else 0)) hh=.ok (I (x*(if b then 1 else 0))) hh:=λx b hh=>qE _ _ _ (Zs (by cases b <;> decide));generalize bQ.drop 17=B17 at *;rw[e15];simp only[bQ,bx,Xs,Us];unfold rL at *;generalize IU:FV.lst ((dk (di rows cs)).map ya)=dv at *;generalize yq most rows=pc at *;generalize B4:ye false false rows=rv at *;generalize IZ:FV.lst (cs.map Za)=cv at *;have IV:=λr c hh=>IV r c cs hh;rw[IZ] at IV;have cl:∀ M,Ze (atC kk::(g0++[.lst M])) (g0.length+1)=some M:=λM=>yf (atC kk::g0) [] M;have sc:∀ M ys,Zd (atC kk::(g0++[.lst M])) (g0.length+1) ys=atC kk::(g0++[.lst ys]):=λM ys=>qg (atC kk::g0) [] M ys;simp[Zo _ (H:Int) (by lia)];refine yx (Q:=λr=>∃ g',r=RS.ret (B true) (atC (kk+2)::g')) H (λi σ hh=>∃ iC:Option MV,hh=atC kk::(g0++[.lst ((Zn rows cs i W).map (MV.f∘ze true))]) /\
  σ=[some (.f (.eZ ns)),some (.ref 0),some (I m),some (I H),some (I W),some (I most),some (.f rv),some (.f pc),some (.f w),some (.f cv),some (.f dv),l7,some (.ref (g0.length+1)),iC,j0]) ⟨iC,by simp[Zn],rfl⟩ ?_ ?_
 ·rintro i σ hh hi ⟨iC,rfl,rfl⟩ Q hQ;have hQ:=λiC=>hQ _ _ ⟨iC,rfl,rfl⟩;have eK:(Zn rows cs (i+1) W).map (MV.f∘ze true)=(Zn rows cs i W).map (MV.f∘ze true)++[.f (ze true ((Vb W).map λc=>fX rows (cZ (i,c))*(if(i,c)∈cs then 1 else 0)))]:=by
   simp[Zn,Uv]
  have lK:((Zn rows cs i W).map (MV.f∘ze true)).length<aD:=by rw[Yb];simp[Zn];lia
  rw[eK] at hQ;generalize (Zn rows cs i W).map (MV.f∘ze true)=M at *;have nl:∀ hh,Yq true ((Vb W).map λc=>I (fX rows (cZ (i,c))*(if(i,c)∈cs then 1 else 0))) hh=.ok (.f (ze false ((Vb W).map λc=>fX rows (cZ (i,c))*(if(i,c)∈cs then 1 else 0)))) hh:=λhh=>by
   have:=Zc (((Vb W).map λc=>fX rows (cZ (i,c))*(if(i,c)∈cs then 1 else 0)).map FV.int) hh;rw[Ue,Ue] at this;exact this
  have tu:∀(r:List Int) hh,yt true "tuple" [.f (ze false r)] hh=.ok (.f (ze true r)) hh:=λr hh=>by
   have q:Qa hh (.f (ze false r))=some ((r.map FV.int).map MV.f):=rfl;have:=Yy (r.map FV.int);simp only[Qo,zo,zp,yi,Zl,qk,Qk,yo,Yl,ql,q,qc,Qi,this];rfl
  simp[Qh,cl,Zo _ (W:Int) (by lia),MP.stM];rw[Qv (e:=λc:Nat=>I (c:Int)) (g:=λc=>I (fX rows (cZ (i,c))*(if(i,c)∈cs then 1 else 0))) (caps:=[some (.f rv),some (I i),some (.f cv)]) (Vb W) [] none (by rw[Yb];simp;lia) (λc hc z=>⟨some (I c),by
   obtain⟨rr,r1,r2,r3⟩:=RC i c hi (Xo.mp hc);have iv:=IV i c (atC kk::(g0++[.lst M]));generalize fX rows (cZ (i,c))=x at *;by_cases q:(i,c)∈cs
   ·have:=bm x true;simp[q] at iv this;simp[zk,qr,r1,r2,r3,iv,bi,this,q]
   ·have:=bm x false;simp[q] at iv this;simp[zk,qr,r1,r2,r3,iv,bi,this,q]⟩)]
  rw[R.aH,Vf,nl];generalize ((Vb W).map λc=>fX rows (cZ (i,c))*(if(i,c)∈cs then 1 else 0))=rw0 at *;simp[tu,cl,lK,sc];exact hQ _
 ·rintro σ hh ⟨iC,rfl,rfl⟩;exact sE iC j0
end
end MP
end
section
namespace MP
open PySem
theorem yca(h:MH)(a:Nat):l0 "reverse" (.ref a) [] h=opt (Ze h a) λxs=>.ok (.f .bh) (Zd h a xs.reverse):=rfl
theorem RN(h)(k k')(x)(g):∃ g',ym (atC k::h) (.f x) (atC k'::g)=.ok (.f x) (atC k'::g'):=by
 unfold ym;split
 ·exact⟨g.take h.length,rfl⟩
 ·exact⟨g,rfl⟩
section
variable (n:Nat)
theorem Bh(ns:List Int)(m most:Int)(rows:List (List Int))(H W:Nat)(w:FV)(cs:List (Nat×Nat))(o:One most rows H W w cs)(l7 o8 iC j0:Option MV)(g0:MH)(kk:Int)(hk:0<=kk)(mQ:kk<800000) :
  ∃ g',Qb prog (run prog (n+8)) (bQ.drop 10) (rL ns m H W most rows w cs l7 o8 iC j0) (atC kk::g0)=.ret (B true) (atC (kk+2)::g'):=by
 obtain⟨g1,g2,g3⟩:=o.dk;have ST:=qL (n+2) (atC kk::g0) most rows H W o.d o.h1 w cs o.wr;have cl:∀ M,Ze (atC kk::(g0++[.lst M])) (g0.length+1)=some M:=λM=>yf (atC kk::g0) [] M;have SL:=yba (n+5) (atC kk::(g0++[.lst (((dk (di rows cs)).map ya).map .f)])) 2 (g0.length+1) ((dk (di rows cs)).map ya) (cl _) (by rw[Yb,wc];lia) (λx hx=>by
  obtain⟨q,_,rfl⟩:=Wd.mp hx;exact yco q)
 have sc:∀ M ys,Zd (atC kk::(g0++[.lst M])) (g0.length+1) ys=atC kk::(g0++[.lst ys]):=λM ys=>qg (atC kk::g0) [] M ys;have sz:(((dk (di rows cs)).map ya).map MV.f).length<aD:=by rw[Yb];simp;lia
 have Fs:=λM=>qL (n+2) (atC kk::(g0++[.lst M])) most rows H W o.d o.h1 w cs o.wr;have FR:=λM=>Zt (atC kk::(g0++[.lst M])) ((dk (di rows cs)).map ya) [];have SM:=λhh=>zH (n+5) hh 3 _ (L6 (dk (di rows cs)) (by lia));have sE:=λM l7=>Bg n ns m most rows H W w cs o l7 o8 iC j0 (g0++[.lst M,.dead]) kk hk mQ;have e10:bQ.drop 10=bQ[10]::bQ[11]::bQ[12]::bQ[13]::bQ[14]::bQ.drop 15:=rfl;generalize bQ.drop 15=B15 at *;rw[e10];simp only[bQ,bx,Xs,Us];unfold rL at *;generalize ((dk (di rows cs)).map ya).map MV.f=M0 at *;generalize IU:FV.lst ((dk (di rows cs)).map ya)=dv at *;generalize yq most rows=pc at *;generalize B4:ye false false rows=rv at *;generalize IZ:FV.lst (cs.map Za)=cv at *;simp only[Vg,uI,Vf] at ST FR;simp at ST SL;have FR:=FR (M0++[MV.f (.tup [.int most,.int 1])]).reverse;have Fs:=Fs (M0++[MV.f (.tup [.int most,.int 1])]).reverse;have sE:=sE (M0++[MV.f (.tup [.int most,.int 1])]).reverse;have RV:=yca (atC kk::(g0++[.lst (M0++[MV.f (.tup [.int most,.int 1])])])) (g0.length+1);rw[cl,qc,sc] at RV;generalize (M0++[MV.f (.tup [.int most,.int 1])]).reverse=M2 at *;simp at FR Fs;simp[ST,SL,cl,sz,sc,RV,Fs,FR,SM];exact sE _
end
end MP
end
section
namespace MP
open PySem
section
variable (n:Nat) (h:MH)
theorem HR(ns:List Int)(m most:Int)(rows:List (List Int))(H W:Nat)(d:Drawn most rows H W)(hm:1<=most)(h1:1<=H)(h7:H<=7)(w1:1<=W)(w7:W<=7)(z7 z8 z9 oJ l7 o8 iC j0:Option MV)(kk:Int)(hk:0<=kk)(mQ:kk<700000) :
  ∃ k2 g',kk<=k2/\k2<=kk+60/\Qb prog (run prog (n+8)) (bQ.drop 6) [some (.f (.eZ ns)),some (.ref 0),some (I m),some (I H),some (I W),some (I most),some (.f (ye false false rows)),z7,z8,z9,oJ,l7,o8,iC,j0] (atC kk::h)=.ret (B true) (atC k2::g'):=by
 have G:Good most rows:=⟨hm,(by rintro rfl;have:=d.len;simp at this;lia),⟨W,w1,d.sJ⟩,d.sh,by rw[d.len];lia⟩;have MK:=yS (n+6) (atC kk::h) most false false rows G;obtain⟨w,cs,k1,wr,ka,kb,RW⟩:=YcL (n+6) h ns kk hk (by lia) H W h1 w1 h7 w7;obtain⟨c,f,cm,mo,O⟩:=ZO (atC k1::h) w H W cs wr;have O:=O (n+3);have F:=Zt (atC k1::h) (cs.map Za) [];have CN:=λhh=>ybg (n+7) hh most rows H W d cs wr.2.1 wr.2.2.1;have o:One most rows H W w cs:=⟨d,hm,h1,h7,w1,w7,wr⟩;obtain⟨g',sE⟩:=Bh n ns m most rows H W w cs o l7 o8 iC j0 (h++[.dead]) k1 (by lia) (by lia);refine⟨k1+2,g',by lia,by lia,?_⟩;have e6:bQ.drop 6=bQ[6]::bQ[7]::bQ[8]::bQ[9]::bQ.drop 10:=rfl;rw[e6];generalize bQ.drop 10=B10 at *;simp only[bQ,bx,Xs,Us];unfold rL at sE;generalize IU:FV.lst ((dk (di rows cs)).map ya)=dv at *;generalize yq most rows=pc at *;generalize B4:ye false false rows=rv at *;generalize IZ:FV.lst (cs.map Za)=cv at *;simp at O F;simp[MK,RW,cm,mo,O,F,CN];exact sE
noncomputable def tm(most:Int)(rows:List (List Int)):List (List Int):=rows.map λr=>r.map λx=>x*2/(most+1)*most
theorem ycy    (d:Drawn most rows H W)(hm:1<=most):Drawn most (tm most rows) H W:=by
 refine⟨by simp[tm,d.len],λr hr=>?_,λr hr v hv=>?_⟩
 ·obtain⟨r0,h0,rfl⟩:=Wd.mp hr;simp[d.sJ r0 h0]
 ·obtain⟨r0,h0,rfl⟩:=Wd.mp hr;obtain⟨x,hx,rfl⟩:=Wd.mp hv;have b:=d.sh r0 h0 x hx;have a1:0<=x*2/(most+1):=Ku (by lia) (by lia);have a2:x*2/(most+1)<2:=vE (by lia) (by lia);have a3:x*2/(most+1)=0\/x*2/(most+1)=1:=by lia
  rcases a3 with e|e <;> rw[e] <;> simp <;> lia
theorem ZcM(ns)(k)(hk:0<=k)(mQ:k<600000):∃ k2 g',k<=k2/\k2<=k+1000/\run prog (n+9) "_law_one" [.f (.eZ ns),.ref 0] (atC k::h)=.ok (B true) (atC k2::g'):=by
 have N0:=ZJ (n+7) h ns k hk (by lia);have hd:=Dc ns (k+1);generalize mH ns (k+1)=m at N0 hd;have b1:=mod_lt m 7 (by decide);have b2:=mod_lt (m/7) 7 (by decide);obtain⟨H0,hH0⟩:=Vn b1.1;obtain⟨W0,hW0⟩:=Vn b2.1;obtain⟨H,hH⟩:∃ H:Nat,H=1+H0:=⟨_,rfl⟩;obtain⟨W,hW⟩:∃ W:Nat,W=1+W0:=⟨_,rfl⟩;have eH:1+m%7=(H:Int):=by lia
 have eW:1+m/7%7=(W:Int):=by lia
 have uN:H*W<=7*7:=UE (by lia) (by lia);obtain⟨most,hm,IG,RM⟩:=Zcm (n+6) h ns (k+1) (by lia) (by lia);obtain⟨v,h',RR,rows,d,rfl,rfl⟩:=Qca (n+6) h ns (k+1+1) most H W (by lia) (by lia) hm (by lia) (by lia);have a1:∀ hh,qh true .add (I 1) (I (m%7)) hh=.ok (I (H:Int)) hh:=λhh=>by rw[Ys,eH]
 have a2:∀ hh,qh true .add (I 1) (I (m/7%7)) hh=.ok (I (W:Int)) hh:=λhh=>by rw[Ys,eW]
 have e0:bx.body=bQ[0]::bQ[1]::bQ[2]::bQ[3]::bQ[4]::bQ[5]::bQ.drop 6:=rfl;have F6:=λrO (d':Drawn most rO H W)=>HR n h ns m most rO H W d' hm (by lia) (by lia) (by lia) (by lia) none none none none none none none none (k+1+1+((H*W:Nat):Int)) (by lia) (by lia);rw[Qa6];rw[e0];generalize bQ.drop 6=B6 at *;simp only[bQ,bx,Xs,Us];by_cases c:0<m/49%3
 ·obtain⟨k2,g',ka,kb,F⟩:=F6 (tm most rows) (ycy d hm);obtain⟨g2,L⟩:=RN h k k2 (.bl true) g';refine⟨k2,g2,by lia,by lia,?_⟩;have sR:∀ hh,i5 "seq" [.f (ye false false rows)] hh=some (rows.map (MV.f∘ze false),[]):=λhh=>by
   have q:Qa hh (.f (ye false false rows))=some (rows.map (MV.f∘ze false)):=by simp[ye]
   have g:qe hh (.f (ye false false rows))=[]:=rfl;simp only[yu,q,uh,g]
  have nF:∀(r:List Int) hh,i5 "seq" [.f (ze false r)] hh=some (r.map (MV.f∘FV.int),[]):=λr hh=>by
   have q:Qa hh (.f (ze false r))=some (r.map (MV.f∘FV.int)):=by simp[ze]
   have g:qe hh (.f (ze false r))=[]:=rfl;simp only[yu,q,uh,g]
  have m2:∀ x hh,qh true .mul (I x) (I 2) hh=.ok (I (x*2)) hh:=λx hh=>qE _ _ _ (Zs (by decide));have dm:∀ x hh,qh true .fdiv (I x) (I (most+1)) hh=.ok (I (x/(most+1))) hh:=λx hh=>yg _ _ _ ⟨by lia,.inr (by
   have:(most+1).natAbs<2^200:=by lia
   exact wt this (by decide +kernel))⟩
  have mm:∀ x,0<=x->x<=most->∀ hh,qh true .mul (I (x*2/(most+1))) (I most) hh=.ok (I (x*2/(most+1)*most)) hh:=λx x0 x1 hh=>by
   have a1:0<=x*2/(most+1):=Ku (by lia) (by lia);have a2:x*2/(most+1)<2:=vE (by lia) (by lia);exact qE _ _ _ (.inl (by lia))
  have nl:∀(r:List Int) hh,Yq true (r.map λx=>I (x*2/(most+1)*most)) hh=.ok (.f (ze false (r.map λx=>x*2/(most+1)*most))) hh:=λr hh=>by
   have:=Zc ((r.map λx=>x*2/(most+1)*most).map FV.int) hh;rw[Ue,Ue] at this;exact this
  have nl2:∀ hh,Yq true (rows.map λr=>MV.f (ze false (r.map λx=>x*2/(most+1)*most))) hh=.ok (.f (ye false false (tm most rows))) hh:=λhh=>by
   have:=Zc ((tm most rows).map (ze false)) hh;rw[tm,Ue,Ue] at this;exact this
  have lz:rows.length<=7:=by rw[d.len];lia
  generalize ye false false (tm most rows)=j7 at *;generalize B4:ye false false rows=rv at *;simp[N0,a1,a2,RM,RR,c,sR,MP.stM,Zg,yg,QU];rw[Qv (e:=MV.f∘ze false) (g:=λr=>MV.f (ze false (r.map λx=>x*2/(most+1)*most))) (caps:=[some (I most)]) rows [] none (by rw[Yb];simp;lia) (λr hr z=>⟨some (.f (ze false r)),by
   have wr:=d.sJ r hr;have sh:=d.sh r hr;have s2:∀ hh,Qa hh (.f (ze false r))=some (r.map (MV.f∘FV.int)):=λhh=>by simp[ze]
   simp[zk,s2,MP.stM];rw[Qv (e:=MV.f∘FV.int) (g:=λx=>I (x*2/(most+1)*most)) (caps:=[some (I most)]) r [] none (by rw[Yb];simp;lia) (λx hx z=>⟨some (I x),by
    have:=mm x (sh x hx).1 (sh x hx).2;simp[zk,m2,dm,this,Ys,qx]⟩)]
   rw[R.aH,Vf,nl];simp⟩)]
  rw[R.aH,Vf,nl2];push_cast at F;simp;rw[F];simp[L]
 ·obtain⟨k2,g',ka,kb,F⟩:=F6 rows d;obtain⟨g2,L⟩:=RN h k k2 (.bl true) g';refine⟨k2,g2,by lia,by lia,?_⟩;generalize B4:ye false false rows=rv at *;push_cast at F;simp[N0,a1,a2,RM,RR,c,Zg,yg,QU];rw[F];simp[L]
theorem pB(ns)(hl:ns.length<=63):∃ g,run prog (n+10) "law" [.f (.eZ ns)] []=.ok (B true) g:=by
 suffices fi (run prog (n+10) "law" [.f (.eZ ns)] []) λv h'=>v=B true by
  obtain⟨v,h',e,rfl⟩:=this;exact⟨h',e⟩
 refine fi.of λQ hQ=>?_;have d16:∀ hh,qh true .fdiv (I ns.length) (I 16) hh=.ok (I ((ns.length:Int)/16)) hh:=λhh=>yg _ _ _ ⟨by decide,.inl (by decide)⟩;obtain⟨T,hT,hT2⟩:∃ T:Nat,1+(if(ns.length:Int)/16<3 then(ns.length:Int)/16 else 3)=(T:Int)/\T<=4:=by
  obtain⟨T,hT⟩:=Vn (show 0<=1+(if(ns.length:Int)/16<3 then(ns.length:Int)/16 else 3) by split <;> lia);exact⟨T,hT,by split at hT <;> lia⟩
 rw[qcD];simp only[lV];simp[Zm,d16,hT,Zo _ (T:Int) (by lia)];refine yx (Q:=λr=>fi (yc _ r) Q) T (λi σ hh=>∃(kk:Int)(g:MH)(z2:Option MV),0<=kk/\kk<=1000*(i:Int)/\hh=atC kk::g/\σ=[some (.f (.eZ ns)),some (.ref 0),z2]) ?_ ?_ ?_
 ·exact⟨0,[],none,by lia,by lia,rfl,rfl⟩
 ·rintro i σ hh oP ⟨kk,g,z2,k0,k1,rfl,rfl⟩ Q hQ;obtain⟨k2,g',a1,a2,R⟩:=ZcM n g ns kk k0 (by lia);simp[Qh,R];exact hQ _ _ ⟨k2,g',_,by lia,by lia,rfl,rfl⟩
 ·rintro σ hh ⟨kk,g,z2,k0,k1,rfl,rfl⟩;have lv:=KC [] (atC kk::g) (.bl true);simp only[Vf] at lv;simp[lv];exact hQ _ _ rfl
end
end MP
end
section
namespace SD
open PySem L2 L3 M3 MP PyProof.Rows
noncomputable def top(i:Nat):Stmt:=PySem.Challenge.pw_dotscreen_k52_stretches.main.body.getD i (.Pass ⟨0,0,0,0⟩)
noncomputable abbrev LN:Stmt:=top 0
theorem qcy:zh prog F9 ["k"] ["k"] LN=true:=by decide +kernel
noncomputable abbrev Ph:Stmt:=top 14
theorem qbG:zh prog QS ["rows"] ["rows"] Ph=true:=by decide +kernel
noncomputable abbrev Mc:Stmt:=top 15
theorem YbB:zh prog qT ["rows","least","greatest","row"] ["rows","least","greatest"] Mc=true:=by decide +kernel
noncomputable abbrev QT:Stmt:=top 16
theorem zax:zh prog bR ["high","wide","cells","row"] ["high","wide"] QT=true:=by decide +kernel
noncomputable abbrev ZG:Stmt:=zu (top 18) 0
theorem Qaa:zh prog Yp ["self","most","rows","kept","fault"] ["self","most","rows"] ZG=true:=by decide +kernel
noncomputable abbrev Nt:Stmt:=top 19
theorem Yc7:zh prog DQ ["picture"] ["picture"] Nt=true:=by decide +kernel
noncomputable abbrev Pl:Stmt:=top 20
theorem ydc:zh prog DJ ["picture"] ["picture"] Pl=true:=by decide +kernel
noncomputable abbrev NV:Stmt:=top 21
theorem ybY:zh prog e9 ["picture"] ["picture"] NV=true:=by decide +kernel
noncomputable abbrev NY:Stmt:=top 22
theorem qbA:zh prog zR ["picture","cell"] ["picture","cell"] NY=true:=by decide +kernel
noncomputable abbrev Mg:Stmt:=top 23
theorem qbH:zh prog QH ["picture","cell"] ["picture","cell"] Mg=true:=by decide +kernel
noncomputable abbrev NZ:Stmt:=top 24
theorem ZbH:zh prog eD ["picture","cell"] ["picture","cell"] NZ=true:=by decide +kernel
noncomputable abbrev Mf:Stmt:=top 25
theorem YbG:zh prog eF ["high","wide"] ["high","wide"] Mf=true:=by decide +kernel
noncomputable abbrev Q9:Stmt:=top 26
theorem QaQ:zh prog qA ["picture","pairs","rows","cell","shade"] ["picture","pairs"] Q9=true:=by decide +kernel
noncomputable abbrev Md:Stmt:=top 27
theorem zbE:zh prog eE ["most","size","pairs"] ["most","size","pairs"] Md=true:=by decide +kernel
noncomputable abbrev qJ:Stmt:=top 29
theorem yak:zh prog bA ["picture","way","size","stretches","cell","shade"] ["picture","way"] qJ=true:=by decide +kernel
noncomputable abbrev RH:Stmt:=top 30
theorem qa8:zh prog bB ["most","high","wide","way","stretches","cells","shades","shade","count"] ["most","high","wide","way","stretches"] RH=true:=by decide +kernel
noncomputable abbrev YU:Stmt:=top 31
theorem yay:zh prog bS ["stretches","most","cells","shade","count"] ["stretches","most","cells"] YU=true:=by decide +kernel
noncomputable abbrev NQ:Stmt:=zu (top 33) 0
theorem Qbh:zh prog dF ["self","high","wide"] ["self","high","wide"] NQ=true:=by decide +kernel
noncomputable abbrev MU:Stmt:=zu (top 33) 1
theorem ybz:zh prog KH ["self"] ["self"] MU=true:=by decide +kernel
noncomputable abbrev ZV:Stmt:=zu (top 34) 0
theorem ZaD:zh prog ck ["self","high","wide","cells","row","line"] ["self","high","wide"] ZV=true:=by decide +kernel
noncomputable abbrev Q8:Stmt:=zu (top 34) 1
theorem ZaO:zh prog yL ["self"] ["self"] Q8=true:=by decide +kernel
noncomputable abbrev qK:Stmt:=zu (top 35) 0
theorem Yaf:zh prog bF ["self","high","wide"] ["self","high","wide"] qK=true:=by decide +kernel
noncomputable abbrev yO:Stmt:=zu (top 35) 1
theorem qao:zh prog zA ["self"] ["self"] yO=true:=by decide +kernel
noncomputable abbrev yK:Stmt:=zu (top 36) 0
theorem yag:zh prog bE ["self","high","wide","side"] ["self","high","wide"] yK=true:=by decide +kernel
noncomputable abbrev zO:Stmt:=zu (top 36) 1
theorem zaq:zh prog Qz ["self"] ["self"] zO=true:=by decide +kernel
noncomputable abbrev YC:Stmt:=zu (top 37) 0
theorem zY:zh prog bj ["self","way","mask"] ["self","way","mask"] YC=true:=by decide +kernel
noncomputable abbrev QJ:Stmt:=zu (top 37) 1
theorem Yae:zh prog bD ["self","high","wide","ways","left_out","way"] ["self","high","wide"] QJ=true:=by decide +kernel
noncomputable abbrev YM:Stmt:=zu (top 37) 2
theorem yao:zh prog Zz ["self"] ["self"] YM=true:=by decide +kernel
noncomputable abbrev Z8:Stmt:=top 38
theorem ZaR:zh prog cG ["way","ways"] ["way"] Z8=true:=by decide +kernel
noncomputable abbrev qY:Stmt:=top 39
theorem zaM:zh prog cf ["side","cells","reached"] ["side"] qY=true:=by decide +kernel
noncomputable abbrev Q7:Stmt:=top 40
theorem yaR:zh prog cH ["cells","side","first","second","third","fourth"] ["cells","side"] Q7=true:=by decide +kernel
noncomputable abbrev RE:Stmt:=top 42
theorem Zbq:zh prog YK ["_law_script","_law_at","_law_cell","_law_m"] ["_law_script","_law_at"] RE=true:=by decide +kernel
noncomputable abbrev MG:Stmt:=top 43
theorem qbi:zh prog cX ["_law_found","_law_due"] ["_law_found","_law_due"] MG=true:=by decide +kernel
noncomputable abbrev LV:Stmt:=top 44
theorem Ybk:zh prog yJ ["_law_script","_law_at","_law_m","_law_cell"] ["_law_script","_law_at"] LV=true:=by decide +kernel
noncomputable abbrev O5:Stmt:=top 45
theorem zbo:zh prog dD ["_law_script","_law_at","_law_most_here","_law_tall","_law_broad","_law_rows_here","_law_k","_law_line","_law_j","_law_m","_law_shade"] ["_law_script","_law_at","_law_most_here","_law_tall","_law_broad"] O5=true:=by decide +kernel
noncomputable abbrev Me:Stmt:=top 47
theorem qbw:zh prog eG ["_law_script","_law_at","_law_tall","_law_broad","_law_m","_law_way_here","_law_mask","_law_row","_law_column","_law_n"] ["_law_script","_law_at","_law_tall","_law_broad"] Me=true:=by decide +kernel
noncomputable abbrev ZX:Stmt:=top 48
theorem YaG:zh prog cj ["_law_rows_here","_law_order","_law_found","_law_row","_law_column","_law_shade"] ["_law_rows_here","_law_order"] ZX=true:=by decide +kernel
noncomputable abbrev LW:Stmt:=top 49
theorem Qbg:zh prog cW ["_law_most_here","_law_tall","_law_broad","_law_way_here","_law_stretches","_law_told_here","_law_e"] ["_law_most_here","_law_tall","_law_broad","_law_way_here","_law_stretches"] LW=true:=by decide +kernel
noncomputable abbrev O7:Stmt:=top 50
theorem Ybm:zh prog dE ["_law_most_here","_law_tall","_law_broad","_law_way_here","_law_stretches","_law_due","_law_told_here"] ["_law_most_here","_law_tall","_law_broad","_law_way_here","_law_stretches","_law_due"] O7=true:=by decide +kernel
noncomputable abbrev NR:Stmt:=top 51
theorem Za6:zh prog bC ["_law_script","_law_at","_law_most_here","_law_stretches","_law_m","_law_made","_law_k","_law_shade","_law_count","_law_far","_law_some"] ["_law_script","_law_at","_law_most_here","_law_stretches"] NR=true:=by decide +kernel
noncomputable abbrev zZ:Stmt:=top 52
theorem QaH:zh prog cg ["_law_script","_law_at","_law_most_here","_law_rows_here","_law_way_here","_law_due","_law_m","_law_tall","_law_broad","_law_wrong_here","_law_size","_law_many","_law_blank","_law_low","_law_some"] ["_law_script","_law_at","_law_most_here","_law_rows_here","_law_way_here","_law_due"] zZ=true:=by decide +kernel
noncomputable abbrev Y8:Stmt:=top 53
theorem qaN:zh prog cJ ["_law_due","_law_m","_law_parted_here","_law_shade","_law_count","_law_first"] ["_law_due","_law_m"] Y8=true:=by decide +kernel
noncomputable abbrev Pg:Stmt:=top 54
theorem Zbx:zh prog bx ["_law_script","_law_at","_law_m","_law_tall","_law_broad","_law_most_here","_law_rows_here","_law_picture","_law_way_here","_law_order","_law_due","_law_found","_law_kept","_law_row","_law_handed_in"] ["_law_script","_law_at"] Pg=true:=by decide +kernel
noncomputable abbrev rh:Stmt:=top 55
theorem LF:zh prog lV ["_law_script","_law_at","_law_turn"] ["_law_script"] rh=true:=by decide +kernel
end SD
end
section
namespace SD
open PySem PySem.Spec PyProof.Rows L2 L3 M3 MP
noncomputable abbrev QW:Stmt:=top 46
noncomputable def qc1(K:Gc)(cs:List ae):ae->ae->Sp:=λx C vs H Q _=>vs=[.ref x]/\∃ i,sy K cs C i/\∀ H',iW H H'->Q (.str (DI i)) H'
theorem qbj:fE ["_law_e","_law_told_here","_law_words","_law_some"] ["_law_e"] (yb QW):=⟨rfl,rfl,rfl,by decide +kernel,rfl,by decide +kernel,by decide +kernel⟩
theorem qcH{P:ak}{w:World}{K:Gc}{mg:Str->Option Value}{base:Heap}{c0 c1 c2 c3 c4 c5 c6 c7 c8 c9:ae}(S:Src K mg "_law_word" QW ["_law_e"])(b_isinstance:mg "isinstance"=none)(b_range:mg "range"=none)(b_len:mg "len"=none)(b_ValueError:mg "ValueError"=none)(m0:mg "NoPicture"=some (.ref c0))(m1:mg "OutOfPicture"=some (.ref c1))(m2:mg "NoMeet"=some (.ref c2))(m3:mg "NoTile"=some (.ref c3))(m4:mg "NoInks"=some (.ref c4))(m5:mg "NoShares"=some (.ref c5))(m6:mg "NoShade"=some (.ref c6))(m7:mg "NoStretches"=some (.ref c7))(m8:mg "NoWay"=some (.ref c8))(m9:mg "NoText"=some (.ref c9)):fG P w K mg base "_law_word" 1 ["_law_e"] (qc1 K [c0,c1,c2,c3,c4,c5,c6,c7,c8,c9]):=by
 have sc:=qbj;refine qcL S sc (λx C vs H Q E h=>by obtain⟨rfl,_⟩:=h;rfl) λf x0 C tt T cU A outer s H vs Q hr h=>?_;obtain⟨rfl,ix,Z,k⟩:=h;have zC:mF K C:=Z.z;refine⟨_,(@qF _ _ _ _ _ (@tw _ _ (1) _ _ _ _ sc.nd rfl (Jo rfl) (@xX _ _ _ _ (@Zb _ _ _ _ _ (@Qm _ _ _ _ _ _ _ _ _ (Zr zC (.head _)) rfl b_isinstance aJ (@Zb _ _ _ _ _ (pv 0) (@Zb _ _ _ _ _ (@yy _ _ (.ref c0) _ _ rfl m0 rfl (by decide)) yk (by rfl)) (by rfl)) (by decide) (by decide) (by rfl) (by rfl)) (@Zb _ _ _ _ _ (@Qm _ _ _ _ _ _ _ _ _ (Zr zC (.head _)) rfl b_isinstance aJ (@Zb _ _ _ _ _ (pv 0) (@Zb _ _ _ _ _ (@yy _ _ (.ref c1) _ _ rfl m1 rfl (by decide)) yk (by rfl)) (by rfl)) (by decide) (by decide) (by rfl) (by rfl)) (@Zb _ _ _ _ _ (@Qm _ _ _ _ _ _ _ _ _ (Zr zC (.head _)) rfl b_isinstance aJ (@Zb _ _ _ _ _ (pv 0) (@Zb _ _ _ _ _ (@yy _ _ (.ref c2) _ _ rfl m2 rfl (by decide)) yk (by rfl)) (by rfl)) (by decide) (by decide) (by rfl) (by rfl)) (@Zb _ _ _ _ _ (@Qm _ _ _ _ _ _ _ _ _ (Zr zC (.head _)) rfl b_isinstance aJ (@Zb _ _ _ _ _ (pv 0) (@Zb _ _ _ _ _ (@yy _ _ (.ref c3) _ _ rfl m3 rfl (by decide)) yk (by rfl)) (by rfl)) (by decide) (by decide) (by rfl) (by rfl)) yk (by rfl)) (by rfl)) (by rfl)) (by rfl))) (by rfl) (by first|exact .inl rfl|exact .inr rfl|assumption)) (@qF _ _ _ _ _ (@tw _ _ (1) _ _ _ _ sc.nd rfl (Jo rfl) (@K' _ _ _ _ _ _ _ _ OQ (pv 1) (@xX _ _ _ _ (@Zb _ _ _ _ _ (@Qm _ _ _ _ _ _ _ _ _ (Zr zC (.head _)) rfl b_isinstance aJ (@Zb _ _ _ _ _ (pv 0) (@Zb _ _ _ _ _ (@yy _ _ (.ref c4) _ _ rfl m4 rfl (by decide)) yk (by rfl)) (by rfl)) (by decide) (by decide) (by rfl) (by rfl)) (@Zb _ _ _ _ _ (@Qm _ _ _ _ _ _ _ _ _ (Zr zC (.head _)) rfl b_isinstance aJ (@Zb _ _ _ _ _ (pv 0) (@Zb _ _ _ _ _ (@yy _ _ (.ref c5) _ _ rfl m5 rfl (by decide)) yk (by rfl)) (by rfl)) (by decide) (by decide) (by rfl) (by rfl)) (@Zb _ _ _ _ _ (@Qm _ _ _ _ _ _ _ _ _ (Zr zC (.head _)) rfl b_isinstance aJ (@Zb _ _ _ _ _ (pv 0) (@Zb _ _ _ _ _ (@yy _ _ (.ref c6) _ _ rfl m6 rfl (by decide)) yk (by rfl)) (by rfl)) (by decide) (by decide) (by rfl) (by rfl)) yk (by rfl)) (by rfl)) (by rfl)))) (by rfl) (by first|exact .inl rfl|exact .inr rfl|assumption)) (@qF _ _ _ _ _ (@tw _ _ (1) _ _ _ _ sc.nd rfl (Jo rfl) (@K' _ _ _ _ _ _ _ _ OQ (pv 1) (@xX _ _ _ _ (@Zb _ _ _ _ _ (@Qm _ _ _ _ _ _ _ _ _ (Zr zC (.head _)) rfl b_isinstance aJ (@Zb _ _ _ _ _ (pv 0) (@Zb _ _ _ _ _ (@yy _ _ (.ref c7) _ _ rfl m7 rfl (by decide)) yk (by rfl)) (by rfl)) (by decide) (by decide) (by rfl) (by rfl)) (@Zb _ _ _ _ _ (@Qm _ _ _ _ _ _ _ _ _ (Zr zC (.head _)) rfl b_isinstance aJ (@Zb _ _ _ _ _ (pv 0) (@Zb _ _ _ _ _ (@yy _ _ (.ref c8) _ _ rfl m8 rfl (by decide)) yk (by rfl)) (by rfl)) (by decide) (by decide) (by rfl) (by rfl)) (@Zb _ _ _ _ _ (@Qm _ _ _ _ _ _ _ _ _ (Zr zC (.head _)) rfl b_isinstance aJ (@Zb _ _ _ _ _ (pv 0) (@Zb _ _ _ _ _ (@yy _ _ (.ref c9) _ _ rfl m9 rfl (by decide)) yk (by rfl)) (by rfl)) (by decide) (by decide) (by rfl) (by rfl)) yk (by rfl)) (by rfl)) (by rfl)))) (by rfl) (by first|exact .inl rfl|exact .inr rfl|assumption)) (@qF _ _ _ _ _ (@tw _ _ (2) _ _ _ _ sc.nd rfl (Jo rfl) (@xX _ _ _ _ (@Zb _ _ _ _ _ Yz (@Zb _ _ _ _ _ Yz (@Zb _ _ _ _ _ Yz (@Zb _ _ _ _ _ Yz (@Zb _ _ _ _ _ Yz (@Zb _ _ _ _ _ Yz (@Zb _ _ _ _ _ Yz (@Zb _ _ _ _ _ Yz (@Zb _ _ _ _ _ Yz (@Zb _ _ _ _ _ Yz yk (by rfl)) (by rfl)) (by rfl)) (by rfl)) (by rfl)) (by rfl)) (by rfl)) (by rfl)) (by rfl)) (by rfl))) (by rfl) (by first|exact .inl rfl|exact .inr rfl|assumption)) (@qF _ _ _ _ _ (@Ycg _ _ _ _ _ _ _ _ _ _ _ _ _ _ _ _ _ (3) _ _ _ hr.hd (.head _) sc.nd rfl (Or.inl rfl) ["_law_k","_law_words","_law_told_here"] 1 [2,1] rfl rfl b_range (@Zb _ _ _ _ _ Dj yk (by rfl)) (λ_ _ _ _=>(@Fg _ _ (0) _ (show(["_law_k","_law_words","_law_told_here"]:List Str).Nodup from by decide +kernel) rfl (Or.inl rfl) (by first|exact .inl rfl|exact .inr rfl|assumption))) (λ_ _ _ _=>PN (@KA _ _ _ (@Fc _ _ _ _ _ _ _ (FX K) (pv 2) (pv 0) (λ_ _=>rfl)) (by intro _;rfl))) (λ_ _ _ _=>(@Fc _ _ _ _ _ _ _ (FX K) (pv 1) (pv 0) (λ_ _=>rfl))) (by rfl) (by intro _;rfl) (by rfl) (by first|exact .inl rfl|exact .inr rfl|assumption)) (@qF _ _ _ _ _ (@Mp _ _ _ _ _ _ _ _ (PW.pt (@Pr _ _ _ _ _ _ _ (@MB _ _ _ _ _ _ _ _ A8 (@Qm _ _ _ _ _ _ _ _ _ (Pt K) rfl b_len PySem.boot_len (@Zb _ _ _ _ _ (pv 3) yk (by rfl)) (by decide) (by decide) (by rfl) (by rfl)) Dj (Qc6 _)) (@Ml _ _ _ _ (@Mi _ _ _ _ (@KA _ _ _ (@Qm _ _ _ _ _ _ _ _ _ (Zr zC (.head _)) rfl b_isinstance aJ (@Zb _ _ _ _ _ (pv 0) (@Zb _ _ _ _ _ (@NL _ _ (.ty "ValueError") _ _ rfl b_ValueError (by rfl) rfl (by decide) (by decide)) yk (by rfl)) (by rfl)) (by decide) (by decide) (by rfl) (by rfl)) (by intro _;rfl)))))) (@C9 _ _ _ (@KW _ _ _ _ Yz)) K4) (@C9 _ _ _ (@KW _ _ _ _ (@Fc _ _ _ _ _ _ _ (FX K) (pv 3) Dj (λ_ _=>rfl)))))))))),?_⟩;have kj:∀(j:Nat) D,[c0,c1,c2,c3,c4,c5,c6,c7,c8,c9][j]?=some D->Xe K (.ref C) (.ref D)=some (decide (j=ix)):=Z.kj;refine⟨_,rfl,_,_,_,rfl,rfl,kj 0 _ rfl,_,rfl,_,_,_,rfl,rfl,kj 1 _ rfl,_,rfl,_,_,_,rfl,rfl,kj 2 _ rfl,_,rfl,_,_,_,rfl,rfl,kj 3 _ rfl,(by show 4<=sizeLine;decide),λp1 h1=>?_⟩;generalize hH:upd _ _ _=H2;have g2:H2 p1=some (.lst [.bl (decide (0=ix)),.bl (decide (1=ix)),.bl (decide (2=ix)),.bl (decide (3=ix))]):=by rw[<- hH];exact zf
 have s2:iW H H2:=by rw[<- hH];exact YG h1 _
 clear hH;refine⟨_,rfl,_,rfl,_,_,_,rfl,rfl,kj 4 _ rfl,_,rfl,_,_,_,rfl,rfl,kj 5 _ rfl,_,rfl,_,_,_,rfl,rfl,kj 6 _ rfl,(by show 3<=sizeLine;decide),λp2 h2=>?_⟩;refine⟨p1,p2,_,_,rfl,rfl,(by rw[Qc (Qe g2 h2)];exact g2),zf,(by show 7<=sizeLine;decide),λp3 h3=>?_⟩;generalize hH:upd _ _ _=H3;have g3:H3 p3=some (.lst [.bl (decide (0=ix)),.bl (decide (1=ix)),.bl (decide (2=ix)),.bl (decide (3=ix)),.bl (decide (4=ix)),.bl (decide (5=ix)),.bl (decide (6=ix))]):=by rw[<- hH];exact zf
 have s3:iW H H3:=by rw[<- hH];exact s2.trans ((YG h2 _).trans (YG h3 _))
 clear hH;refine⟨_,rfl,_,rfl,_,_,_,rfl,rfl,kj 7 _ rfl,_,rfl,_,_,_,rfl,rfl,kj 8 _ rfl,_,rfl,_,_,_,rfl,rfl,kj 9 _ rfl,(by show 3<=sizeLine;decide),λp4 h4=>?_⟩;refine⟨p3,p4,_,_,rfl,rfl,(by rw[Qc (Qe g3 h4)];exact g3),zf,(by show 10<=sizeLine;decide),λp5 h5=>?_⟩;generalize hH:upd _ _ _=H5;have g5:H5 p5=some (.lst ((Vb 10).map λj=>V.bl (decide (j=ix)))):=by rw[<- hH];exact zf
 have s5:iW H H5:=by rw[<- hH];exact s3.trans ((YG h4 _).trans (YG h5 _))
 clear hH;refine⟨(by show 10<=sizeLine;decide),λp6 h6=>?_⟩;have hat:∀ i,i<10->oU ((Vb 10).map λj=>V.bl (decide (j=ix))) (0+(i:Nat))=some (.bl (decide (i=ix))):=λi hi=>by
  rw[Int.zero_add];exact Rr (by rw[Xc,xo hi];rfl)
 have JA:∀ i,i<10->oU (ic.map V.str) (0+(i:Nat))=some (.str (DI i)):=λi hi=>by
  rw[Int.zero_add];exact Rr (by rw[Xc,xc (show i<ic.length from hi)];unfold DI;rw[Uh,xc (show i<ic.length from hi)];rfl)
 generalize hH:upd _ _ _=H6;have g6:H6 p6=some (.lst (ic.map V.str)):=by rw[<- hH];exact zf
 have g5:H6 p5=some (.lst ((Vb 10).map λj=>V.bl (decide (j=ix)))):=by rw[<- hH,Qc (Qe g5 h6)];exact g5
 have s6:iW H H6:=by rw[<- hH];exact s5.trans (YG h6 _)
 clear hH;refine⟨10,rfl,by decide,by decide,?_⟩;refine Ycx (n:=10) (λi acc σ H'=>H'=H6/\(∃ z,σ=[z,some (.ref p6),some (.ref p5)])/\acc=if i<=ix then[] else[V.str (DI ix)]) ?_ (λi acc σ H' hi h=>hi) (λacc σ H' h=>Ub _) (λi acc σ H' y H2 hi h hy=>?_) (λacc σ H' h D hD=>?_)
 ·exact⟨rfl,⟨_,rfl⟩,by rw[if_pos (xl _)]⟩
 ·obtain⟨rfl,⟨z,rfl⟩,rfl⟩:=h;obtain⟨rfl,rfl⟩:=hy;refine⟨_,rfl,_,rfl,p5,_,_,_,rfl,rfl,fR.of g5,hat i hi,_,rfl,?_⟩;refine BH (λc=>?_) (λc=>?_)
  ·have c':i=ix:=of_decide_eq_true c;subst c';refine⟨_,rfl,_,rfl,p6,_,_,_,rfl,rfl,fR.of g6,JA i hi,?_,rfl,⟨_,rfl⟩,?_⟩
   ·rw[if_pos (Ub _)];show 0<sizeLine;decide
   ·rw[if_pos (Ub _),if_neg (by omega)];rfl
  ·have c':i≠ix:=λe=>c (decide_eq_true e);refine⟨rfl,⟨_,rfl⟩,?_⟩;by_cases h:i<=ix
   ·rw[if_pos h,if_pos (by omega)]
   ·rw[if_neg h,if_neg (by omega)]
 ·obtain⟨rfl,⟨z,rfl⟩,rfl⟩:=h;have hi:=Z.i10;rw[if_neg (by omega)] at *;refine⟨_,rfl,D,_,rfl,.inl (fR.of zf),rfl,_,rfl,BH (λc=>absurd c (by show ¬(!decide (V.int 1=V.int 1))=true;decide)) (λ_=>?_)⟩;refine⟨_,rfl,_,_,_,rfl,rfl,Z.ve,_,rfl,Ic ?_⟩;exact⟨_,rfl,D,_,0,_,rfl,rfl,fR.of zf,rfl,k _ (s6.trans (YG hD _))⟩
noncomputable def pW(K:Gc)(Yf Yw Qg Yd qd Yc c0 c1 c7 B:ae):Tx:=⟨(λs=>match s with
  |"Picture"=>Yf
  |"Way"=>Yw
  |"FroWay"=>Qg
  |"ColumnWay"=>Yd
  |"FoldedWay"=>qd
  |"MaskedWay"=>Yc
  |"NoPicture"=>c0
  |"OutOfPicture"=>c1
  |"NoStretches"=>c7
  |"DotError"=>B
  |_=>0),K,0,0,⟨0,0,0,0⟩,jk ""⟩
theorem all_mk{l:jd}{w:World}{K:Gc}{h:Heap}{mg:Str->Option Value}{fa:ae}{OO:aN}{c0:ae}{ON:aN}{c1:ae}{cd2:aN}{c2:ae}{cd3:aN}{c3:ae}{cd4:aN}{c4:ae}{cd5:aN}{c5:ae}{cd6:aN}{c6:ae}{OM:aN}{c7:ae}{cd8:aN}{c8:ae}{cd9:aN}{c9:ae}{B:ae}{Yf:ae}{qbu:aN}{Yw:ae}{yc2:aN}{Qg:ae}{qbZ:aN}{Yd:ae}{ya3:aN}{qd:ae}{zbc:aN}{Yc:ae}{qa9:aN}{O6:ae}{L5:ae}{O8:ae}{PY:ae}{zP:ae}{ZU:ae}{YD:ae}{yG:ae}{qD:ae}{YH:ae}{QD:ae}{ZI:ae}{La:ae}{ZcW LD:Option ae}{Qc4:Array (Option Value)}{ycW Nn Ri Rh HB LA:Value}(X:K.In h)(G:h.Ns aC mg)(hfa:mg "law"=some (.ref fa))
  (ZcL:Src K mg "_wall" LN ["k"]) (ZbG:Src K mg "own_rows" Ph ["rows"]) (QbI:Src K mg "fault_of" Mc ["rows","least","greatest"]) (Qaw:Src K mg "cells_by_rows" QT ["high","wide"]) (Qc9:Src K mg "high" Nt ["picture"]) (Zde:Src K mg "wide" Pl ["picture"]) (qbU:Src K mg "size_of" NV ["picture"]) (QbA:Src K mg "has_cell" NY ["picture","cell"]) (ZbI:Src K mg "ask_cell" Mg ["picture","cell"]) (ybE:Src K mg "shade_at" NZ ["picture","cell"]) (QbD:Src K mg "ask_size" Mf ["high","wide"]) (YaR:Src K mg "with_shades" Q9 ["picture","pairs"]) (YbC:Src K mg "laid_out" Md ["most","size","pairs"]) (Qag:Src K mg "stretches_along" qJ ["picture","way"]) (qa2:Src K mg "laid_along" RH ["most","high","wide","way","stretches"]) (zaz:Src K mg "ask_stretches" YU ["stretches","most","cells"]) (zaO:Src K mg "ways_within" Z8 ["way"]) (zaJ:Src K mg "folded_cells" qY ["side"]) (yaP:Src K mg "folded_once" Q7 ["cells","side"]) (ybm:Src K mg "_law_next" RE ["_law_script","_law_at"]) (Zbf:Src K mg "_law_same" MG ["_law_found","_law_due"]) (Qbf:Src K mg "_law_most" LV ["_law_script","_law_at"]) (Zbl:Src K mg "_law_rows" O5 ["_law_script","_law_at","_law_most_here","_law_tall","_law_broad"]) (ZbE:Src K mg "_law_way" Me ["_law_script","_law_at","_law_tall","_law_broad"]) (ZaC:Src K mg "_law_counted" ZX ["_law_rows_here","_law_order"]) (Zbo:Src K mg "_law_told" LW ["_law_most_here","_law_tall","_law_broad","_law_way_here","_law_stretches"]) (Qbp:Src K mg "_law_laid" O7 ["_law_most_here","_law_tall","_law_broad","_law_way_here","_law_stretches","_law_due"]) (Za5:Src K mg "_law_wrong" NR ["_law_script","_law_at","_law_most_here","_law_stretches"]) (QaC:Src K mg "_law_refused" zZ ["_law_script","_law_at","_law_most_here","_law_rows_here","_law_way_here","_law_due"]) (yaT:Src K mg "_law_parted" Y8 ["_law_due","_law_m"]) (zbF:Src K mg "_law_one" Pg ["_law_script","_law_at"]) (S_law:Src K mg "law" rh ["_law_script"]) (Ybn:Src K mg "_law_word" QW ["_law_e"])
  (zb:∀ x∈(["abs","all","bool","dict","divmod","enumerate","int","isinstance","len","list","max","min","range","reversed","set","sorted","str","sum","tuple","zip"]:List Str),ut K aC x=some none)
  (Za9:ut K aC "ValueError"=some none)
  (x0:XA K "NoPicture" c0 OO)
  (x1:XA K "OutOfPicture" c1 ON)
  (x2:XA K "NoMeet" c2 cd2)
  (x3:XA K "NoTile" c3 cd3)
  (x4:XA K "NoInks" c4 cd4)
  (x5:XA K "NoShares" c5 cd5)
  (x6:XA K "NoShade" c6 cd6)
  (x7:XA K "NoStretches" c7 OM)
  (x8:XA K "NoWay" c8 cd8)
  (x9:XA K "NoText" c9 cd9)
  (aB:ut K aC "DotError"=some (some (.ref B)))
  (qB:xB K B wV "ValueError.__new__"=true)
  (gn:Vm K (.builtin "object.__class__") "__get__"=some (some (.builtin "getset_descriptor.__get__")))
  (tk:Vo K (.builtin "object.__class__")=some true)
  (z0:XC K c0 B c0 c1 c2 c3 c4 c5 c6 c7 c8 c9 OO true false false false false false false false false false)
  (z1:XC K c1 B c0 c1 c2 c3 c4 c5 c6 c7 c8 c9 ON false true false false false false false false false false)
  (z7:XC K c7 B c0 c1 c2 c3 c4 c5 c6 c7 c8 c9 OM false false false false false false false true false false)
  (kC_Picture:CK K "Picture" Yf qbu)
  (ZaG:Wc K (.ref Yf) "most"=some none)
  (YaE:Wc K (.ref Yf) "rows"=some none)
  (kC_Way:CK K "Way" Yw yc2)
  (kC_FroWay:CK K "FroWay" Qg qbZ)
  (kC_ColumnWay:CK K "ColumnWay" Yd ya3)
  (kC_FoldedWay:CK K "FoldedWay" qd zbc)
  (kC_MaskedWay:CK K "MaskedWay" Yc qa9)
  (Yay:Wc K (.ref Yc) "way"=some none)
  (Yan:Wc K (.ref Yc) "mask"=some none)
  (QaJ:ua K (.ref Yf) (.ref Yw)=some false)
  (Yag:ua K (.ref Yf) (.ref Qg)=some false)
  (QX:ua K (.ref Yf) (.ref Yd)=some false)
  (yW:ua K (.ref Yf) (.ref qd)=some false)
  (QV:ua K (.ref Yf) (.ref Yc)=some false)
  (QaK:ua K (.ref Yw) (.ref Yf)=some false)
  (qaS:ua K (.ref Yw) (.ref Qg)=some false)
  (Zam:ua K (.ref Yw) (.ref Yd)=some false)
  (Qaq:ua K (.ref Yw) (.ref qd)=some false)
  (Yao:ua K (.ref Yw) (.ref Yc)=some false)
  (yaj:ua K (.ref Qg) (.ref Yf)=some false)
  (YaP:ua K (.ref Qg) (.ref Yw)=some true)
  (Q1:ua K (.ref Qg) (.ref Yd)=some false)
  (Y2:ua K (.ref Qg) (.ref qd)=some false)
  (Z4:ua K (.ref Qg) (.ref Yc)=some false)
  (qW:ua K (.ref Yd) (.ref Yf)=some false)
  (Qam:ua K (.ref Yd) (.ref Yw)=some true)
  (Y4:ua K (.ref Yd) (.ref Qg)=some false)
  (zS:ua K (.ref Yd) (.ref qd)=some false)
  (YT:ua K (.ref Yd) (.ref Yc)=some false)
  (yY:ua K (.ref qd) (.ref Yf)=some false)
  (Zao:ua K (.ref qd) (.ref Yw)=some true)
  (Y5:ua K (.ref qd) (.ref Qg)=some false)
  (YS:ua K (.ref qd) (.ref Yd)=some false)
  (zT:ua K (.ref qd) (.ref Yc)=some false)
  (qV:ua K (.ref Yc) (.ref Yf)=some false)
  (zap:ua K (.ref Yc) (.ref Yw)=some true)
  (Z3:ua K (.ref Yc) (.ref Qg)=some false)
  (QQ:ua K (.ref Yc) (.ref Yd)=some false)
  (qQ:ua K (.ref Yc) (.ref qd)=some false)
  (ik_Picture:IK K Yf O6)
  (fi_Picture:FE K "__init__" "Picture.__init__" ZG O6)
  (ik_MaskedWay:IK K Yc L5)
  (fi_MaskedWay:FE K "__init__" "MaskedWay.__init__" YC L5)
  (qa5:Wc K (.ref Yw) "order"=some (some (.ref O8)))
  (fm_Way_order:FE K "order" "Way.order" NQ O8)
  (zbm:Wc K (.ref Yw) "word"=some (some (.ref PY)))
  (fm_Way_word:FE K "word" "Way.word" MU PY)
  (Qay:Wc K (.ref Qg) "order"=some (some (.ref zP)))
  (fm_FroWay_order:FE K "order" "FroWay.order" ZV zP)
  (qaE:Wc K (.ref Qg) "word"=some (some (.ref ZU)))
  (fm_FroWay_word:FE K "word" "FroWay.word" Q8 ZU)
  (Yab:Wc K (.ref Yd) "order"=some (some (.ref YD)))
  (fm_ColumnWay_order:FE K "order" "ColumnWay.order" qK YD)
  (Zai:Wc K (.ref Yd) "word"=some (some (.ref yG)))
  (fm_ColumnWay_word:FE K "word" "ColumnWay.word" yO yG)
  (zab:Wc K (.ref qd) "order"=some (some (.ref qD)))
  (fm_FoldedWay_order:FE K "order" "FoldedWay.order" yK qD)
  (zai:Wc K (.ref qd) "word"=some (some (.ref YH)))
  (fm_FoldedWay_word:FE K "word" "FoldedWay.word" zO YH)
  (Qab:Wc K (.ref Yc) "order"=some (some (.ref QD)))
  (fm_MaskedWay_order:FE K "order" "MaskedWay.order" QJ QD)
  (Yad:Wc K (.ref Yc) "word"=some (some (.ref ZI)))
  (fm_MaskedWay_word:FE K "word" "MaskedWay.word" YM ZI)
  (zda:rp K Yw)
  (zb0:rp K Qg)
  (Ya3:rp K Yd)
  (za8:rp K qd)
  (al:ut K aC "law"=some (some (.ref La)))
  (ll:K.lookup La=some ⟨ycW,ZcW,.func (Xi "law" "law" (Yr rh) (qj rh) (yb rh) .none Nn Ri Rh LD HB LA),Qc4⟩)
  (kl:Uo K HB "law"=true)
  (kq:vg K (.ref La)=true) :
  ∃ fd:bu,(∀(s:ag)(v:Value),gH s fd ⟨[v],[]⟩ [("_law_script",v)])/\∀ base:Heap,K.In base->base.Ns aC mg->fF l.prog w K mg base (kL l.prog w) 20 fa fd ["_law_script"] (DB K):=by
 have e:=hfa.symm.trans (Wg X G al);cases e;have Fl:=Dz (st:=rh) ll kl kq;have TM:u0 (Dl K mg prog (pW K Yf Yw Qg Yd qd Yc c0 c1 c7 B)) nU:=⟨O4 X G kC_Picture fi_Picture ik_Picture (λ_ _ _ _ _ _ us hl=>by obtain⟨_,_,_,rfl⟩:=pL hl;rfl) Qaa rfl,zL kC_Way fm_Way_order qa5 (λ_ _ _ _ _ _ us hl=>by obtain⟨_,_,_,rfl⟩:=pL hl;rfl) Qbh rfl rfl,zL kC_Way fm_Way_word zbm (λ_ _ _ _ _ _ us hl=>by obtain⟨_,rfl⟩:=tJ hl;rfl) ybz rfl rfl,zL kC_FroWay fm_FroWay_order Qay (λ_ _ _ _ _ _ us hl=>by obtain⟨_,_,_,rfl⟩:=pL hl;rfl) ZaD rfl rfl,zL kC_FroWay fm_FroWay_word qaE (λ_ _ _ _ _ _ us hl=>by obtain⟨_,rfl⟩:=tJ hl;rfl) ZaO rfl rfl,zL kC_ColumnWay fm_ColumnWay_order Yab (λ_ _ _ _ _ _ us hl=>by obtain⟨_,_,_,rfl⟩:=pL hl;rfl) Yaf rfl rfl,zL kC_ColumnWay fm_ColumnWay_word Zai (λ_ _ _ _ _ _ us hl=>by obtain⟨_,rfl⟩:=tJ hl;rfl) qao rfl rfl,zL kC_FoldedWay fm_FoldedWay_order zab (λ_ _ _ _ _ _ us hl=>by obtain⟨_,_,_,rfl⟩:=pL hl;rfl) yag rfl rfl,zL kC_FoldedWay fm_FoldedWay_word zai (λ_ _ _ _ _ _ us hl=>by obtain⟨_,rfl⟩:=tJ hl;rfl) zaq rfl rfl,O4 X G kC_MaskedWay fi_MaskedWay ik_MaskedWay (λ_ _ _ _ _ _ us hl=>by obtain⟨_,_,_,rfl⟩:=pL hl;rfl) zY rfl,zL kC_MaskedWay fm_MaskedWay_order Qab (λ_ _ _ _ _ _ us hl=>by obtain⟨_,_,_,rfl⟩:=pL hl;rfl) Yae rfl rfl,zL kC_MaskedWay fm_MaskedWay_word Yad (λ_ _ _ _ _ _ us hl=>by obtain⟨_,rfl⟩:=tJ hl;rfl) yao rfl rfl,trivial⟩;have TS:u0 (rj K mg (pW K Yf Yw Qg Yd qd Yc c0 c1 c7 B)) rJ:=⟨qi X G kC_Picture kC_Picture kC_Picture.s0 rfl,qi X G kC_Picture kC_Way QaJ rfl,qi X G kC_Picture kC_FroWay Yag rfl,qi X G kC_Picture kC_ColumnWay QX rfl,qi X G kC_Picture kC_FoldedWay yW rfl,qi X G kC_Picture kC_MaskedWay QV rfl,Yi kC_Picture rfl,Yi kC_Picture rfl,Yi kC_Picture rfl,Yi kC_Picture rfl,Yi kC_Picture rfl,Yi kC_Picture rfl,qi X G kC_Way kC_Picture QaK rfl,qi X G kC_Way kC_Way kC_Way.s0 rfl,qi X G kC_Way kC_FroWay qaS rfl,qi X G kC_Way kC_ColumnWay Zam rfl,qi X G kC_Way kC_FoldedWay Qaq rfl,qi X G kC_Way kC_MaskedWay Yao rfl,Yi kC_Way rfl,Yi kC_Way rfl,Yi kC_Way rfl,Yi kC_Way rfl,Yi kC_Way rfl,Yi kC_Way rfl,qi X G kC_FroWay kC_Picture yaj rfl,qi X G kC_FroWay kC_Way YaP rfl,qi X G kC_FroWay kC_FroWay kC_FroWay.s0 rfl,qi X G kC_FroWay kC_ColumnWay Q1 rfl,qi X G kC_FroWay kC_FoldedWay Y2 rfl,qi X G kC_FroWay kC_MaskedWay Z4 rfl,Yi kC_FroWay rfl,Yi kC_FroWay rfl,Yi kC_FroWay rfl,Yi kC_FroWay rfl,Yi kC_FroWay rfl,Yi kC_FroWay rfl,qi X G kC_ColumnWay kC_Picture qW rfl,qi X G kC_ColumnWay kC_Way Qam rfl,qi X G kC_ColumnWay kC_FroWay Y4 rfl,qi X G kC_ColumnWay kC_ColumnWay kC_ColumnWay.s0 rfl,qi X G kC_ColumnWay kC_FoldedWay zS rfl,qi X G kC_ColumnWay kC_MaskedWay YT rfl,Yi kC_ColumnWay rfl,Yi kC_ColumnWay rfl,Yi kC_ColumnWay rfl,Yi kC_ColumnWay rfl,Yi kC_ColumnWay rfl,Yi kC_ColumnWay rfl,qi X G kC_FoldedWay kC_Picture yY rfl,qi X G kC_FoldedWay kC_Way Zao rfl,qi X G kC_FoldedWay kC_FroWay Y5 rfl,qi X G kC_FoldedWay kC_ColumnWay YS rfl,qi X G kC_FoldedWay kC_FoldedWay kC_FoldedWay.s0 rfl,qi X G kC_FoldedWay kC_MaskedWay zT rfl,Yi kC_FoldedWay rfl,Yi kC_FoldedWay rfl,Yi kC_FoldedWay rfl,Yi kC_FoldedWay rfl,Yi kC_FoldedWay rfl,Yi kC_FoldedWay rfl,qi X G kC_MaskedWay kC_Picture qV rfl,qi X G kC_MaskedWay kC_Way zap rfl,qi X G kC_MaskedWay kC_FroWay Z3 rfl,qi X G kC_MaskedWay kC_ColumnWay QQ rfl,qi X G kC_MaskedWay kC_FoldedWay qQ rfl,qi X G kC_MaskedWay kC_MaskedWay kC_MaskedWay.s0 rfl,Yi kC_MaskedWay rfl,Yi kC_MaskedWay rfl,Yi kC_MaskedWay rfl,Yi kC_MaskedWay rfl,Yi kC_MaskedWay rfl,Yi kC_MaskedWay rfl,trivial⟩;have T:Text K mg prog (pW K Yf Yw Qg Yd qd Yc c0 c1 c7 B):=by
  refine⟨rfl,?_,?_,?_,?_,?_,?_,?_,?_,?_,?_,?_,?_,?_,?_,?_,?_,?_⟩
  ·exactλf d hd cT=>L8 (L:=sk) (P:=λf d=>f.toList.contains '.'=false->∃ st N ps,Src K mg (jk f) st ps/\(zh prog d N ps st=true\/Pp K mg prog (pW K Yf Yw Qg Yd qd Yc c0 c1 c7 B) f ps)) (by
   refine⟨?_,?_,?_,?_,?_,?_,?_,?_,?_,?_,?_,?_,?_,?_,?_,?_,?_,?_,?_,?_,?_,?_,?_,?_,?_,?_,?_,?_,?_,?_,?_,?_,?_,?_,?_,?_,?_,?_,?_,?_,?_,?_,?_,?_,trivial⟩
   ·exactλ_=>⟨_,_,_,ZcL,.inl qcy⟩
   ·exactλ_=>⟨_,_,_,ZbG,.inl qbG⟩
   ·exactλ_=>⟨_,_,_,QbI,.inl YbB⟩
   ·exactλ_=>⟨_,_,_,Qaw,.inl zax⟩
   ·exactλcT=>absurd cT (by decide)
   ·exactλ_=>⟨_,_,_,Qc9,.inl Yc7⟩
   ·exactλ_=>⟨_,_,_,Zde,.inl ydc⟩
   ·exactλ_=>⟨_,_,_,qbU,.inl ybY⟩
   ·exactλ_=>⟨_,_,_,QbA,.inl qbA⟩
   ·exactλ_=>⟨_,_,_,ZbI,.inl qbH⟩
   ·exactλ_=>⟨_,_,_,ybE,.inl ZbH⟩
   ·exactλ_=>⟨_,_,_,QbD,.inl YbG⟩
   ·exactλ_=>⟨_,_,_,YaR,.inl QaQ⟩
   ·exactλ_=>⟨_,_,_,YbC,.inl zbE⟩
   ·exactλ_=>⟨_,_,_,Qag,.inl yak⟩
   ·exactλ_=>⟨_,_,_,qa2,.inl qa8⟩
   ·exactλ_=>⟨_,_,_,zaz,.inl yay⟩
   ·exactλcT=>absurd cT (by decide)
   ·exactλcT=>absurd cT (by decide)
   ·exactλcT=>absurd cT (by decide)
   ·exactλcT=>absurd cT (by decide)
   ·exactλcT=>absurd cT (by decide)
   ·exactλcT=>absurd cT (by decide)
   ·exactλcT=>absurd cT (by decide)
   ·exactλcT=>absurd cT (by decide)
   ·exactλcT=>absurd cT (by decide)
   ·exactλcT=>absurd cT (by decide)
   ·exactλcT=>absurd cT (by decide)
   ·exactλ_=>⟨_,_,_,zaO,.inl ZaR⟩
   ·exactλ_=>⟨_,_,_,zaJ,.inl zaM⟩
   ·exactλ_=>⟨_,_,_,yaP,.inl yaR⟩
   ·exactλ_=>⟨_,_,_,ybm,.inl Zbq⟩
   ·exactλ_=>⟨_,_,_,Zbf,.inl qbi⟩
   ·exactλ_=>⟨_,_,_,Qbf,.inl Ybk⟩
   ·exactλ_=>⟨_,_,_,Zbl,.inl zbo⟩
   ·exactλ_=>⟨_,_,_,ZbE,.inl qbw⟩
   ·exactλ_=>⟨_,_,_,ZaC,.inl YaG⟩
   ·exactλ_=>⟨_,_,_,Zbo,.inl Qbg⟩
   ·exactλ_=>⟨_,_,_,Qbp,.inl Ybm⟩
   ·exactλ_=>⟨_,_,_,Za5,.inl Za6⟩
   ·exactλ_=>⟨_,_,_,QaC,.inl QaH⟩
   ·exactλ_=>⟨_,_,_,yaT,.inl qaN⟩
   ·exactλ_=>⟨_,_,_,zbF,.inl Zbx⟩
   ·exactλ_=>⟨_,_,_,S_law,.inl LF⟩) hd cT
  ·exactλc f hi=>qc8 TM hi
  ·intro x hx;simp only[eP,dO,aY,uI,Vf,Wb,Ud,or_false] at hx
   rcases hx with rfl|rfl|rfl|rfl|rfl|rfl|rfl|rfl|rfl|rfl|rfl|rfl|rfl|rfl|rfl|rfl|rfl|rfl|rfl|rfl|rfl
   all_goals exact Vr X G (zb _ (by simp))
  ·intro c f hf;simp only[prog] at hf;split at hf
   ·exact⟨⟨kC_Picture.pg,kC_Picture.hd,kC_Picture.po,kC_Picture.sa⟩,ZaG⟩
   ·exact⟨⟨kC_Picture.pg,kC_Picture.hd,kC_Picture.po,kC_Picture.sa⟩,YaE⟩
   ·exact⟨⟨kC_MaskedWay.pg,kC_MaskedWay.hd,kC_MaskedWay.po,kC_MaskedWay.sa⟩,Yay⟩
   ·exact⟨⟨kC_MaskedWay.pg,kC_MaskedWay.hd,kC_MaskedWay.po,kC_MaskedWay.sa⟩,Yan⟩
   ·cases hf
  ·exactλc t b hs=>J3 TS hs gn tk
  ·exactλc t b hs ht=>((qz TS hs).2.2.1 ht).2
  ·exactλc t b hs ht=>(qz TS hs).2.2.2 ht
  ·exactλt c b hs ht TT hTT=>tyT TS hs ht hTT
  ·intro c hc;simp only[prog] at hc;split at hc
   ·exact⟨z0.q,Wg X G x0.a⟩
   ·exact⟨z1.q,Wg X G x1.a⟩
   ·exact⟨z7.q,Wg X G x7.a⟩
   ·cases hc
  ·intro wd hw;simp only[prog] at hw;split at hw
   ·refine⟨qB,Wg X G aB,λP w base=>⟨_,fG.imp (qcH Ybn (Vr X G (zb "isinstance" (by simp))) (Vr X G (zb "range" (by simp))) (Vr X G (zb "len" (by simp))) (Vr X G Za9) (Wg X G x0.a) (Wg X G x1.a) (Wg X G x2.a) (Wg X G x3.a) (Wg X G x4.a) (Wg X G x5.a) (Wg X G x6.a) (Wg X G x7.a) (Wg X G x8.a) (Wg X G x9.a)) ?_⟩,?_⟩
    ·intro x C vs H Q E ⟨e1,c,s,e2,hs,hQ⟩;refine⟨e1,?_⟩;simp only[prog] at hs;split at hs
     ·cases hs;rw[show C=c0 from e2];exact⟨0,z0.word gn tk x0 x0 x1 x2 x3 x4 x5 x6 x7 x8 x9 0 (by decide) rfl,hQ⟩
     ·cases hs;rw[show C=c1 from e2];exact⟨1,z1.word gn tk x1 x0 x1 x2 x3 x4 x5 x6 x7 x8 x9 1 (by decide) rfl,hQ⟩
     ·cases hs;rw[show C=c7 from e2];exact⟨7,z7.word gn tk x7 x0 x1 x2 x3 x4 x5 x6 x7 x8 x9 7 (by decide) rfl,hQ⟩
     ·cases hs
    ·intro c s hs;simp only[prog] at hs;split at hs
     ·exact z0.un_of x0
     ·exact z1.un_of x1
     ·exact z7.un_of x7
     ·cases hs
   ·cases hw
  ·exactλt ht=>nomatch (show false=true from ht)
  ·exactλc t b hs=>nomatch (show none=some b from hs)
  ·exactλf ds h=>nomatch (show false=true from h)
  ·exactλc m f hm _=>Zc4 TM hm
  ·intro c hc;simp only[prog] at hc;split at hc
   ·exact⟨zda,Wg X G kC_Way.a⟩
   ·exact⟨zb0,Wg X G kC_FroWay.a⟩
   ·exact⟨Ya3,Wg X G kC_ColumnWay.a⟩
   ·exact⟨za8,Wg X G kC_FoldedWay.a⟩
   ·cases hc
  ·intro x i hx;simp only[prog] at hx;cases hx
  ·exactλh=>nomatch (show false=true from h)
 exact⟨Xi "law" "law" (Yr rh) (qj rh) (yb rh) .none Nn Ri Rh LD HB LA,λs v=>.of_eq rfl,λbase kb _=>zc5 (n:=9) T kb (λz=>absurd rfl z) Fl rfl LF (λns hl=>MP.pB 0 ns hl)⟩
end SD
open PySem PySem.W PyProof.Rows L2 L3 M3 SD
set_option maxRecDepth 100000 in
set_option maxHeartbeats 0 in
theorem PySem.Challenge.cw_dotscreen_k52_stretches_holds : PySem.Challenge.rw_dotscreen_k52_stretches.Holds := by
 w_on;o_law;k_head;(case hw=>w_witness2)
 k_fill
 refine SD.walk (l:=PySem.Challenge.rw_dotscreen_k52_stretches) (k:=20) rfl rfl ⟨rfl,by decide,by decide⟩ (λw h Y=>PySem.W.kIn_of Y) ?F
 case F =>
  intro w mg fa h KX G B9;refine' SD.all_mk KX G B9 ?s0 ?s1 ?s2 ?s3 ?s4 ?s5 ?s6 ?s7 ?s8 ?s9 ?vW ?s11 ?s12 ?s13 ?s14 ?s15 ?s16 ?s17 ?s18 ?s19 ?s20 ?s21 ?s22 ?s23 ?s24 ?s25 ?s26 ?s27 ?s28 ?s29 ?s30 ?s31 ?s32  ?x0 ?x1 ?x2 ?x3 ?x4 ?x5 ?x6 ?x7 ?x8 ?x9 ?x10 ?x11 ?x12 ?x13 ?x14 ?x15 ?x16 ?x17 ?x18 ?x19 ?x20 ?x21 ?x22 ?x23 ?x24 ?x25 ?x26 ?x27 ?x28 ?x29 ?x30 ?x31 ?x32 ?x33 ?x34 ?x35 ?x36 ?x37 ?x38 ?x39 ?x40 ?x41 ?x42 ?x43 ?x44 ?x45 ?x46 ?x47 ?x48 ?x49 ?x50 ?x51 ?x52 ?x53 ?x54 ?x55 ?x56 ?x57 ?x58 ?x59 ?x60 ?x61 ?x62 ?x63 ?x64 ?x65 ?x66 ?x67 ?x68 ?x69 ?x70 ?x71 ?x72 ?x73 ?x74 ?x75 ?x76 ?x77 ?x78 ?x79 ?x80 ?x81 ?x82 ?x83 ?x84 ?x85 ?x86 ?x87 ?x88 ?x89 ?x90
  (case s0|s1|s4|s5|s6|s16|s17|s31|s32 =>
   try dsimp only[L2.Dt]
   refine' SD.iG KX G (λ_ _ _ _ _ _ us hl=>by obtain⟨_,rfl⟩:=SD.tJ hl;rfl) ?a ?l ?c ?k
   (case a|l|c|k=>k_is))
  (case s2|s12|s15 =>
   try dsimp only[L2.Dt]
   refine' SD.iG KX G (λ_ _ _ _ _ _ us hl=>by obtain⟨_,_,_,rfl⟩:=SD.pL hl;rfl) ?a ?l ?c ?k
   (case a|l|c|k=>k_is))
  (case s3|s7|s8|s9|vW|s11|s13|s18|s19|s20|s21|s24|s29|s30 =>
   try dsimp only[L2.Dt]
   refine' SD.iG KX G (λ_ _ _ _ _ _ us hl=>by obtain⟨_,_,rfl⟩:=SD.ln2 hl;rfl) ?a ?l ?c ?k
   (case a|l|c|k=>k_is))
  (case s14|s22|s25 =>
   try dsimp only[L2.Dt]
   refine' SD.iG KX G (λ_ _ _ _ _ _ us hl=>by obtain⟨_,_,_,_,_,rfl⟩:=SD.Oc hl;rfl) ?a ?l ?c ?k
   (case a|l|c|k=>k_is))
  (case s23|s27 =>
   try dsimp only[L2.Dt]
   refine' SD.iG KX G (λ_ _ _ _ _ _ us hl=>by obtain⟨_,_,_,_,rfl⟩:=SD.Od hl;rfl) ?a ?l ?c ?k
   (case a|l|c|k=>k_is))
  (case s26|s28 =>
   try dsimp only[L2.Dt]
   refine' SD.iG KX G (λ_ _ _ _ _ _ us hl=>by obtain⟨_,_,_,_,_,_,rfl⟩:=SD.ln6 hl;rfl) ?a ?l ?c ?k
   (case a|l|c|k=>k_is))
  (case x19|x22|x23|x24|x25|x26=>
   refine' SD.CK.mk ?a ?b ?c ?d ?e ?f ?g ?h ?i ?j ?k ?l ?m ?n ?o ?z
   (case a|b|c|d|e|f|g|h|i|j|k|l|m|n|o|z=>k_is))
  (case x2|x3|x4|x5|x6|x7|x8|x9|x10|x11=>
   refine' SD.XA.mk ?a ?b ?c
   (case a|b|c=>k_is))
  (case x1|x12|x14|x15|x20|x21|x27|x28|x29|x30|x31|x32|x33|x34|x35|x36|x37|x38|x39|x40|x41|x42|x43|x44|x45|x46|x47|x48|x49|x50|x51|x52|x53|x54|x55|x56|x57|x58|x63|x65|x67|x69|x71|x73|x75|x77|x79|x81|x87|x88|x89|x90=>k_is)
  (case x83|x84|x85|x86=>
   refine' L3.rp.mk ?a ?b ?c
   (case a|b|c=>k_is))
  (case x59|x61=>
   refine' SD.IK.mk ?a ?b ?c
   (case a|b|c=>k_is))
  (case x60|x62|x64|x66|x68|x70|x72|x74|x76|x78|x80|x82=>
   refine'⟨_,_,_,_,_,_,_,_,_,SD.FK.mk ?a ?b ?c ?d⟩
   (case a|b|c|d=>k_is))
  (case x13=>k_exc)
  (case x16|x17|x18=>
   refine' SD.XC.mk ?u ?v ?a ?b ?c ?d ?e ?f ?g ?h ?i ?j ?k ?l ?m ?n ?o ?z
   (case u=>k_exc);(case v=>rfl)
   (case a|b|c|d|e|f|g|h|i|j|k|l|m|n|o|z=>k_is))
  (case x0=>intro z hz;simp only[Wb,Ud,or_false] at hz;rcases hz with rfl|rfl|rfl|rfl|rfl|rfl|rfl|rfl|rfl|rfl|rfl|rfl|rfl|rfl|rfl|rfl|rfl|rfl|rfl|rfl <;> k_is)
end